import PyProof.Rows.All
import Wide.All
import OpenK.AllK
import Wide.FinOn
import Lean
import PyProof.EqAt
import PyProof.EqKinds
import PyProof.TupleCall
import PySem.Challenge.RW_phialhouse_k33_draws_and_fills
set_option Elab.async false
set_option linter.all false
set_option maxRecDepth 100000
set_option maxHeartbeats 4000000
open PySem.W renaming Frag→Aa, kitOne→Ao, nsIn→Ar, mg_none_of→AO, findIn→Bd, mg_of→BQ, fnOf→Cm, emptyDict→Ct, keepIn→Cw, instObj→Dl, codeIn→DY, callWith_K→En
open PySem renaming wpAny_bind→Ab, wpAny_pure→Af, mainGlobals→An, sizeLine→Ax, Program→Az, Spec→AA, Builtin→AH, starEach→AU, wpAny_newObj_type→AZ, FuncData→Bf, wpAny_loadPart_at→Bi, NameKind→Bj, wpAny_call_entry→Bv, wpAny_holding→Bw, wpAny_callSpecial?_slot→Bz, boot_len→BC, wpAny_field→BM, compareOp→BN, wpAny_mono→BW, SetTable→BX, bootBuiltins→Cd, PassesOwn→Cf, codeAny_mono→Ck, wpAny_setField_rec→Cq, codeAny_builtin→Cr, codeAny_call_builtin→Cv, mem_of_lookup→CS, wpAny_seqItems→CW, wpAny_rule→Dp, wpAny_Call_Name_kw→Dr, wpAny_truthy_bool→DC, wpAny_attempt→DG, sysModules→DO, codeAny→DR, wpAny_typeOf→Ed, wpAny_passesOwn→Ee, wpAny_setState_of→Eh, binaryOp→Ei, attributeBase→Ej, wpAny_askSetting→Eu, wpAny_setEntries_of→EA, wpAny_of_eq→EB, wpAny_call→ED, wpAny_pyIter_tuple→EJ, scanBound→EL, plainId_quiet→EM, plainObj_wpAny_Assign_Attribute→EX, fits_of_scanBound→EY, Builtin→Fc, wpAny_setField→Fe, reprText→Ff, wpAny_isInstance→Fj, wpAny_standAt→Fo, wpAny_execs_nil→Fw, letOwnedTupleGo→Fx, codeAny_of_tree→Fy
open PySem.Heap renaming get?_push_of_some→Ac, get?_push_size→Ah, lt_size→Aq, get?_update_other→AW, size_push→BJ, get?_update_self→BP, SameBut→Ci, get?_push_ne→EG
open List renaming getElem?_eq_getElem→Ad, getElem?_eq_some_iff→Ae, length_map→Ag, size_toArray→Ai, mem_cons_of_mem→Aj, map_cons→Al, getElem?_map→As, mem_cons_self→Au, mem_of_getElem?→Av, forall_mem_cons→Ay, mem_singleton→AB, mem_cons→AE, length_append→AF, length_cons→AI, sum_cons→AL, mem_append_right→AM, mem_map→AS, range→Be, mem_append→Br, map_append→Bs, getElem?_eq_none→Bu, take_length→BH, nodup_cons→BO, getElem?_set_ne→BU, zip_cons_cons→BY, getElem?_set_self→Ca, append_nil→Cb, pairwise_map→Cg, getElem?_append_right→Cu, mem_map_of_mem→Cy, map_map→CC, all_eq_true→CJ, length_eq_zero_iff→CN, replicate→CO, take_add_one→CQ, length_set→CT, filterMap_cons→CU, lookup_cons→Da, pairwise_iff_getElem→Di, mem_range→Dj, getElem?_append_left→Dk, find?_cons→Ds, lookup→DB, getElem_mem→DE, filter_append→DI, nodup_nil→Ef, not_mem_nil→Ek, length_take→El, map_congr_left→Em, of_mem_zip→Ew, getElem?_replicate→Ex, filter_cons_of_pos→Ey, filter_cons_of_neg→Ez, take_of_length_le→EE, length_singleton→EO, le_antisymm→EU, getElem?_of_mem→Fd, sum_append→Fh, foldl_cons→Fi, getD_eq_getElem?_getD→Fn, mem_or_eq_of_mem_set→Ft, getElem?_zip_eq_some→Fu
open Nat renaming le_refl→Ak, ne_of_lt→Aw, lt_of_lt_of_le→AR, le_trans→Bh, zero_le→BK, lt_succ_of_lt→Cj, lt_succ_self→Cn, lt_irrefl→CB, lt_trans→CG, lt_of_le_of_lt→Dg, le_succ→Dm, ne_of_gt→Dz
open Bool renaming false_ne_true→AC, and_eq_true→Ce, false_eq_true→De, eq_iff_iff→DQ
open PySem.Value renaming ref→AD, none→BR, type→CY, builtin→CZ, isStrOf_shape→Dx, isStrOf→EZ
open Int renaming eq_ofNat_of_zero_le→AG, mul_right_comm→AJ, mul_pos→Ba, mul_le_mul_of_nonneg_left→Bg, mul_nonneg→Bk, mul_assoc→Bp, mul_le_mul_of_nonneg_right→BD, eq_of_mul_eq_mul_right→BF, ediv_le_self→BI, mul_comm→BZ, zero_mul→Co, toNat_natCast→Cz, mul_lt_mul_right→Du, mul_ediv_cancel_left→Dw, ediv_mul_cancel→DD, le_refl→DS, ediv_nonneg→DT, le_of_mul_le_mul_right→Eb, le_trans→Ep, le_of_lt→Er, le_ediv_iff_mul_le→EF, mul_le_mul→ER, le_of_dvd→Fg, mul_eq_zero→Fk, lt_of_le_of_lt→Fv
open Option.some renaming inj→AK
open Sum renaming inr→AN
open Ne renaming symm→AQ
open PySem.PassesOwn renaming never→AV
open PySem.NameKind renaming free→AX, cell→CI
open PySem.F renaming plainAttrs_list→AY, type_list_append→Bb, slot_list_append→Bc, called_set→Cc, kt_called_dict→CM, slot_dict_get→DH, slot_tuple_iterator_next→Eg, attr_ValueError→Eo, typeOf_object_class→Fb, args_tuple_add_2→Fp, plainAttrs_dict→FA, entry_tuple_add→FB, slot_tuple_getattribute→FC
open Option renaming some→Bl, map_eq_some_iff→BB, map_some→Dq
open PySem.SeqAt renaming EqAt→Bm
open PySem.Builtin.SmallTypes renaming nextOf→Bo, ownedTupleIsFree→CA, ownedTupleHandOut→Fm
open Array renaming getElem?_toList→Bq, length_toList→BE, getElem?_eq_some_iff→Cp, perm_iff_toList_perm→DW, toArray_toList→EW, getElem?_eq_getElem→Fs
open PyProof.Rows renaming boot_isinstance→BA, slot_tuple_getitem→BL, wpS_bind→BV, wpS_pure→Dd, callWith_type1→Dy, StrsAre→EN
open Decidable renaming byContradiction→BG
open False renaming elim→CH
open PySem.Around renaming under_plainId→CL
open PySem.Str renaming ofString→CP
open PySem.Calls renaming callWith_builtin→CV, spliced_cons→Et, evalArgs_plain→EV, call_function_entry→Fq
open ForInStep renaming yield→Dh
open True renaming intro→DF
open PySem.Code renaming quiet_builtin→DJ
open PySem.Builtin.Slice renaming slicePlaces→DM, sliceAdjust→ET
open PySem.Builtin.Tuple renaming tupleExact→DP
open PySem.SetTable renaming grown→DU, below→DV
open PySem.Obj renaming mapSeq→DZ, mapFields→Ea, data_mapFields→EC, isFreed_of_fields→ES
open LawfulBEq renaming eq_of_beq→Es
open PySem.Heap.SameBut renaming update→EH
open PySem.Builtin.List renaming listExtendWith→EI
open PyProof.Rows.F renaming plain_set_update_loop→FD
namespace L2
open PySem PySem.Spec PyProof.Rows
def zLn0:0<=Ax:=by decide
def zLn1:1<=Ax:=by decide
def zLn2:2<=Ax:=by decide
def zLn3:3<=Ax:=by decide
def zLn4:4<=Ax:=by decide
def zLn5:5<=Ax:=by decide
def zLn6:6<=Ax:=by decide
def zLn9:9<=Ax:=by decide
abbrev Key:=Sum Int Str
def tQ:Key->Value->Bool
 |.inl k,v=>Value.isInt k v
 |.inr x,v=>EZ x v
def keyH (w:World):Key->Int
 |.inl k=>hashInt k
 |.inr x=>hashStr w x
def cQ:∀ {k:Key} {v:Value},tQ k v=true->(∃ i t,k=Sum.inl i/\v=Value.int i t)\/(∃ x t,k=AN x/\v=Value.str x t)
 |.inl i,v,h=>by
  obtain ⟨t,e⟩:=Value.isInt_shape (k:=i) (v:=v) h;exact .inl ⟨i,t,rfl,e⟩
 |.inr x,v,h=>by
  obtain ⟨t,e⟩:=Dx (x:=x) (v:=v) h;exact .inr ⟨x,t,rfl,e⟩
def xD (i:Int)(t:Tok):tQ (.inl i) (.int i t)=true:=by simp [tQ,Value.isInt]
def xC (x:Str)(t:Tok):tQ (.inr x) (.str x t)=true:=by simp [tQ,EZ]
theorem aGo (a b:Int):decide ((Sum.inl a:Key)=Sum.inl b)=(a==b):=by
 by_cases e:a=b
 ·subst e;simp
 ·have h:¬ (Sum.inl a:Key)=Sum.inl b:=λq=>e (Sum.inl.inj q)
  rw [decide_eq_false h];exact (beq_eq_false_iff_ne.mpr e).symm
theorem aGl (a b:Str):decide ((AN a:Key)=AN b)=decide (a=b):=by
 by_cases e:a=b
 ·subst e;simp
 ·have h:¬ (AN a:Key)=AN b:=λq=>e (AN.inj q)
  rw [decide_eq_false h,decide_eq_false e]
theorem aGn (a:Int)(b:Str):decide ((Sum.inl a:Key)=AN b)=false:=decide_eq_false (λq=>nomatch q)
theorem aGm (a:Str)(b:Int):decide ((AN a:Key)=Sum.inl b)=false:=decide_eq_false (λq=>nomatch q)
def bI (prog:Az)(w:World):PySem.KeyKind prog w Key where
 is:=tQ
 hash:=keyH w
 inj:=λv a b ha hb=>by
  rcases cQ ha with ⟨i,t,rfl,rfl⟩|⟨x,t,rfl,rfl⟩
  ·rcases cQ hb with ⟨j,u,rfl,e⟩|⟨y,u,rfl,e⟩
   ·injection e with e1 _;rw [e1]
   ·exact nomatch e
  ·rcases cQ hb with ⟨j,u,rfl,e⟩|⟨y,u,rfl,e⟩
   ·exact nomatch e
   ·injection e with e1 _;rw [e1]
 byValue:=λk v h=>by
  rcases cQ h with ⟨i,t,rfl,rfl⟩|⟨x,t,rfl,rfl⟩<;>rfl
 pyHash:=λhv h=>by
  rcases cQ hv with ⟨i,t,rfl,rfl⟩|⟨x,t,rfl,rfl⟩
  ·exact wpAny_pyHash_int h
  ·exact wpAny_pyHash_str h
 eqBool:=λhu hv h=>by
  rcases cQ hu with ⟨i,t,rfl,rfl⟩|⟨x,t,rfl,rfl⟩
  ·rcases cQ hv with ⟨j,u,rfl,rfl⟩|⟨y,u,rfl,rfl⟩
   ·rw [aGo] at h;exact wpAny_eqBool_int h
   ·rw [aGn] at h;exact Bm.int_str i t y u _ _ _ _ h
  ·rcases cQ hv with ⟨j,u,rfl,rfl⟩|⟨y,u,rfl,rfl⟩
   ·rw [aGm] at h;exact Bm.str_int x t j u _ _ _ _ h
   ·rw [aGl] at h;exact wpAny_eqBool_str h
 «strs»:=λk x t v h=>by
  rcases cQ h with ⟨i,u,rfl,e⟩|⟨y,u,rfl,e⟩
  ·exact nomatch e
  ·injection e with e1 _
   subst e1;cases v<;>rfl
def pK (prog:Az)(w:World)(i:Int)(t:Tok):(bI prog w).is (.inl i) (.int i t)=true:=xD i t
def pJ (prog:Az)(w:World)(x:Str)(t:Tok):(bI prog w).is (.inr x) (.str x t)=true:=xC x t
inductive V where
 |non|bl (b:Bool)|int (i:Int)|str (x:Str)|byt (b:Array UInt8)|flt (b:UInt64)|ref (a:Addr)|ty (n:String)
 deriving DecidableEq
def RelV:V->Value->Prop
 |.non,u=>u=BR
 |.bl b,u=>u=Value.bool b
 |.int i,u=>∃ t,u=Value.int i t
 |.str x,u=>∃ t,u=Value.str x t
 |.byt b,u=>∃ t,u=Value.bytes b t
 |.flt b,u=>∃ t,u=Value.float b t
 |.ref a,u=>u=AD a
 |.ty n,u=>u=CY n
abbrev Vals:List V->List Value->Prop:=Paired RelV
theorem Vals.length (r:Vals xs us):xs.length=us.length:=Paired.length r
theorem Vals.get:∀ {xs:List V} {us:List Value} {i:Nat} {x:V},Vals xs us->xs[i]?=some x->∃ u,us[i]?=some u/\RelV x u
 |_,_,_,_,.nil,e=>by simp at e
 |_,_,0,_,.cons r _,e=>by simp at e;subst e;exact ⟨_,rfl,r⟩
 |_,_,i+1,x,.cons _ t,e=>by
  obtain ⟨u,h1,h2⟩:=Vals.get (i:=i) (x:=x) t (by simpa using e);exact ⟨u,by simpa using h1,h2⟩
theorem Vals.set (r:RelV x u):∀ {xs:List V} {us:List Value} (i:Nat),Vals xs us->Vals (xs.set i x) (us.set i u)
 |_,_,_,.nil=>.nil
 |_,_,0,.cons _ t=>.cons r t
 |_,_,i+1,.cons q t=>.cons q (Vals.set r i t)
theorem Vals.append:∀ {xs ys:List V} {us ws:List Value},Vals xs us->Vals ys ws->Vals (xs++ys) (us++ws)
 |_,_,_,_,.nil,s=>s
 |_,_,_,_,.cons r t,s=>.cons r (Vals.append t s)
theorem Vals.take:∀ {xs:List V} {us:List Value} (n:Nat),Vals xs us->Vals (xs.take n) (us.take n)
 |_,_,0,_=>.nil
 |_,_,_+1,.nil=>.nil
 |_,_,n+1,.cons r t=>.cons r (Vals.take n t)
theorem Vals.drop:∀ {xs:List V} {us:List Value} (n:Nat),Vals xs us->Vals (xs.drop n) (us.drop n)
 |_,_,0,r=>r
 |_,_,_+1,.nil=>.nil
 |_,_,n+1,.cons _ t=>Vals.drop n t
def RelO:Option V->Option Value->Prop
 |some v,some u=>RelV v u
 |none,none=>True
 |_,_=>False
def KV {κ:Type}:List (κ×V)->List (κ×Value)->Prop:=Paired λ(p:κ×V) (q:κ×Value)=>p.1=q.1/\RelV p.2 q.2
def kV:Key->V
 |.inl i=>.int i
 |.inr x=>.str x
inductive HO where
 |lst (xs:List V)
 |tup (xs:List V)
 |dK (kvs:List (Key×V))|dT (kvs:List (List Key×V))
 |set (S:Int->Bool) (n:Nat)
 |ins (C dx:Addr) (fs:List (Str×V))
 |own (x:Addr)
 |xd (fs:List (Str×V))
 |met (f x:Addr)
 |rng (lo hi:Int)
 |frz (o:Obj) (u:HO)
 |tbl (ps:Array Value)
 |ext (φ:Heap->Prop)
abbrev Hp:=Addr->Option HO
def upd (H:Hp)(a:Addr)(o:HO):Hp:=λb=>if b=a then some o else H b
theorem aB :upd H a o a=some o:=by unfold upd;rw [if_pos rfl]
theorem aH (h:b≠a):upd H a o b=H b:=by unfold upd;rw [if_neg h]
theorem aH6 {H:Hp}{a b:Addr}{o u:HO}(h:H a=some o)(h':H b=some u)(d:o≠u):a≠b:=by
 intro e;subst e;rw [h] at h';exact d (AK h')
theorem bE {H:Hp}{a b:Addr}{o:HO}(h:H a=some o)(h':H b=none):a≠b:=by
 intro e;subst e;rw [h] at h';cases h'
def NoD (h:Heap)(a:Addr):Prop:=∃ o,h.get? a=some o/\o.dict=none
theorem NoD.at (n:NoD h a)(e:h.get? a=some o):o.dict=none:=by
 obtain ⟨u,e1,e2⟩:=n;rw [e] at e1;cases e1;exact e2
section
variable (P:Az)(w:World)
def ObjOk (H:Hp)(h:Heap)(a:Addr):HO->Prop
 |.lst xs=>xs.length<=Ax/\∃ (its:List Value) (n:Nat),Vals xs its/\h.get? a=some { cls:=.type "list",data:=.seq its.toArray n }
 |.tup xs=>(xs.length<=Ax/\NoD h a)/\∃ its:List Value,Vals xs its/\IsTup h a its.toArray
 |.dK kvs=>kvs.length<=Ax/\(a==DO)=false/\∃ vs,KV kvs vs/\h.DictOf (bI P w) a vs
 |.dT kvs=>kvs.length<=Ax/\(a==DO)=false/\∃ xs:List (List Key×Addr×Value),
   Paired (λ(p:List Key×V) (q:List Key×Addr×Value)=>p.1=q.1/\H q.2.1=some (.tup (p.1.map kV))/\RelV p.2 q.2.2) kvs xs /\
   ∃ o es ep,h.get? a=some o/\o.ExactDict/\o.data=.dict es ep/\es.toList=xs.map (entryOfKey (tupleKind (bI P w)))/\(xs.map (·.1)).Nodup
 |.set S n=>h.SetOf (intKind P w) a S n
 |.ins C dx fs=>H dx=some (.own a)/\fs.length<=1000/\dx≠a/\h.get? a=some (Dl C dx) /\
   ∃ mA,h.Ns1 dx mA/\(∀ f,RelO (fs.lookup f) (mA f))/\PySem.Within mA (fs.map (·.1))
 |.own _=>∃ o,h.get? a=some o
 |.xd fs=>∃ mA,h.Ns1 a mA/\∀ f,RelO (fs.lookup f) (mA f)
 |.rng lo hi=>∃ t u v,h.get? a=some { cls:=.type "range",data:=.fields #[.int lo t,.int hi u,.int 1 v] }
 |.frz o u=>h.get? a=some o/\ObjOk H h a u
 |.tbl ps=>h.get? a=some { cls:=.none,data:=.fields ps }
 |.met f x=>h.get? a=some (PySem.W.methodObj (.ref f) (.ref x))
 |.ext φ=>φ h/\(∃ o,h.get? a=some o)/\∀ h1 h2:Heap,φ h1->(∀ o,h1.get? a=some o->h2.get? a=some o)->φ h2
def HOk (H:Hp)(h:Heap):Prop:=∀ a o,H a=some o->ObjOk P w H h a o
end
section
variable {P:Az}{w:World}{H H':Hp}{h h':Heap}{a:Addr}{o:HO}
theorem ObjOk.lt (x:ObjOk P w H h a o):a<h.objs.size:=by
 cases o with
 |lst xs=>obtain ⟨_,_,_,_,e⟩:=x;exact Aq e
 |tup xs=>obtain ⟨_,_,_,p⟩:=x;exact p.lt
 |dK kvs=>obtain ⟨_,_,_,_,o,_,_,e,_⟩:=x;exact Aq e
 |dT kvs=>obtain ⟨_,_,_,_,o,_,_,e,_⟩:=x;exact Aq e
 |set S n=>obtain ⟨o,_,_,_,e,_⟩:=x;exact Aq e
 |ins C dx fs=>obtain ⟨_,_,_,e,_⟩:=x;exact Aq e
 |own y=>obtain ⟨_,e⟩:=x;exact Aq e
 |xd fs=>obtain ⟨_,⟨_,_,_,e,_⟩,_⟩:=x;exact Aq e
 |rng lo hi=>obtain ⟨_,_,_,e⟩:=x;exact Aq e
 |frz ob u=>obtain ⟨e,_⟩:=x;exact Aq e
 |tbl ps=>exact Aq (show h.get? a=some _ from x)
 |met f y=>exact Aq (show h.get? a=some _ from x)
 |ext φ=>obtain ⟨_,⟨_,e⟩,_⟩:=x;exact Aq e
theorem Paired.mapP {α β:Type}{F G:α->β->Prop}:∀ {l₁:List α} {l₂:List β},Paired F l₁ l₂->(∀ a b,F a b->G a b)->Paired G l₁ l₂
 |_,_,.nil,_=>.nil
 |_,_,.cons r t,f=>.cons (f _ _ r) (Paired.mapP t f)
def ObjOk.stay (x:ObjOk P w H h a o)(k:∀ b u,(b=a\/H b=some (.own a))->h.get? b=some u->h'.get? b=some u)
  (ho:∀ b,H b=some (.own a)->H' b=some (.own a)) (ht:∀ b xs,H b=some (.tup xs)->H' b=some (.tup xs)):ObjOk P w H' h' a o:=by
 induction o with
 |lst xs=>obtain ⟨z,its,n,r,e⟩:=x;exact ⟨z,its,n,r,k _ _ (.inl rfl) e⟩
 |tup xs=>obtain ⟨⟨z,o1,e1,d1⟩,its,r,ob,e,c⟩:=x;exact ⟨⟨z,o1,k _ _ (.inl rfl) e1,d1⟩,its,r,ob,k _ _ (.inl rfl) e,c⟩
 |dK kvs=>obtain ⟨z,y,vs,r,ob,es,ep,e,c⟩:=x;exact ⟨z,y,vs,r,ob,es,ep,k _ _ (.inl rfl) e,c⟩
 |dT kvs=>
  obtain ⟨z,y,xs,r,ob,es,ep,e,c⟩:=x;exact ⟨z,y,xs,Paired.mapP r λp q z=>⟨z.1,ht _ _ z.2.1,z.2.2⟩,ob,es,ep,k _ _ (.inl rfl) e,c⟩
 |set S n=>obtain ⟨ob,es,ep,t,e,c⟩:=x;exact ⟨ob,es,ep,t,k _ _ (.inl rfl) e,c⟩
 |ins C dx fs=>
  obtain ⟨d,z,ne,e,mA,⟨od,es,ep,e2,c⟩,r⟩:=x;exact ⟨ho _ d,z,ne,k _ _ (.inl rfl) e,mA,⟨od,es,ep,k _ _ (.inr d) e2,c⟩,r⟩
 |own y=>obtain ⟨ob,e⟩:=x;exact ⟨ob,k _ _ (.inl rfl) e⟩
 |xd fs=>obtain ⟨mA,⟨od,es,ep,e,c⟩,r⟩:=x;exact ⟨mA,⟨od,es,ep,k _ _ (.inl rfl) e,c⟩,r⟩
 |rng lo hi=>obtain ⟨t,u,v,e⟩:=x;exact ⟨t,u,v,k _ _ (.inl rfl) e⟩
 |frz ob u ih=>obtain ⟨e,q⟩:=x;exact ⟨k _ _ (.inl rfl) e,ih q⟩
 |tbl ps=>
  have e:h.get? a=some { cls:=.none,data:=.fields ps }:=x;show h'.get? a=some { cls:=.none,data:=.fields ps };exact k a _ (.inl rfl) e
 |met f y=>
  have e:h.get? a=some (PySem.W.methodObj (.ref f) (.ref y)):=x;show h'.get? a=some (PySem.W.methodObj (.ref f) (.ref y));exact k a _ (.inl rfl) e
 |ext φ=>obtain ⟨p,⟨o,e⟩,st⟩:=x;exact ⟨st _ _ p λo q=>k _ _ (.inl rfl) q,⟨o,k _ _ (.inl rfl) e⟩,st⟩
theorem HOk.lt (x:HOk P w H h)(e:H a=some o):a<h.objs.size:=(x a o e).lt
theorem HOk.fresh (x:HOk P w H h)(e:h.objs.size<=a):H a=none:=by
 cases q:H a with
 |none=>rfl
 |some u=>exact absurd (AR (x.lt q) e) (CB _)
def HOk.kept (x:HOk P w H h)(k:∀ b u,h.get? b=some u->h'.get? b=some u):HOk P w H h':=λa o e=>
 (x a o e).stay (λb u _ q=>k b u q) (λ_ q=>q) λ_ _ q=>q
theorem HOk.laid (x:HOk P w H h)(k:∀ b u,h.get? b=some u->h'.get? b=some u)(hp:h.objs.size<=a)(new:ObjOk P w (upd H a o) h' a o):HOk P w (upd H a o) h':=λb u e=>by
 have hn:=x.fresh hp
 by_cases hb:b=a
 ·subst hb;rw [aB] at e;cases e;exact new
 ·rw [aH hb] at e
  exact (x b u e).stay (λc v _ q=>k c v q) (λc q=>by rw [aH (bE q hn)];exact q) λc xs q=>by rw [aH (bE q hn)];exact q
end
def Rd (H:Hp)(a:Addr)(u:HO):Prop:=H a=some u\/∃ o,H a=some (.frz o u)
def Rd.ok {w:World}(r:Rd H a u)(x:HOk P w H h):ObjOk P w H h a u:=by
 rcases r with r|⟨o,r⟩
 ·exact x a u r
 ·obtain ⟨_,q⟩:=x a _ r
  exact q
def Mut:Option HO->Prop
 |some (.lst _)=>True
 |some (.dK _)=>True
 |some (.dT _)=>True
 |some (.set _ _)=>True
 |some (.ins _ _ _)=>True
 |some (.ext _)=>True
 |_=>False
section
variable {P:Az}{w:World}{H:Hp}{h h':Heap}{x e:Addr}{o':HO}
def HOk.write (ok:HOk P w H h)(mu:Mut (H x))(he:e=x\/H e=some (.own x))(k:∀ b u,b≠e->h.get? b=some u->h'.get? b=some u)(heo:∃ u,h'.get? e=some u)
  (new:ObjOk P w (upd H x o') h' x o'):HOk P w (upd H x o') h':=λb u q=>by
 have nown:∀ c y,H c=some (.own y)->c≠x:=λc y r z=>by subst z;rw [r] at mu;exact mu
 have ntup:∀ c xs,H c=some (.tup xs)->c≠x:=λc xs r z=>by subst z;rw [r] at mu;exact mu
 by_cases hb:b=x
 ·subst hb;rw [aB] at q;cases q;exact new
 ·rw [aH hb] at q
  by_cases hbe:b=e
  ·have q':H b=some (.own x):=by
    rcases he with z|z
    ·exact absurd (hbe.trans z) hb
    ·rw [hbe];exact z
   rw [q] at q';cases q';obtain ⟨v,hv⟩:=heo;exact ⟨v,by rw [hbe];exact hv⟩
  ·refine (ok b u q).stay (λc v hc r=>k c v ?_ r) (λc r=>by rw [aH (nown c b r)];exact r) λc xs r=>by rw [aH (ntup c xs r)];exact r
   rcases hc with rfl|hc
   ·exact hbe
   ·rintro rfl
    rcases he with z|z
    ·exact nown c b hc z
    ·rw [hc] at z;cases z;exact hb rfl
end
structure Un (fs ex:List Addr)(H H':Hp)(h h':Heap):Prop where
 keep:∀ b o,h.get? b=some o->H b=none->b∉fs->b∉ex->h'.get? b=some o
 slot:∀ b o,h.get? b=some o->H b=none->b∈fs->b∉ex->∃ sl,h'.get? b=some { o with slots:=sl }
 free:∀ b o,h.get? b=some o->H b=none->b∉ex->H' b=none
 there:∀ b o,h.get? b=some o->b∉ex->∃ o',h'.get? b=some o'
 tups:∀ b xs,H b=some (.tup xs)->H' b=some (.tup xs)
 frzs:∀ b o u,H b=some (.frz o u)->H' b=some (.frz o u)
 tbls:∀ b ps,H b=some (.tbl ps)->∃ more,H' b=some (.tbl (ps++more))
section
variable {fs fs' ex ex':List Addr}{H H1 H2:Hp}{h h1 h2 h':Heap}{a x e:Addr}{o:HO}
theorem Un.any (u:Un fs ex H H1 h h1)(q:h.get? b=some ob)(n:H b=none)(hx:b∉ex):∃ sl,h1.get? b=some { ob with slots:=sl }:=by
 by_cases hb:b∈fs
 ·exact u.slot b ob q n hb hx
 ·exact ⟨ob.slots,u.keep b ob q n hb hx⟩
def Un.kept (k:∀ b u,h.get? b=some u->h'.get? b=some u):Un fs ex H H h h':=
 ⟨λb ob q _ _ _=>k b ob q,λb ob q _ _ _=>⟨ob.slots,k b ob q⟩,λ_ _ _ n _=>n,λb ob q _=>⟨ob,k b ob q⟩,λ_ _ q=>q,λ_ _ _ q=>q,λ_ ps q=>⟨#[],by rw [q];simp⟩⟩
def Un.refl:Un fs ex H H h h:=Un.kept λ_ _ q=>q
theorem Un.laid (k:∀ b u,h.get? b=some u->h'.get? b=some u)(hp:h.objs.size<=a)(hn:H a=none):Un fs ex H (upd H a o) h h' where
 keep:=λb u q _ _ _=>k b u q
 slot:=λb u q _ _ _=>⟨u.slots,k b u q⟩
 free:=λb u q n _=>by rw [aH (Aw (AR (Aq q) hp))];exact n
 there:=λb u q _=>⟨u,k b u q⟩
 tups:=λb xs q=>by rw [aH (bE q hn)];exact q
 frzs:=λb u xs q=>by rw [aH (bE q hn)];exact q
 tbls:=λb ps q=>⟨#[],by rw [aH (bE q hn),q];simp⟩
def Un.write (mu:Mut (H x))(he:e=x\/H e=some (.own x))(k:∀ b u,b≠e->h.get? b=some u->h'.get? b=some u)(heo:∃ u,h'.get? e=some u):Un fs ex H (upd H x o) h h':=by
 have hx:∀ b,H b=none->b≠x:=λb n z=>by subst z;rw [n] at mu;exact mu
 have hb:∀ b,H b=none->b≠e:=λb n z=>by
  subst z
  rcases he with r|r
  ·exact hx b n r
  ·rw [n] at r;cases r
 have hm:∀ b u,H b=some u->¬ Mut (some u)->b≠x:=λb u q nm z=>by subst z;rw [q] at mu;exact nm mu
 refine ⟨λb u q n _ _=>k b u (hb b n) q,λb u q n _ _=>⟨u.slots,k b u (hb b n) q⟩,λb u q n _=>by rw [aH (hx b n)];exact n,λb u q _=>?_,
  λb xs q=>by rw [aH (hm b _ q λz=>z)];exact q,λb u xs q=>by rw [aH (hm b _ q λz=>z)];exact q,λb ps q=>⟨#[],by rw [aH (hm b _ q λz=>z),q];simp⟩⟩
 by_cases hbe:b=e
 ·subst hbe;exact heo
 ·exact ⟨u,k b u hbe q⟩
end
def trk (h:Heap)(H:Hp):List Addr:=(Be h.objs.size).filter λa=>(H a).isSome
def hidT (h:Heap)(H:Hp):Heap:=PySem.W.hideAll h (trk h H)
def xJ (h:Heap)(H:Hp):(hidT h H).objs.size=h.objs.size:=PySem.W.hideAll_size _ _
def aAw (e:h.get? b=some o)(n:H b=none):(hidT h H).get? b=some o:=
 PySem.W.hideAll_get _ e λhm=>by
  have q:(H b).isSome=true:=(List.mem_filter.mp hm).2;rw [n] at q;simp at q
def aD2 (e:(hidT h H).get? b=some o):h.get? b=some o/\H b=none:=by
 have e':h.get? b=some o:=PySem.W.of_hideAll (trk h H) e;refine ⟨e',?_⟩;cases q:H b with
 |none=>rfl
 |some x=>
  have hm:b∈trk h H:=List.mem_filter.mpr ⟨Dj.mpr (Aq e'),by simp [q]⟩;have z:(hidT h H).get? b=none:=PySem.W.hideAll_none (trk h H) hm;rw [z] at e;cases e
def aEo (g h:Heap)(L:Addr):List (Addr×Obj):=(Be h.objs.size).filterMap λa=>if a=L\/(g.get? a).isSome=true then none else (h.get? a).map λo=>(a,o)
def rest (g h:Heap)(L d:Addr):List (Addr×Obj):=(aEo g h L).filter λp=>decide (p.1≠d)
structure Mod (K:Aa)(mg:Str->Option Value)(base:Heap):Prop where
 kin:K.In base
 glob:base.Ns An mg
 blt:∃ mb,base.Ns builtinsNs mb/\∀ x:Str,x ≠ "__name__" -> mb x=Cd x
 nolimit:base.NoLimit
structure Cx where
 prog:Az
 w:World
 K:Aa
 mg:Str->Option Value
 base:Heap
 A:Around
 N:List Str
 s₀:Shared
 H₀:Hp
 env:Env
 outer:List Env
 stack:List Env
 ex:List Addr
 fn:Str->Bool
 calm:Bool
 pn:List (Addr×Obj)
 xe:Value->Shared->Prop
def frs (l:List Env):List Addr:=l.filterMap (·.frame)
abbrev Cx.fs (X:Cx):List Addr:=frs X.outer
def Vis (sc:Scope)(x:Str):Prop:=sc.names.lookup x=some .local\/sc.names.lookup x=some .cell\/sc.names.lookup x=some .free
def Loc (sc:Scope)(x:Str):Prop:=sc.names.lookup x=some .local\/sc.names.lookup x=some .cell
def Look (env:Env)(h:Heap)(m:Str->Option Value)(x:Str)(u:Value):Prop:=
 (env.kindOf x=some .local/\m x=some u)\/((env.kindOf x=some .cell\/env.kindOf x=some .free)/\∃ c,env.cells.lookup x=some c/\h.IsCell c (some u))
structure Cx.Ok (X:Cx):Prop where
 mod:Mod X.K X.mg X.base
 kind:X.env.scope.kind=.function
 glob:X.env.globals=An
 blt:X.env.builtins=builtinsNs
 above:X.s₀.heap.objs.size<=X.env.locals
 inj:∀ x y c,X.env.cells.lookup x=some c->X.env.cells.lookup y=some c->x=y
 has:∀ x,(X.env.kindOf x=some .cell\/X.env.kindOf x=some .free)->∃ c,X.env.cells.lookup x=some c
 cab:∀ x c,X.fn x=true->X.env.cells.lookup x=some c->X.s₀.heap.objs.size<=c
 hd:X.calm=true->X.A.handled=none
 frames:X.A.frames=some X.stack
 stk:X.stack=X.outer\/(X.stack=X.env::X.outer/\X.env.frame=some X.env.locals)
 exf:∀ b∈X.ex,b≠X.env.locals/\∀ x c,X.env.cells.lookup x=some c->c≠b
 bs:∀ b o,X.base.get? b=some o->X.s₀.heap.get? b=some o/\X.H₀ b=none
 bsz:X.base.objs.size<=X.s₀.heap.objs.size
 noex:∀ b o,X.base.get? b=some o->b∉X.ex
 exfs:∀ b∈X.ex,b∉X.fs
 funs:X.s₀.heap.FunFrames X.base X.outer
 frf:∀ b∈X.fs,X.H₀ b=none
structure Inv (X:Cx)(pins:List (Addr×Obj))(σ:List (Option V))(H:Hp)(s:Shared):Prop where
 ok:X.Ok
 os:s.os=X.s₀.os
 bare:AllBare s.gens
 base:Un X.fs X.ex X.H₀ H X.s₀.heap s.heap
 loc:∃ m,s.heap.Ns X.env.locals m/\∀ (i:Nat) (x:Str) (v:V),X.N[i]?=some x->σ[i]?=some (some v)->Vis X.env.scope x->∃ u,RelV v u/\Look X.env s.heap m x u
 cell:∀ x c,X.env.cells.lookup x=some c->∃ v,s.heap.IsCell c v
 free:H X.env.locals=none
 freeC:∀ x c,X.env.cells.lookup x=some c->H c=none
 pin:∀ p∈X.pn++pins,s.heap.get? p.1=some p.2/\H p.1=none/\p.1≠X.env.locals/\p.1∉X.fs/\∀ v,p.2.data≠.cell v
 hok:HOk X.prog X.w H s.heap
 len:σ.length=X.N.length
section
variable {X:Cx}{pins:List (Addr×Obj)}{σ:List (Option V)}{H H':Hp}{s:Shared}{h':Heap}
def Cx.Ok.nofr (ok:X.Ok)(e:X.base.get? b=some o):b∉X.fs:=λhb=>by
 have:=(ok.funs.mem hb).1;rw [e] at this;cases this
def Inv.bs (I:Inv X pins σ H s):∀ b o,X.base.get? b=some o->s.heap.get? b=some o/\H b=none:=λb o e=>
 ⟨I.base.keep b o (I.ok.bs b o e).1 (I.ok.bs b o e).2 (I.ok.nofr e) (I.ok.noex b o e),I.base.free b o (I.ok.bs b o e).1 (I.ok.bs b o e).2 (I.ok.noex b o e)⟩
def Inv.bk (I:Inv X pins σ H s):∀ b o,X.base.get? b=some o->s.heap.get? b=some o:=λb o e=>(I.bs b o e).1
def Inv.mod (I:Inv X pins σ H s):Mod X.K X.mg X.base:=I.ok.mod
def Inv.kIn (I:Inv X pins σ H s):X.K.In s.heap:=I.ok.mod.kin.keeps I.bk
theorem Inv.fr (I:Inv X pins σ H s):∃ m,Fr X.base X.env.locals s.heap m:=
 let ⟨m,hn,_⟩:=I.loc
 ⟨m,hn,I.bk,Bh I.ok.bsz I.ok.above⟩
theorem Inv.lt (I:Inv X pins σ H s):X.env.locals<s.heap.objs.size:=let ⟨_,hn,_⟩:=I.loc;hn.lt
theorem Inv.sz (I:Inv X pins σ H s):X.s₀.heap.objs.size<=s.heap.objs.size:=Bh I.ok.above (Nat.le_of_lt I.lt)
def Inv.nofs (I:Inv X pins σ H s)(h:s.heap.objs.size<=a):a∉X.fs:=λhb=>by
 obtain ⟨_,o,ho,_⟩:=I.ok.funs.mem hb;exact absurd (AR (Aq ho) (Bh I.sz h)) (CB _)
def Inv.cne (I:Inv X pins σ H s):∀ x c,X.env.cells.lookup x=some c->c≠X.env.locals:=λx c e z=>by
 obtain ⟨v,o,ho,hd⟩:=I.cell x c e;obtain ⟨m,⟨o',es,ep,ho',hd',_⟩,_⟩:=I.loc;rw [z,ho'] at ho;cases ho;rw [hd'] at hd;cases hd
def Inv.funs (I:Inv X pins σ H s):s.heap.FunFrames X.base X.outer:=by
 have all:∀ (l:List Env),(∀ b∈frs l,b∈X.fs)->X.s₀.heap.FunFrames X.base l->s.heap.FunFrames X.base l:=by
  intro l
  induction l with
  |nil=>intro _ _;trivial
  |cons env r ih=>
   intro hs hl;obtain ⟨hk,⟨L,o,hf,hn,ho,hd⟩,hr⟩:=hl;have hL:L∈X.fs:=hs L (by unfold frs;rw [CU,hf];exact Au);obtain ⟨sl,e⟩:=I.base.slot L o ho (I.ok.frf L hL) hL λz=>I.ok.exfs L z hL;exact ⟨hk,⟨L,_,hf,hn,e,hd⟩,ih (λb hb=>hs b (by unfold frs;rw [CU,hf];exact Aj _ hb)) hr⟩
 exact all X.outer (λ_ hb=>hb) I.ok.funs
def Inv.stack (I:Inv X pins σ H s):s.heap.FunFrames X.base X.stack:=by
 rcases I.ok.stk with e|⟨e,hf⟩
 ·rw [e];exact I.funs
 ·rw [e]
  obtain ⟨m,hn,_⟩:=I.loc;refine .cons (by rw [I.ok.kind];decide) hf hn ?_ I.funs;exact Heap.get?_none_of_le (Bh I.ok.bsz I.ok.above)
def Inv.stkSub (I:Inv X pins σ H s):∀ b∈frs X.stack,b∈X.env.locals::X.fs:=λb hb=>by
 rcases I.ok.stk with e|⟨e,hf⟩
 ·rw [e] at hb;exact Aj _ hb
 ·rw [e] at hb
  unfold frs at hb;rw [CU,hf] at hb;exact hb
def Inv.stkFree (I:Inv X pins σ H s):∀ b∈frs X.stack,H b=none:=λb hb=>by
 rcases AE.mp (I.stkSub b hb) with e|hb
 ·rw [e];exact I.free
 ·obtain ⟨_,o,ho,_⟩:=I.ok.funs.mem hb
  exact I.base.free b o ho (I.ok.frf b hb) λz=>I.ok.exfs b z hb
def Inv.step {g':Array GenState}{t':Nat}{d':Drawn}{ch:List Addr}(I:Inv X pins σ H s)
  (hch:∀ b∈ch,(b∈X.ex\/X.s₀.heap.objs.size<=b)/\b≠X.env.locals/\(∀ x c,X.env.cells.lookup x=some c->c≠b)/\∀ p∈X.pn++pins,p.1≠b)
  (keep:∀ b o,b≠X.env.locals->b∉X.fs->b∉ch->s.heap.get? b=some o->H b=none->h'.get? b=some o)
  (slot:∀ b o,b≠X.env.locals->b∈X.fs->b∉ch->s.heap.get? b=some o->H b=none->∃ sl,h'.get? b=some { o with slots:=sl }) (free:∀ b o,b∉ch->s.heap.get? b=some o->H b=none->H' b=none)
  (there:∀ b o,b∉ch->s.heap.get? b=some o->∃ o',h'.get? b=some o')
  (tups:∀ b xs,H b=some (.tup xs)->H' b=some (.tup xs)) (frzs:∀ b o u,H b=some (.frz o u)->H' b=some (.frz o u)) (tbls:∀ b ps,H b=some (.tbl ps)->∃ more,H' b=some (.tbl (ps++more)))
  (ns:∀ m,s.heap.Ns X.env.locals m->h'.Ns X.env.locals m) (hok:HOk X.prog X.w H' h') (hg:AllBare g') :
  Inv X pins σ H' { s with heap:=h',gens:=g',drawn:=d',toks:=t' }:=by
 have neL:∀ b o,X.s₀.heap.get? b=some o->b≠X.env.locals:=λb o e=>Aw (AR (Aq e) I.ok.above);have neC:∀ b o,X.s₀.heap.get? b=some o->b∉X.ex->b∉ch:=λb o e hx hb=>by
  rcases (hch b hb).1 with z|z
  ·exact hx z
  ·exact absurd (AR (Aq e) z) (CB _)
 have cellK:∀ x c,X.env.cells.lookup x=some c->∀ v,s.heap.IsCell c v->h'.IsCell c v:=λx c e v ⟨o,ho,hd⟩=>by
  have nch:c∉ch:=λz=>(hch c z).2.2.1 x c e rfl
  by_cases hc:c∈X.fs
  ·obtain ⟨sl,q⟩:=slot c o (I.cne x c e) hc nch ho (I.freeC x c e)
   exact ⟨_,q,hd⟩
  ·exact ⟨o,keep c o (I.cne x c e) hc nch ho (I.freeC x c e),hd⟩
 refine ⟨I.ok,I.os,hg,⟨λb o e n hb hx=>?_,λb o e n hb hx=>?_,λb o e n hx=>?_,λb o e hx=>?_,λb xs e=>tups b xs (I.base.tups b xs e),λb o xs e=>frzs b o xs (I.base.frzs b o xs e),λb ps e=>?_⟩,?_,λx c e=>?_,?_,λx c e=>?_,λp hp=>?_,hok,I.len⟩
 ·exact keep b o (neL b o e) hb (neC b o e hx) (I.base.keep b o e n hb hx) (I.base.free b o e n hx)
 ·obtain ⟨sl,e1⟩:=I.base.slot b o e n hb hx
  obtain ⟨sl',e2⟩:=slot b _ (neL b o e) hb (neC b o e hx) e1 (I.base.free b o e n hx);exact ⟨sl',e2⟩
 ·obtain ⟨o',e1⟩:=I.base.there b o e hx
  exact free b o' (neC b o e hx) e1 (I.base.free b o e n hx)
 ·obtain ⟨o',e1⟩:=I.base.there b o e hx
  exact there b o' (neC b o e hx) e1
 ·obtain ⟨m1,e1⟩:=I.base.tbls b ps e
  obtain ⟨m2,e2⟩:=tbls b _ e1;exact ⟨m1++m2,by rw [e2,Array.append_assoc]⟩
 ·obtain ⟨m,hn,hl⟩:=I.loc
  refine ⟨m,ns m hn,λi x v e1 e2 e3=>?_⟩;obtain ⟨u,r,l⟩:=hl i x v e1 e2 e3;refine ⟨u,r,?_⟩
  rcases l with l|⟨k,c,e,z⟩
  ·exact .inl l
  ·exact .inr ⟨k,c,e,cellK x c e _ z⟩
 ·obtain ⟨v,z⟩:=I.cell x c e
  exact ⟨v,cellK x c e v z⟩
 ·obtain ⟨m,⟨o,_,_,ho,_⟩,_⟩:=I.loc
  exact free _ o (λz=>(hch _ z).2.1 rfl) ho I.free
 ·obtain ⟨v,o,ho,hd⟩:=I.cell x c e
  exact free c o (λz=>(hch c z).2.2.1 x c e rfl) ho (I.freeC x c e)
 ·obtain ⟨e,n,ne,nf,d⟩:=I.pin p hp
  have nch:p.1∉ch:=λz=>(hch p.1 z).2.2.2 p hp rfl;exact ⟨keep p.1 p.2 ne nf nch e n,free p.1 p.2 nch e n,ne,nf,d⟩
def Inv.un {t':Nat}(I:Inv X pins σ H s)(u:Un X.fs [] H H' s.heap h')(hok:HOk X.prog X.w H' h'):Inv X pins σ H' { s with heap:=h',toks:=t' }:=by
 obtain ⟨m,⟨o,es,ep,ho,r⟩,_⟩:=id I.loc;obtain ⟨sl,hL⟩:=u.any ho I.free (by simp);exact I.step (g':=s.gens) (d':=s.drawn) (ch:=[]) (λ_ z=>nomatch z) (λb o _ hb _ e n=>u.keep b o e n hb (by simp)) (λb o _ hb _ e n=>u.slot b o e n hb (by simp)) (λb o _ e n=>u.free b o e n (by simp)) (λb o _ e=>u.there b o e (by simp)) u.tups u.frzs u.tbls (λm' hm=>by
  obtain ⟨o',es',ep',ho',r'⟩:=hm;rw [ho] at ho';cases ho';exact ⟨_,es',ep',hL,r'⟩) hok I.bare
def Inv.call {g':Array GenState}{t':Nat}{d':Drawn}{ch:List Addr}(I:Inv X pins σ H s)(u:Un (frs X.stack) ch H H' s.heap h')(hok:HOk X.prog X.w H' h')(hg:AllBare g')
  (hch:∀ b∈ch,(b∈X.ex\/X.s₀.heap.objs.size<=b)/\b≠X.env.locals/\(∀ x c,X.env.cells.lookup x=some c->c≠b)/\∀ p∈X.pn++pins,p.1≠b) :
  Inv X pins σ H' { s with heap:=h',gens:=g',drawn:=d',toks:=t' }:=by
 obtain ⟨m,⟨o,es,ep,ho,r⟩,_⟩:=id I.loc;obtain ⟨sl,hL⟩:=u.any ho I.free λz=>(hch _ z).2.1 rfl;exact I.step (ch:=ch) hch (λb o hL hb hc e n=>u.keep b o e n (λz=>(AE.mp (I.stkSub b z)).elim hL hb) hc) (λb o _ _ hc e n=>u.any e n hc) (λb o hc e n=>u.free b o e n hc) (λb o hc e=>u.there b o e hc) u.tups u.frzs u.tbls (λm' hm=>by
  obtain ⟨o',es',ep',ho',r'⟩:=hm;rw [ho] at ho';cases ho';exact ⟨_,es',ep',hL,r'⟩) hok hg
def Inv.turned {t':Nat}{it:Addr}(I:Inv X pins σ H s)(k:∀ b o,b≠it->s.heap.get? b=some o->h'.get? b=some o)(hn:H it=none)(hL:it≠X.env.locals)
  (h1:it∈X.ex\/X.s₀.heap.objs.size<=it) (h2:∀ x c,X.env.cells.lookup x=some c->c≠it) (h3:∀ p∈X.pn++pins,p.1≠it):Inv X pins σ H { s with heap:=h',toks:=t' }:=by
 have nit:∀ b u,H b=some u->b≠it:=λb u e z=>by rw [z,hn] at e;cases e
 refine I.step (g':=s.gens) (d':=s.drawn) (ch:=[it]) (λb hb=>?_) (λb o _ _ hc e _=>k b o (λz=>hc (by simp [z])) e) (λb o _ _ hc e _=>⟨o.slots,k b o (λz=>hc (by simp [z])) e⟩) (λ_ _ _ _ n=>n)
  (λb o hc e=>⟨o,k b o (λz=>hc (by simp [z])) e⟩) (λ_ _ e=>e) (λ_ _ _ e=>e) (λb ps e=>⟨#[],by rw [e];simp⟩) (λm hm=>?_) (λb u e=>?_) I.bare
 ·have e:b=it:=by simpa using hb
  subst e;exact ⟨h1,hL,h2,h3⟩
 ·obtain ⟨o,es,ep,ho,r⟩:=hm
  exact ⟨o,es,ep,k _ o (AQ hL) ho,r⟩
 ·refine (I.hok b u e).stay (λc v hc q=>k c v ?_ q) (λ_ q=>q) λ_ _ q=>q
  rcases hc with z|z
  ·rw [z];exact nit b u e
  ·exact nit c _ z
def Inv.tok (I:Inv X pins σ H s)(t:Nat):Inv X pins σ H { s with toks:=t }:=I.un (h':=s.heap) (t':=t) Un.refl I.hok
def Inv.kept {t':Nat}(I:Inv X pins σ H s)(k:∀ b u,s.heap.get? b=some u->h'.get? b=some u):Inv X pins σ H { s with heap:=h',toks:=t' }:=I.un (Un.kept k) (I.hok.kept k)
theorem Inv.laid {t':Nat}(I:Inv X pins σ H s)(k:∀ b u,s.heap.get? b=some u->h'.get? b=some u)(hp:s.heap.objs.size<=a)(new:ObjOk X.prog X.w (upd H a o) h' a o) :
  Inv X pins σ (upd H a o) { s with heap:=h',toks:=t' }:=I.un (Un.laid k hp (I.hok.fresh hp)) (I.hok.laid k hp new)
def Inv.write {t':Nat}(I:Inv X pins σ H s)(mu:Mut (H x))(he:e=x\/H e=some (.own x))(k:∀ b u,b≠e->s.heap.get? b=some u->h'.get? b=some u)(heo:∃ u,h'.get? e=some u)(new:ObjOk X.prog X.w (upd H x o) h' x o):Inv X pins σ (upd H x o) { s with heap:=h',toks:=t' }:=I.un (Un.write mu he k heo) (I.hok.write mu he k heo new)
def Inv.weak {σ':List (Option V)}(I:Inv X pins σ H s)(hl:σ'.length=σ.length)(w:∀ (i:Nat) v,σ'[i]?=some (some v)->σ[i]?=some (some v)):Inv X pins σ' H s:=
 ⟨I.ok,I.os,I.bare,I.base,let ⟨m,hn,hl'⟩:=I.loc;⟨m,hn,λi x v e1 e2 e3=>hl' i x v e1 (w i v e2) e3⟩,I.cell,I.free,I.freeC,I.pin,I.hok,hl.trans I.len⟩
def Inv.pins_of (I:Inv X pins σ H s)(h:∀ p∈pins',s.heap.get? p.1=some p.2/\H p.1=none/\p.1≠X.env.locals/\p.1∉X.fs/\∀ v,p.2.data≠.cell v):Inv X pins' σ H s:=
 ⟨I.ok,I.os,I.bare,I.base,I.loc,I.cell,I.free,I.freeC,λp hp=>(Br.mp hp).elim (λz=>I.pin p (List.mem_append_left _ z)) (h p),I.hok,I.len⟩
def lI {N:List Str}(hN:N.Nodup){i j:Nat}{x:Str}(a:N[i]?=some x)(b:N[j]?=some x):i=j:=by
 obtain ⟨h1,e1⟩:=Ae.mp a;obtain ⟨h2,e2⟩:=Ae.mp b;exact (List.getElem_inj hN).mp (e1.trans e2.symm)
def uN {M:Model}{A:Around}{E:Value->Shared->Prop}{i:Nat}{x:Str}{v:V}{u:Value}{Q:Unit->Shared->Prop}(I:Inv X pins σ H s)(hN:X.N.Nodup)(hi:X.N[i]?=some x)(hx:Loc X.env.scope x)(r:RelV v u)
  (h:∀ s',Inv X pins (σ.set i (some v)) H s'->(∃ a,Ci a s.heap s'.heap/\(a=X.env.locals\/X.env.cells.lookup x=some a))->Q () s') (hf:X.fn x=true\/X.env.scope.names.lookup x=some .local:=by first|exact .inl rfl|exact .inr rfl|assumption):wpAny M A (storeName X.env x u) Q E s:=by
 obtain ⟨m,hn,hl⟩:=id I.loc;have hcls:(X.env.scope.kind==.class||(X.env.scope.kind==.module&&X.env.locals != X.env.globals))=false:=by rw [I.ok.kind];rfl
 have hiσ:i<σ.length:=by rw [I.len];exact (Ae.mp hi).1
 have cne:=I.cne;have tracked:∀ {a:Addr} {h':Heap},(∃ o,s.heap.get? a=some o/\H a=none)->Ci a s.heap h'->HOk X.prog X.w H h':=λ{a h'} ha hs b ob e=>by
  obtain ⟨_,_,hfree⟩:=ha;refine (I.hok b ob e).stay (λc w' hc q=>(hs.2 c ?_).trans q) (λ_ q=>q) λ_ _ q=>q
  rintro rfl
  rcases hc with rfl|hc
  ·rw [hfree] at e;cases e
  ·rw [hfree] at hc;cases hc
 rcases hx with hk|hk
 ·refine wpAny_storeName_local hk hn (λh' hn' hs=>?_) hcls
  obtain ⟨oL,_,_,hoL,_⟩:=id hn;refine h _ ⟨I.ok,I.os,I.bare,⟨λb o e n hb hx=>?_,λb o e n hb hx=>?_,I.base.free,λb o e hx=>?_,I.base.tups,I.base.frzs,I.base.tbls⟩,⟨_,hn',λj y v' e1 e2 e3=>?_⟩,λy c e=>?_,I.free,I.freeC,λp hp=>?_,tracked ⟨oL,hoL,I.free⟩ hs,by simpa using I.len⟩ ⟨_,hs,.inl rfl⟩
  ·exact (hs.2 b (Aw (AR (Aq e) I.ok.above))).trans (I.base.keep b o e n hb hx)
  ·obtain ⟨sl,e1⟩:=I.base.slot b o e n hb hx
   exact ⟨sl,(hs.2 b (Aw (AR (Aq e) I.ok.above))).trans e1⟩
  ·obtain ⟨o',e1⟩:=I.base.there b o e hx
   exact ⟨o',(hs.2 b (Aw (AR (Aq e) I.ok.above))).trans e1⟩
  ·by_cases hj:j=i
   ·subst hj
    rw [hi] at e1;cases e1;rw [Ca hiσ] at e2;cases e2;exact ⟨u,r,.inl ⟨hk,by simp⟩⟩
   ·rw [BU (AQ hj)] at e2
    obtain ⟨u',r',q⟩:=hl j y v' e1 e2 e3;refine ⟨u',r',?_⟩
    rcases q with ⟨k,e⟩|⟨k,c,e,z⟩
    ·refine .inl ⟨k,?_⟩
     have:y≠x:=λe=>hj (lI hN e1 (e▸hi));simp [this,e]
    ·exact .inr ⟨k,c,e,z.sameBut hs (cne y c e)⟩
  ·obtain ⟨w',z⟩:=I.cell y c e
   exact ⟨w',z.sameBut hs (cne y c e)⟩
  ·obtain ⟨e,n,ne,nf,d⟩:=I.pin p hp
   exact ⟨(hs.2 p.1 ne).trans e,n,ne,nf,d⟩
 ·have hfn:X.fn x=true:=by
   rcases hf with z|z
   ·exact z
   ·rw [z] at hk;cases hk
  obtain ⟨c,hc⟩:=I.ok.has x (.inl hk);obtain ⟨w',z⟩:=I.cell x c hc;refine wpAny_storeName_cell I.ok.kind hk hc z (λh' hc' hs=>?_);obtain ⟨oc,hoc,hocd⟩:=id z;refine h { s with heap:=h' } ⟨I.ok,I.os,I.bare,⟨λb o e n hb hx=>?_,λb o e n hb hx=>?_,I.base.free,λb o e hx=>?_,I.base.tups,I.base.frzs,I.base.tbls⟩,⟨m,hn.sameBut hs (AQ (cne x c hc)),λj y v' e1 e2 e3=>?_⟩,λy c' e=>?_,I.free,I.freeC,λp hp=>?_,tracked ⟨oc,hoc,I.freeC x c hc⟩ hs,by simpa using I.len⟩ ⟨c,hs,.inr hc⟩
  ·exact (hs.2 b (Aw (AR (Aq e) (I.ok.cab x c hfn hc)))).trans (I.base.keep b o e n hb hx)
  ·obtain ⟨sl,e1⟩:=I.base.slot b o e n hb hx
   exact ⟨sl,(hs.2 b (Aw (AR (Aq e) (I.ok.cab x c hfn hc)))).trans e1⟩
  ·obtain ⟨o',e1⟩:=I.base.there b o e hx
   exact ⟨o',(hs.2 b (Aw (AR (Aq e) (I.ok.cab x c hfn hc)))).trans e1⟩
  ·by_cases hj:j=i
   ·subst hj
    rw [hi] at e1;cases e1;rw [Ca hiσ] at e2;cases e2;exact ⟨u,r,.inr ⟨.inl hk,c,hc,hc'⟩⟩
   ·rw [BU (AQ hj)] at e2
    obtain ⟨u',r',q⟩:=hl j y v' e1 e2 e3;refine ⟨u',r',?_⟩
    rcases q with q|⟨k,c',e,z'⟩
    ·exact .inl q
    ·refine .inr ⟨k,c',e,z'.sameBut hs ?_⟩
     rintro rfl
     exact hj (lI hN e1 (I.ok.inj _ _ _ e hc▸hi))
  ·by_cases hcc:c'=c
   ·subst hcc;exact ⟨_,hc'⟩
   ·obtain ⟨w2,z2⟩:=I.cell y c' e
    exact ⟨w2,z2.sameBut hs hcc⟩
  ·obtain ⟨e,n,ne,nf,d⟩:=I.pin p hp
   refine ⟨(hs.2 p.1 ?_).trans e,n,ne,nf,d⟩;intro q;rw [q,hoc] at e;have q':oc=p.2:=AK e;exact d w' (by rw [<- q'];exact hocd)
def fN {i:Nat}(I:Inv X pins σ H s)(hN:X.N.Nodup)(hi:X.N[i]?=some x)(hx:Loc X.env.scope x)(r:RelV v u)(h:∀ s',Inv X pins (σ.set i (some v)) H s'->Q () s')(hf:X.fn x=true\/X.env.scope.names.lookup x=some .local:=by first|exact .inl rfl|exact .inr rfl|assumption):wpAny M A (storeName X.env x u) Q E s:=
 uN I hN hi hx r (λs' I' _=>h s' I') hf
def Inv.call' (I:Inv X pins σ H s)(ho:s'.os=s.os)(u:Un (frs X.stack) ch H H' s.heap s'.heap)(hok:HOk X.prog X.w H' s'.heap)(hg:AllBare s'.gens)(hch:∀ b∈ch,(b∈X.ex\/X.s₀.heap.objs.size<=b)/\b≠X.env.locals/\(∀ x c,X.env.cells.lookup x=some c->c≠b)/\∀ p∈X.pn++pins,p.1≠b):Inv X pins σ H' s':=by
 obtain ⟨h',g',d',t',o'⟩:=s';have e:o'=s.os:=ho;subst e;exact I.call (g':=g') (t':=t') (d':=d') u hok hg hch
end
abbrev XK:=Value->Option Addr->Hp->Prop
abbrev St:=List (Option V)
abbrev VK:=V->Hp->Prop
abbrev TE:=St->Hp->VK->Prop
abbrev TT:=St->Hp->(Bool->Hp->Prop)->Prop
abbrev TA:=St->Hp->(List V->Hp->Prop)->Prop
structure Ends where
 nx:St->Hp->Prop
 rt:VK
 bk:St->Hp->Prop:=λ_ _=>False
 ct:St->Hp->Prop:=λ_ _=>False
abbrev TS:=Ends->St->Hp->Prop
def EP (X:Cx)(pins:List (Addr×Obj))(σ:St)(Q:VK)(u:Value)(s':Shared):Prop:=∃ v H',Inv X pins σ H' s'/\RelV v u/\Q v H'
def TP (X:Cx)(pins:List (Addr×Obj))(σ:St)(Q:Bool->Hp->Prop)(b:Bool)(s':Shared):Prop:=∃ H',Inv X pins σ H' s'/\Q b H'
def AP (X:Cx)(pins:List (Addr×Obj))(σ:St)(Q:List V->Hp->Prop)(us:List Value)(s':Shared):Prop:=∃ vs H',Inv X pins σ H' s'/\Vals vs us/\Q vs H'
def SP (X:Cx)(pins:List (Addr×Obj))(D:Ends)(f:Flow)(s':Shared):Prop:=
 match f with
 |.next=>∃ σ' H',Inv X pins σ' H' s'/\D.nx σ' H'
 |.brk=>∃ σ' H',Inv X pins σ' H' s'/\D.bk σ' H'
 |.cont=>∃ σ' H',Inv X pins σ' H' s'/\D.ct σ' H'
 |.ret u=>∃ v σ' H',Inv X pins σ' H' s'/\RelV v u/\D.rt v H'
def PE (X:Cx)(e:Expr)(t:TE):Prop:=
 ∀ (pins:List (Addr×Obj)) (s:Shared) (σ:St) (H:Hp) (Q:VK),Inv X pins σ H s->t σ H Q->wpAny (model X.prog X.w) X.A (eval e X.env) (EP X pins σ Q) X.xe s
def PT (X:Cx)(e:Expr)(t:TT):Prop:=
 ∀ (pins:List (Addr×Obj)) (s:Shared) (σ:St) (H:Hp) (Q:Bool->Hp->Prop),Inv X pins σ H s->t σ H Q->wpAny (model X.prog X.w) X.A (isTrue e X.env (eval e X.env)) (TP X pins σ Q) X.xe s
def PW (X:Cx)(e:Expr)(t:TT):Prop:=
 ∀ (whole:Sem Value) (pins:List (Addr×Obj)) (s:Shared) (σ:St) (H:Hp) (Q:Bool->Hp->Prop),Inv X pins σ H s->t σ H Q->wpAny (model X.prog X.w) X.A (isTrue e X.env whole) (TP X pins σ Q) X.xe s
def PW.pt (h:PW X e t):PT X e t:=h _
def PA (X:Cx)(es:List Expr)(t:TA):Prop:=
 ∀ (pos:Pos) (pins:List (Addr×Obj)) (s:Shared) (σ:St) (H:Hp) (Q:List V->Hp->Prop),Inv X pins σ H s->t σ H Q->wpAny (model X.prog X.w) X.A (spliced (backTo pos (AU es X.env))) (AP X pins σ Q) X.xe s
def PS (X:Cx)(st:Stmt)(t:TS):Prop:=
 ∀ (pins:List (Addr×Obj)) (s:Shared) (σ:St) (H:Hp) (D:Ends),Inv X pins σ H s->t D σ H->wpAny (model X.prog X.w) X.A (exec st X.env) (SP X pins D) X.xe s
def PSs (X:Cx)(st:List Stmt)(t:TS):Prop:=
 ∀ (pins:List (Addr×Obj)) (s:Shared) (σ:St) (H:Hp) (D:Ends),Inv X pins σ H s->t D σ H->wpAny (model X.prog X.w) X.A (execs st X.env) (SP X pins D) X.xe s
def thn {α:Type}{t:Sem α}{Q Q':α->Shared->Prop}{M:Model}{A:Around}{E:Value->Shared->Prop}{s:Shared}(h:wpAny M A t Q E s)(hQ:∀ a s,Q a s->Q' a s):wpAny M A t Q' E s:=BW h hQ λ_ _ x=>x
section
variable {X:Cx}
def bin {a b:Expr}{ta tb:TE}(ha:PE X a ta)(hb:PE X b tb){pins:List (Addr×Obj)}{s:Shared}{σ:St}{H:Hp}{R:V->V->Hp->Prop}(I:Inv X pins σ H s)(h:ta σ H λx H1=>tb σ H1 λy H2=>R x y H2)
  {α:Type} {Q:α->Shared->Prop} {f:Value->Value->Sem α}
  (hf:∀ v u s2 x y H2,Inv X pins σ H2 s2->RelV x v->RelV y u->R x y H2->wpAny (model X.prog X.w) X.A (f v u) Q X.xe s2) :
  wpAny (model X.prog X.w) X.A (eval a X.env) (λv s₁=>wpAny (model X.prog X.w) X.A (eval b X.env) (λu s₂=>wpAny (model X.prog X.w) X.A (f v u) Q X.xe s₂) X.xe s₁) X.xe s:=by
 refine thn (ha pins s σ H _ I h) λv s1 ⟨x,H1,I1,r1,q1⟩=>?_;refine thn (hb pins s1 σ H1 _ I1 q1) λu s2 ⟨y,H2,I2,r2,q2⟩=>?_;exact hf v u s2 x y H2 I2 r1 r2 q2
def tVar (i:Nat):TE:=λσ H Q=>∃ v,σ[i]?=some (some v)/\Q v H
def tC (v:V):TE:=λ_ H Q=>Q v H
def vS {i:Nat}(hN:X.N[i]?=some x)(hv:Vis X.env.scope x)(hd:(x==("__debug__":Str))=false:=by decide)(hcd:(x==("__classdict__":Str))=false:=by decide):PE X (.Name x pos) (tVar i):=by
 intro pins s σ H Q I h;obtain ⟨v,e,h⟩:=h;obtain ⟨m,hn,hl⟩:=I.loc;obtain ⟨u,r,l⟩:=hl i x v hN e hv;have fin:EP X pins σ Q u s:=⟨v,H,I,r,h⟩
 rcases l with ⟨hk,hm⟩|⟨hk,c,hc,hcell⟩
 ·exact wpAny_Name (wpAny_loadName_local I.ok.kind hk hn hm fin) hd
 ·rcases hk with hk|hk
  ·exact wpAny_Name (wpAny_loadName_cell I.ok.kind hk hc hcell fin) hd
  ·exact wpAny_Name (wpAny_loadName_free I.ok.kind hk hc hcell fin hcd) hd
def aE {i j pos}:PE X (.Constant (.int i) j pos) (tC (.int i)):=λ_ _ _ H _ I h=>wpAny_Constant_int ⟨.int i,H,I.tok _,⟨_,rfl⟩,h⟩
def eY {b j pos}:PE X (.Constant (.bool b) j pos) (tC (.bl b)):=λ_ _ _ H _ I h=>Constant_bool ⟨.bl b,H,I,rfl,h⟩
def dU {j pos}:PE X (.Constant .none j pos) (tC .non):=λ_ _ _ H _ I h=>Constant_none ⟨.non,H,I,rfl,h⟩
def aU {x j pos}:PE X (.Constant (.str x) j pos) (tC (.str x)):=λ_ _ _ H _ I h=>Calls.Constant_str ⟨.str x,H,I.tok _,⟨_,rfl⟩,h⟩
def Gl (X:Cx)(x:Str):Prop:=X.env.kindOf x=some .globalImplicit
def fA {σ:St}(I:Inv X pins σ H s)(hg:Gl X x)(hm:X.mg x=some u)(h:Q u s)(hd:(x==("__debug__":Str))=false:=by decide):wpAny (model X.prog X.w) X.A (eval (.Name x pos) X.env) Q E s:=
 Calls.Name_function_global I.ok.kind hg (Calls.loadGlobal_global (by rw [I.ok.glob];exact I.mod.glob.keeps I.bk) hm h) hd
def jA {σ:St}(I:Inv X pins σ H s)(hg:Gl X x)(hm:X.mg x=none)(hv:Cd x=some u)(h:Q u s)(hn:x ≠ "__name__":=by decide)(hd:(x==("__debug__":Str))=false:=by decide):wpAny (model X.prog X.w) X.A (eval (.Name x pos) X.env) Q E s:=by
 obtain ⟨mb,h1,h2⟩:=I.mod.blt;exact Calls.Name_function_global I.ok.kind hg (Calls.loadGlobal_builtin (by rw [I.ok.glob];exact I.mod.glob.keeps I.bk) hm (by rw [I.ok.blt];exact h1.keeps I.bk) ((h2 x hn).trans hv) h) hd
def dP (hg:Gl X x)(hm:X.mg x=some u)(r:RelV v u)(hd:(x==("__debug__":Str))=false:=by decide):PE X (.Name x pos) (tC v):=
 λ_ _ _ H _ I h=>fA I hg hm ⟨v,H,I,r,h⟩ hd
def eM (hg:Gl X x)(hm:X.mg x=none)(hv:Cd x=some u)(r:RelV v u)(hn:x ≠ "__name__":=by decide)(hd:(x==("__debug__":Str))=false:=by decide):PE X (.Name x pos) (tC v):=
 λ_ _ _ H _ I h=>jA I hg hm hv ⟨v,H,I,r,h⟩ hn hd
def t2I (ta tb:TE)(k:Int->Int->Hp->Prop):St->Hp->Prop:=λσ H=>ta σ H λx H1=>tb σ H1 λy H2=>∃ i j,x=.int i/\y=.int j/\k i j H2
def tAdd (ta tb:TE):TE:=λσ H Q=>t2I ta tb (λi j H2=>Q (.int (i+j)) H2) σ H
def tSub (ta tb:TE):TE:=λσ H Q=>t2I ta tb (λi j H2=>Q (.int (i-j)) H2) σ H
def tMul (ta tb:TE):TE:=λσ H Q=>t2I ta tb (λi j H2=>(-(2^64)<i/\i<2^64)/\Q (.int (i*j)) H2) σ H
variable {a b:Expr}{ta tb:TE}{pos:Pos}
def PC (X:Cx)(op:CmpOp)(a b:Expr)(t:TE):Prop:=
 ∀ (pins:List (Addr×Obj)) (s:Shared) (σ:St) (H:Hp) (Q:VK),Inv X pins σ H s->t σ H Q ->
  wpAny (model X.prog X.w) X.A (eval a X.env) (λv s₁=>wpAny (model X.prog X.w) X.A (eval b X.env) (λu s₂=>wpAny (model X.prog X.w) X.A (BN op v u) (EP X pins σ Q) X.xe s₂) X.xe s₁) X.xe s
def tCmp (p:Int->Int->Bool)(ta tb:TE):TE:=λσ H Q=>t2I ta tb (λi j H2=>Q (.bl (p i j)) H2) σ H
abbrev tLt:TE->TE->TE:=tCmp λi j=>decide (i<j)
abbrev tLe:TE->TE->TE:=tCmp λi j=>decide (i<=j)
abbrev tGt:TE->TE->TE:=tCmp λi j=>decide (j<i)
abbrev tGe:TE->TE->TE:=tCmp λi j=>decide (j<=i)
abbrev tEqI:TE->TE->TE:=tCmp λi j=>decide (i=j)
abbrev tNeI:TE->TE->TE:=tCmp λi j=>!decide (i=j)
def tIsN (ta:TE):TE:=λσ H Q=>ta σ H λx H1=>Q (.bl (decide (x=.non))) H1
def tNotN (ta:TE):TE:=λσ H Q=>ta σ H λx H1=>Q (.bl (!decide (x=.non))) H1
def tB (t:TE):TT:=λσ H Q=>t σ H λx H1=>∃ c,x=.bl c/\Q c H1
def pt_cmp {op:CmpOp}{t:TE}(h:PC X op a b t)(h1:behindInMarks op b=false:=by first|exact nobehind _ (by decide) (by decide)|rfl):PT X (.Compare a [op] [b] pos) (tB t):=by
 intro pins s σ H Q I hw;refine wpAny_isTrue_Compare1 (thn (h pins s σ H _ I hw) λv s1 h1=>thn h1 λu s2 h2=>thn h2 λc s3 ⟨x,H1,I1,r1,q1⟩=>?_) h1;obtain ⟨d,rfl,q⟩:=q1;cases r1;exact DC ⟨H1,I1,q⟩
def cV {e:Expr}{t:TE}(h:PE X e t)(he:∀ whole,isTrue e X.env whole=(do let v <- whole;standAt e.pos;holding [v] (truthy v)):=by intro _;rfl):PT X e (tB t):=by
 intro pins s σ H Q I hw;refine isTrue_plain (thn (h pins s σ H _ I hw) λv s1 ⟨x,H1,I1,r1,q1⟩=>?_) (he _);obtain ⟨d,rfl,q⟩:=q1;cases r1;exact DC ⟨H1,I1,q⟩
variable {tA tB':TT}{rest:List Expr}
def tAnd (t u:TT):TT:=λσ H Q=>t σ H λc H1=>if c=true then u σ H1 Q else Q false H1
def tOr (t u:TT):TT:=λσ H Q=>t σ H λc H1=>if c=true then Q true H1 else u σ H1 Q
def tNot (t:TT):TT:=λσ H Q=>t σ H λc H1=>Q (!c) H1
def iQ (ha:PT X a tA):PW X (.BoolOp .And [a] pos) tA:=by
 intro wh pins s σ H Q I h;refine isTrue_and (thn (ha pins s σ H Q I h) λc s1 e=>?_);cases c with
 |true=>exact isTrue_and_nil e
 |false=>exact e
def fH (ha:PT X a tA):PW X (.BoolOp .Or [a] pos) tA:=by
 intro wh pins s σ H Q I h;refine isTrue_or (thn (ha pins s σ H Q I h) λc s1 e=>?_);cases c with
 |false=>exact isTrue_or_nil e
 |true=>exact e
def mT (ha:PT X a tA)(hb:PW X (.BoolOp .And (b::rest) pos) tB'):PW X (.BoolOp .And (a::b::rest) pos) (tAnd tA tB'):=by
 intro wh pins s σ H Q I h;refine isTrue_and (thn (ha pins s σ H _ I h) λc s1 ⟨H1,I1,q1⟩=>?_);cases c with
 |true=>exact hb wh pins s1 σ H1 Q I1 q1
 |false=>exact ⟨H1,I1,q1⟩
def hU (ha:PT X a tA)(hb:PW X (.BoolOp .Or (b::rest) pos) tB'):PW X (.BoolOp .Or (a::b::rest) pos) (tOr tA tB'):=by
 intro wh pins s σ H Q I h;refine isTrue_or (thn (ha pins s σ H _ I h) λc s1 ⟨H1,I1,q1⟩=>?_);cases c with
 |true=>exact ⟨H1,I1,q1⟩
 |false=>exact hb wh pins s1 σ H1 Q I1 q1
def eD (ha:PT X a tA):PT X (.UnaryOp .Not a pos) (tNot tA):=by
 intro pins s σ H Q I h;exact isTrue_not (ha pins s σ H (λc H1=>Q (!c) H1) I h)
def aHl (ta tb:TE):TE:=λσ H Q=>ta σ H λx H1=>∃ c,x=.bl c/\if c=true then tb σ H1 Q else Q (.bl false) H1
def tOrV (ta tb:TE):TE:=λσ H Q=>ta σ H λx H1=>∃ c,x=.bl c/\if c=true then Q (.bl true) H1 else tb σ H1 Q
def aHc (ta:TE):TE:=λσ H Q=>ta σ H λx H1=>∃ c,x=.bl c/\Q (.bl (!c)) H1
def fY {op}(h:PE X a t):PE X (.BoolOp op [a] pos) t:=λpins s σ H Q I hw=>BoolOp_one (h pins s σ H Q I hw)
def iW (ha:PE X a ta)(hb:PE X (.BoolOp .And (b::rest) pos) tb):PE X (.BoolOp .And (a::b::rest) pos) (aHl ta tb):=by
 intro pins s σ H Q I h;refine BoolOp_and (thn (ha pins s σ H _ I h) λv s1 ⟨x,H1,I1,r1,q1⟩=>?_);obtain ⟨c,rfl,q1⟩:=q1;cases r1;refine DC ?_;cases c with
 |true=>exact hb pins s1 σ H1 Q I1 q1
 |false=>exact ⟨.bl false,H1,I1,rfl,q1⟩
def aDd (ha:PE X a ta)(hb:PE X (.BoolOp .Or (b::rest) pos) tb):PE X (.BoolOp .Or (a::b::rest) pos) (tOrV ta tb):=by
 intro pins s σ H Q I h;refine BoolOp_or (thn (ha pins s σ H _ I h) λv s1 ⟨x,H1,I1,r1,q1⟩=>?_);obtain ⟨c,rfl,q1⟩:=q1;cases r1;refine DC ?_;cases c with
 |false=>exact hb pins s1 σ H1 Q I1 q1
 |true=>exact ⟨.bl true,H1,I1,rfl,q1⟩
def vT (ha:PE X a ta):PE X (.UnaryOp .Not a pos) (aHc ta):=by
 intro pins s σ H Q I h;refine UnaryOp_ (thn (ha pins s σ H _ I h) λv s1 ⟨x,H1,I1,r1,q1⟩=>?_);obtain ⟨c,rfl,q1⟩:=q1;cases r1;exact not_of (DC ⟨.bl (!c),H1,I1,rfl,q1⟩)
def tIf (t:TT)(ta tb:TE):TE:=λσ H Q=>t σ H λc H1=>if c=true then ta σ H1 Q else tb σ H1 Q
end
def SqL (K:Aa)(H:Hp)(a:Addr)(xs:List V):Prop:=
 Rd H a (.lst xs) \/
  ∃ (o:Obj) (its:Array Value) (n:Nat),K.lookup a=some o/\o.cls=.type "list" /\ o.dict=none/\o.data=.seq its n/\its.size<=Ax/\Vals xs its.toList
def SqT (K:Aa)(H:Hp)(a:Addr)(xs:List V):Prop:=
 Rd H a (.tup xs) \/
  ∃ (o:Obj) (its:Array Value) (n:Nat),K.lookup a=some o/\o.cls=.type "tuple" /\ o.data=.seq its n/\its.size<=Ax/\Vals xs its.toList
def absV:Value->Option V
 |.none=>some .non
 |.bool b=>some (.bl b)
 |.int i _=>some (.int i)
 |.str x _=>some (.str x)
 |.bytes b _=>some (.byt b)
 |.float b _=>some (.flt b)
 |.ref a=>some (.ref a)
 |.type n=>some (.ty n)
 |_=>none
def RelV.abs (r:RelV x u):absV u=some x:=by
 cases x with
 |non=>cases r;rfl
 |bl _=>cases r;rfl
 |int _=>obtain ⟨t,rfl⟩:=r;rfl
 |str _=>obtain ⟨t,rfl⟩:=r;rfl
 |byt _=>obtain ⟨t,rfl⟩:=r;rfl
 |flt _=>obtain ⟨t,rfl⟩:=r;rfl
 |ref _=>cases r;rfl
 |ty _=>cases r;rfl
theorem RelV.inj (r:RelV x u)(q:RelV y u):x=y:=AK (r.abs.symm.trans q.abs)
theorem Vals.inj:∀ {xs ys:List V} {us:List Value},Vals xs us->Vals ys us->xs=ys
 |_,_,_,.nil,.nil=>rfl
 |_,_,_,.cons r t,.cons r' t'=>by rw [r.inj r',Vals.inj t t']
section
variable {X:Cx}{pins:List (Addr×Obj)}{σ:St}{H:Hp}{s:Shared}{a:Addr}{xs ys:List V}
def SqL.of {K:Aa}(h:H a=some (.lst xs)):SqL K H a xs:=.inl (.inl h)
def SqT.of {K:Aa}(h:H a=some (.tup xs)):SqT K H a xs:=.inl (.inl h)
def Inv.list (I:Inv X pins σ H s)(h:SqL X.K H a xs):∃ its:List Value,Vals xs its/\PlainL s.heap a its.toArray/\xs.length<=Ax:=by
 rcases h with h|⟨o,its,n,hk,hc,hd,hs,hz,r⟩
 ·obtain ⟨z,its,n,r,e⟩:=h.ok I.hok
  exact ⟨its,r,⟨_,n,e,rfl,rfl,rfl⟩,z⟩
 ·refine ⟨its.toList,r,⟨o,n,I.kIn a o hk,hc,hd,by simpa using hs⟩,?_⟩
  have e:=r.length;simp only [BE] at e;omega
def Inv.tuple (I:Inv X pins σ H s)(h:SqT X.K H a xs):∃ its:List Value,Vals xs its/\IsTup s.heap a its.toArray/\xs.length<=Ax:=by
 rcases h with h|⟨o,its,n,hk,hc,hs,hz,r⟩
 ·obtain ⟨z,its,r,p⟩:=h.ok I.hok
  exact ⟨its,r,p,z.1⟩
 ·refine ⟨its.toList,r,⟨o,I.kIn a o hk,hc,n,by simpa using hs⟩,?_⟩
  have e:=r.length;simp only [BE] at e;omega
theorem Inv.list_inj (I:Inv X pins σ H s)(h:SqL X.K H a xs)(h':SqL X.K H a ys):xs=ys:=by
 obtain ⟨its,r,⟨o,n,e,_,_,d⟩,_⟩:=I.list h;obtain ⟨its',r',⟨o',n',e',_,_,d'⟩,_⟩:=I.list h';rw [e] at e';cases e';rw [d] at d';injection d' with d1 _;have:its=its':=by simpa using congrArg Array.toList d1
 subst this;exact r.inj r'
theorem Inv.tuple_inj (I:Inv X pins σ H s)(h:SqT X.K H a xs)(h':SqT X.K H a ys):xs=ys:=by
 obtain ⟨its,r,⟨o,e,_,n,d⟩,_⟩:=I.tuple h;obtain ⟨its',r',⟨o',e',_,n',d'⟩,_⟩:=I.tuple h';rw [e] at e';cases e';rw [d] at d';injection d' with d1 _;have:its=its':=by simpa using congrArg Array.toList d1
 subst this;exact r.inj r'
end
abbrev Cx.wish (X:Cx)(E:Value->Shared->Prop):Cx:={ X with xe:=E }
abbrev Cx.nox (X:Cx):Cx:=X.wish λ_ _=>False
def Cx.Ok.wish {X:Cx}(ok:X.Ok)(E:Value->Shared->Prop):(X.wish E).Ok:=
 ⟨ok.mod,ok.kind,ok.glob,ok.blt,ok.above,ok.inj,ok.has,ok.cab,ok.hd,ok.frames,ok.stk,ok.exf,ok.bs,ok.bsz,ok.noex,ok.exfs,ok.funs,ok.frf⟩
def Cx.Ok.unwish {X:Cx}{E:Value->Shared->Prop}(ok:(X.wish E).Ok):X.Ok:=
 ⟨ok.mod,ok.kind,ok.glob,ok.blt,ok.above,ok.inj,ok.has,ok.cab,ok.hd,ok.frames,ok.stk,ok.exf,ok.bs,ok.bsz,ok.noex,ok.exfs,ok.funs,ok.frf⟩
section
variable {X:Cx}{pins:List (Addr×Obj)}{σ:St}{H:Hp}{s:Shared}{E:Value->Shared->Prop}
def Inv.wish (I:Inv X pins σ H s)(E:Value->Shared->Prop):Inv (X.wish E) pins σ H s:=⟨I.ok.wish E,I.os,I.bare,I.base,I.loc,I.cell,I.free,I.freeC,I.pin,I.hok,I.len⟩
def Inv.unwish (I:Inv (X.wish E) pins σ H s):Inv X pins σ H s:=⟨I.ok.unwish,I.os,I.bare,I.base,I.loc,I.cell,I.free,I.freeC,I.pin,I.hok,I.len⟩
def SP.unwish (h:SP (X.wish E) pins D f s'):SP X pins D f s':=by
 cases f with
 |next=>obtain ⟨σ',H',I,q⟩:=h;exact ⟨σ',H',I.unwish,q⟩
 |brk=>obtain ⟨σ',H',I,q⟩:=h;exact ⟨σ',H',I.unwish,q⟩
 |cont=>obtain ⟨σ',H',I,q⟩:=h;exact ⟨σ',H',I.unwish,q⟩
 |ret u=>obtain ⟨v,σ',H',I,r,q⟩:=h;exact ⟨v,σ',H',I.unwish,r,q⟩
def PSs.nox {st:List Stmt}{t:TS}(h:PSs X.nox st t):PSs X st t:=λpins s σ H D I hw=>
 BW (h pins s σ H D (I.wish _) hw) (λ_ _ q=>q.unwish) λ_ _ z=>CH z
end
section
variable {X:Cx}{st:Stmt}{rest:List Stmt}{t u:TS}{e:Expr}{te:TE}{pos:Pos}
def aHd:TS:=λD σ H=>D.nx σ H
def tSeq (t u:TS):TS:=λD σ H=>t { D with nx:=u D } σ H
def aP:PSs X [] aHd:=λ_ _ σ H _ I h=>Fw ⟨σ,H,I,h⟩
def aD (h1:PS X st t)(h2:PSs X rest u):PSs X (st::rest) (tSeq t u):=by
 intro pins s σ H D I h;refine wpAny_execs_cons (thn (h1 pins s σ H { D with nx:=u D } I h) λf s1 q=>?_);cases f with
 |next=>
  obtain ⟨σ',H',I',q⟩:=q;exact h2 pins s1 σ' H' D I' q
 |ret v=>exact q
 |brk=>exact q
 |cont=>exact q
def aG (h1:PS X st t):PSs X [st] t:=by
 intro pins s σ H D I h;refine wpAny_execs_cons (thn (h1 pins s σ H D I h) λf s1 q=>?_);cases f with
 |next=>exact Fw q
 |ret v=>exact q
 |brk=>exact q
 |cont=>exact q
def tBreak:TS:=λD σ H=>D.bk σ H
def tCont:TS:=λD σ H=>D.ct σ H
def Inv.quiet {σ:St}(I:Inv X pins σ H s):interactive X.env=false:=by simp [interactive,I.ok.kind]
def aHi (te:TE):TS:=λD σ H=>te σ H λ_ H1=>D.nx σ H1
def dG (he:PE X e te)(hs:swapsWith e none pos.line X.env=pure false:=by rfl):PS X (.Expr e pos) (aHi te):=by
 intro pins s σ H D I h;exact wpAny_Expr_any (thn (he pins s σ H _ I h) λv s1 ⟨x,H1,I1,r1,q1⟩=>⟨σ,H1,I1,q1⟩) I.quiet hs
def tRet (te:TE):TS:=λD σ H=>te σ H D.rt
def aL (he:PE X e te):PS X (.Return (some e) pos) (tRet te):=by
 intro pins s σ H D I h;exact wpAny_Return_some (thn (he pins s σ H _ I h) λv s1 ⟨x,H1,I1,r1,q1⟩=>⟨x,σ,H1,I1,r1,q1⟩)
def tRetN:TS:=λD _ H=>D.rt .non H
def tIfS (c:TT)(t u:TS):TS:=λD σ H=>c σ H λb H1=>if b=true then t D σ H1 else u D σ H1
def bF {c:Expr}{a b:List Stmt}{tc:TT}(hc:PT X c tc)(ha:PSs X a t)(hb:PSs X b u):PS X (.If c a b pos) (tIfS tc t u):=by
 intro pins s σ H D I h;refine wpAny_If (thn (hc pins s σ H _ I h) λd s1 ⟨H1,I1,q1⟩=>?_);cases d with
 |true=>exact ha pins s1 σ H1 D I1 q1
 |false=>exact hb pins s1 σ H1 D I1 q1
def aE0:TS:=λ_ _ _=>False
def zM:PS X st aE0:=λ_ _ _ _ _ _ h=>h.elim
end
abbrev TG:=V->St->Hp->(St->Hp->Prop)->Prop
abbrev TGs:=List V->St->Hp->(St->Hp->Prop)->Prop
def PG (X:Cx)(target:Expr)(t:TG):Prop:=
 ∀ (pins:List (Addr×Obj)) (s:Shared) (σ:St) (H:Hp) (v:V) (u:Value) (Q:St->Hp->Prop),Inv X pins σ H s->RelV v u->t v σ H Q ->
  wpAny (model X.prog X.w) X.A (assign target X.env u) (λ_ s'=>∃ σ' H',Inv X pins σ' H' s'/\Q σ' H') X.xe s
def PGs (X:Cx)(ts:List Expr)(t:TGs):Prop:=
 ∀ (pins:List (Addr×Obj)) (s:Shared) (σ:St) (H:Hp) (vs:List V) (us:List Value) (Q:St->Hp->Prop),Inv X pins σ H s->Vals vs us->t vs σ H Q ->
  wpAny (model X.prog X.w) X.A (assignInOrder ((assignEach ts X.env).map (·.2)) us) (λ_ s'=>∃ σ' H',Inv X pins σ' H' s'/\Q σ' H') X.xe s
abbrev TSet:=V->V->V->Hp->(Hp->Prop)->Prop
def PSet (X:Cx)(t:TSet):Prop:=
 ∀ (pins:List (Addr×Obj)) (s:Shared) (σ:St) (H:Hp) (o i v:V) (ov iv u:Value) (Q:Hp->Prop),Inv X pins σ H s->RelV o ov->RelV i iv->RelV v u->t o i v H Q ->
  wpAny (model X.prog X.w) X.A (setItem ov iv u) (λ_ s'=>∃ H',Inv X pins σ H' s'/\Q H') X.xe s
abbrev TIp:=V->V->Hp->VK->Prop
def PIp (X:Cx)(op:Operator)(t:TIp):Prop:=
 ∀ (pins:List (Addr×Obj)) (s:Shared) (σ:St) (H:Hp) (x y:V) (v u:Value) (Q:VK),Inv X pins σ H s->RelV x v->RelV y u->t x y H Q ->
  wpAny (model X.prog X.w) X.A (inplaceOp op v u) (EP X pins σ Q) X.xe s
section
variable {X:Cx}{pos:Pos}
def gName (i:Nat):TG:=λv σ H Q=>Q (σ.set i (some v)) H
def bA {i:Nat}(hN:X.N.Nodup)(hi:X.N[i]?=some x)(hx:Loc X.env.scope x)(hf:X.fn x=true\/X.env.scope.names.lookup x=some .local:=by first|exact .inl rfl|exact .inr rfl|assumption):PG X (.Name x pos) (gName i):=by
 intro pins s σ H v u Q I r h;exact wpAny_assign_Name (fN I hN hi hx r (λs' I'=>⟨_,H,I',h⟩) hf)
def gNil:TGs:=λvs σ H Q=>vs=[]/\Q σ H
def aEe (t:TG)(u:TGs):TGs:=λvs σ H Q=>∃ v r,vs=v::r/\t v σ H λσ' H'=>u r σ' H' Q
def fK:PGs X [] gNil:=by
 intro pins s σ H vs us Q I r h;obtain ⟨e,h⟩:=h;subst e;cases r;exact assignInOrder_nil ⟨σ,H,I,h⟩
def cY {e:Expr}{es:List Expr}{t:TG}{u:TGs}(h1:PG X e t)(h2:PGs X es u)
  (hs:(assignEach (e::es) X.env).map (·.2)=assign e X.env::(assignEach es X.env).map (·.2):=by rfl):PGs X (e::es) (aEe t u):=by
 intro pins s σ H vs us Q I r h;obtain ⟨v,vr,e1,h⟩:=h;subst e1;cases r with
 |cons r rr=>
  rw [hs];refine assignInOrder_cons (thn (h1 pins s σ H _ _ _ I r h) λ_ s1 ⟨σ1,H1,I1,q1⟩=>?_);exact h2 pins s1 σ1 H1 _ _ Q I1 rr q1
def gTup (K:Aa)(n:Nat)(t:TGs):TG:=λv σ H Q=>∃ a xs,v=.ref a/\SqT K H a xs/\xs.length=n/\t xs σ H Q
def iT {k:Nat}{n:Nat}(hc:X.calm=true)(h:PGs X es t)(hn:(assignEach es X.env).length=n:=by rfl)(hst:(assignEach es X.env).findIdx? (·.1)=none:=by rfl):PG X (.Tuple es k pos) (gTup X.K n t):=by
 intro pins s σ H v u Q I r hw;obtain ⟨a,xs,e1,hq,hl,hw⟩:=hw;subst e1;cases r;obtain ⟨its,rv,ht,hz⟩:=I.tuple hq;refine assign_Tuple_tuple (I.ok.hd hc) ht (by simp [hn,<- hl,rv.length]) hst λh' hx=>?_;have I1:Inv X pins σ H { s with heap:=h' }:=I.kept (t':=s.toks) λb o e=>hx b o (Aw (Aq e)) e;exact h pins _ σ H xs _ Q I1 (by simpa using rv) hw
def gSub (to ti:TE)(t:TSet):TG:=λv σ H Q=>to σ H λo H1=>ti σ H1 λi H2=>t o i v H2 λH3=>Q σ H3
def mW {o i:Expr}{to ti:TE}{t:TSet}(ho:PE X o to)(hi:PE X i ti)(hs:PSet X t)
  (ha:∀ v,assign (.Subscript o i pos) X.env v=(do
   let ov <- holding [v] (eval o X.env)
   let iv <- holding [v,ov] (eval i X.env)
   standAt pos
   holding [v,ov,iv] (setItem ov iv v)
   release [v,ov,iv] []):=by intro _;rfl):PG X (.Subscript o i pos) (gSub to ti t):=by
 intro pins s σ H v u Q I r h;rw [ha];refine Ab (Bw (thn (ho pins s σ H _ I h) λov s1 ⟨x,H1,I1,r1,q1⟩=>?_));refine Ab (Bw (thn (hi pins s1 σ H1 _ I1 q1) λiv s2 ⟨y,H2,I2,r2,q2⟩=>?_));refine Ab (Fo (Ab (Bw (thn (hs pins s2 σ H2 x y v ov iv u _ I2 r1 r2 r q2) λ_ s3 ⟨H3,I3,q3⟩=>?_))));exact wpAny_release ⟨σ,H3,I3,q3⟩
def tAsg (te:TE)(g:TG):TS:=λD σ H=>te σ H λx H1=>g x σ H1 D.nx
def gU {tg e:Expr}{te:TE}{g:TG}(he:PE X e te)(hg:PG X tg g)(hs:swapsWithSole [tg] e pos.line X.env=pure false:=by rfl)(hw:swappedStores [tg] e X.env=pure none:=by rfl)
  (h1:(assignEach [tg] X.env).map (·.2)=[assign tg X.env]:=by rfl):PS X (.Assign [tg] e pos) (tAsg te g):=by
 intro pins s σ H D I h;refine wpAny_Assign_stores (thn (he pins s σ H _ I h) λv s1 ⟨x,H1,I1,r1,q1⟩=>?_) hs hw;rw [h1];exact thn (hg pins s1 σ H1 x v _ I1 r1 q1) λ_ s2 q=>q
def aM {i:Nat}{x:Str}{e:Expr}{te:TE}{pos':Pos}(hN:X.N.Nodup)(hi:X.N[i]?=some x)(hx:Loc X.env.scope x)(he:PE X e te)(hs:swapsWith e (some (.Name x pos')) pos.line X.env=pure false:=by rfl)(hf:X.fn x=true\/X.env.scope.names.lookup x=some .local:=by first|exact .inl rfl|exact .inr rfl|assumption) :
  PS X (.Assign [.Name x pos'] e pos) (tAsg te (gName i)):=by
 intro pins s σ H D I h;refine wpAny_Assign_Name (thn (he pins s σ H _ I h) λv s1 ⟨y,H1,I1,r1,q1⟩=>?_) hs;exact fN I1 hN hi hx r1 (λs2 I2=>⟨_,H1,I2,q1⟩) hf
def tPar (i j:Nat)(ta:TA):TS:=λD σ H=>ta σ H λvs H1=>∃ v w,vs=[v,w]/\D.nx ((σ.set i (some v)).set j (some w)) H1
def aFt {i j:Nat}{x y:Str}{a b:Expr}{ta:TA}{px py pt:Pos}{kt k2 pt2}(hc:X.calm=true)(hN:X.N.Nodup)(hi:X.N[i]?=some x)(hj:X.N[j]?=some y)(hij:i≠j)
  (hx:X.env.scope.names.lookup x=some .local) (hy:X.env.scope.names.lookup y=some .local) (ha:PA X [a,b] ta)
  (hw:swappedStores [.Tuple [.Name x px,.Name y py] kt pt] (.Tuple [a,b] k2 pt2) X.env=pure (some [x,y]))
  (hs:swapsWithSole [.Tuple [.Name x px,.Name y py] kt pt] (.Tuple [a,b] k2 pt2) pos.line X.env=pure false:=by rfl) :
  PS X (.Assign [.Tuple [.Name x px,.Name y py] kt pt] (.Tuple [a,b] k2 pt2) pos) (tPar i j ta):=by
 intro pins s σ H D I h;rw [exec_Assign_arm];refine Ab (Fo ?_);rw [hs];refine Ab (Af ?_);rw [if_neg (by decide)];refine Ab (Tuple_ (thn (ha _ pins s σ H _ I h) λus s1 ⟨vs,H1,I1,r1,q1⟩=>?_));obtain ⟨v,w,e1,q1⟩:=q1;subst e1;obtain ⟨u1,u2,rfl,rv,rw'⟩:∃ u1 u2,us=[u1,u2]/\RelV v u1/\RelV w u2:=by
  cases r1 with
  |cons p q=>
   cases q with
   |cons p' q'=>
    cases q';exact ⟨_,_,rfl,p,p'⟩
 refine AZ ?_ zLn2;have I2:Inv X pins σ H1 { s1 with heap:=s1.heap.push { cls:=.type "tuple",data:=.seq [u1,u2].toArray } }:=I1.kept (t':=s1.toks) λb o e=>Ac _ e;rw [hw];refine Ab (Af ?_);show wpAny (model X.prog X.w) X.A (do rule "assign.swapped-stores";let items <- unpackItems (.ref s1.heap.objs.size) 2 none;assignInOrder [λv=>bindName X.env y v,λv=>bindName X.env x v] items.reverse;pure Flow.next) _ _ _;refine Ab (Dp (Ab (unpackItems_tuple (items:=#[u1,u2]) (I.ok.hd hc) (IsTup.new s1.heap _) λh' hx'=>?_)));have I3:=I2.kept (h':=h') (t':=s1.toks) λb o e=>hx' b o (Aw (Aq e)) e;show wpAny _ _ (assignInOrder [λv=>bindName X.env y v,λv=>bindName X.env x v] [u2,u1] >>= λ_=>pure Flow.next) _ _ _;refine Ab (assignInOrder_cons (wpAny_bindName (fN I3 hN hj (.inl hy) rw' (λs2 I4=>?_) (.inr hy))));refine assignInOrder_cons (wpAny_bindName (fN I4 hN hi (.inl hx) rv (λs3 I5=>assignInOrder_nil (Af ?_)) (.inr hx)));rw [List.set_comm _ _ (AQ hij)] at I5;exact ⟨_,H1,I5,q1⟩
def tAug (i:Nat)(te:TE)(ti:TIp):TS:=λD σ H=>∃ x,σ[i]?=some (some x)/\te σ H λy H1=>ti x y H1 λz H2=>D.nx (σ.set i (some z)) H2
def tAugS (to ti te:TE)(tget:V->V->Hp->VK->Prop)(tip:TIp)(tset:TSet):TS:=λD σ H=>to σ H λo H1=>ti σ H1 λi H2=>tget o i H2 λx H3=>te σ H3 λy H4=>tip x y H4 λz H5=>tset o i z H5 λH6=>D.nx σ H6
def PGet (X:Cx)(t:V->V->Hp->VK->Prop):Prop:=
 ∀ (pins:List (Addr×Obj)) (s:Shared) (σ:St) (H:Hp) (o i:V) (ov iv:Value) (Q:VK),Inv X pins σ H s->RelV o ov->RelV i iv->t o i H Q ->
  wpAny (model X.prog X.w) X.A (getItem ov iv) (EP X pins σ Q) X.xe s
def ipI (f:Int->Int->Int):TIp:=λx y H Q=>∃ i j,x=.int i/\y=.int j/\Q (.int (f i j)) H
end
section
variable {X:Cx}{pos:Pos}
def aBc (c:TT)(tb:TS):TS:=λD σ H=>∃ W:Nat->St->Hp->Prop,(∃ m,W m σ H)/\∀ m σ H,W m σ H ->
 c σ H λb H1=>if b=true then ∃ N:St->Hp->Prop,(∀ σ' H',N σ' H'->∃ m',m'<m/\W m' σ' H')/\tb { D with nx:=N,ct:=N,bk:=D.nx } σ H1 else D.nx σ H1
def qX {c:Expr}{body:List Stmt}{tc:TT}{tb:TS}(hp:Cf (model X.prog X.w) X.A X.env X.xe)(hc:PT X c tc)(hb:PSs X body tb):PS X (.While c body [] pos) (aBc tc tb):=by
 intro pins s σ H D I h;obtain ⟨W,⟨m0,w0⟩,turn⟩:=h;refine wpAny_While (codeAny_whileLoop (λn s'=>∃ σ' H',Inv X pins σ' H' s'/\W n σ' H') ?_ m0 ⟨σ,H,I,w0⟩)
 rintro n s1 ⟨σ1,H1,I1,w1⟩
 refine Ee hp (thn (hc pins s1 σ1 H1 _ I1 (turn n σ1 H1 w1)) λb s2 ⟨H2,I2,q2⟩=>?_);cases b with
 |true=>
  obtain ⟨N,hN,q2⟩:=q2;rw [if_pos rfl];refine Ee hp (thn (hb pins s2 σ1 H2 _ I2 q2) λf s3 q3=>?_);cases f with
  |next=>
   obtain ⟨σ3,H3,I3,n3⟩:=q3;obtain ⟨m',hm,w3⟩:=hN σ3 H3 n3;exact ⟨m',hm,σ3,H3,I3,w3⟩
  |cont=>
   obtain ⟨σ3,H3,I3,n3⟩:=q3;obtain ⟨m',hm,w3⟩:=hN σ3 H3 n3;exact ⟨m',hm,σ3,H3,I3,w3⟩
  |brk=>exact q3
  |ret v=>exact q3
 |false=>
  rw [if_neg AC];exact Fw ⟨σ1,H2,I2,q2⟩
end
structure It where
 go:Nat->Hp->Prop
 yld:Nat->Hp->V->Hp->Prop
 stop:Nat->Hp->Prop
def FpOk (X:Cx)(pins:List (Addr×Obj))(H:Hp)(b:Addr):Prop:=
 H b=none/\b≠X.env.locals/\b∉X.fs/\(b∈X.ex\/X.s₀.heap.objs.size<=b)/\(∀ x c,X.env.cells.lookup x=some c->c≠b)/\∀ p∈X.pn++pins,p.1≠b
def Inv.fpOk {σ:St}(I:Inv X pins σ H s)(hb:s.heap.objs.size<=b)(hn:H' b=none):FpOk X pins H' b:=by
 refine ⟨hn,Dz (AR I.lt hb),I.nofs hb,.inr (Bh I.sz hb),λx c e z=>?_,λp hp z=>?_⟩
 ·obtain ⟨v,q⟩:=I.cell x c e
  exact absurd (AR q.lt (by rw [z];exact hb)) (CB _)
 ·exact absurd (AR (Aq (I.pin p hp).1) (by rw [z];exact hb)) (CB _)
structure Turn (P:Az)(w:World)(K:Aa)(tg:Expr)(J:It)(fp:List Addr)(it:Addr)(tn:Nat->Heap->Prop):Prop where
 mem:it∈fp
 obj:∀ i h,tn i h->∀ b∈fp,∃ o,h.get? b=some o/\∀ v,o.data≠.cell v
 keep:∀ i h h',tn i h->(∀ b∈fp,∀ o,h.get? b=some o->h'.get? b=some o)->tn i h'
 item:∀ (X:Cx),X.prog=P->X.w=w->X.K=K->X.calm=true->∀ (i:Nat) (pins:List (Addr×Obj)) (s:Shared) (σ:St) (H:Hp) (E:Value->Shared->Prop),Inv X pins σ H s->(∀ b∈fp,FpOk X pins H b)->tn i s.heap->J.go i H ->
  wpAny (model P w) X.A (pyNext (.ref it)) (λr s1=>∃ u,r=some u /\
   wpAny (model P w) X.A (Fx tg (.ref it) u) (λ_ s2=>∃ x H',Inv X pins σ H' s2/\RelV x u/\J.yld i H x H'/\tn (i+1) s2.heap/\∀ b∈fp,H' b=none) E s1) E s
 done:∀ (X:Cx),X.prog=P->X.w=w->X.K=K->X.calm=true->∀ (i:Nat) (pins:List (Addr×Obj)) (s:Shared) (σ:St) (H:Hp) (E:Value->Shared->Prop),Inv X pins σ H s->(∀ b∈fp,FpOk X pins H b)->tn i s.heap->J.stop i H ->
  wpAny (model P w) X.A (pyNext (.ref it)) (λr s1=>r=none/\Inv X pins σ H s1) E s
 self:∀ (A:Around) (i:Nat) (s:Shared) (Q:Value->Shared->Prop) (E:Value->Shared->Prop),tn i s.heap->Q (.ref it) s->wpAny (model P w) A (pyIter (.ref it)) Q E s
abbrev TI:=St->Hp->(It->Hp->Prop)->Prop
def PIE (X:Cx)(pins:List (Addr×Obj))(σ:St)(tg:Expr)(R:It->Hp->Prop)(itv:Value)(s2:Shared):Prop:=
 ∃ (it:Addr) (fp:List Addr) (tn:Nat->Heap->Prop) (J:It) (H':Hp),itv=.ref it/\Inv X pins σ H' s2/\Turn X.prog X.w X.K tg J fp it tn/\tn 0 s2.heap/\(∀ b∈fp,FpOk X pins H' b)/\R J H'
def PI (X:Cx)(tg iter:Expr)(wi:TI):Prop:=
 ∀ (pins:List (Addr×Obj)) (s:Shared) (σ:St) (H:Hp) (R:It->Hp->Prop),Inv X pins σ H s->wi σ H R ->
  wpAny (model X.prog X.w) X.A (eval iter X.env) (λv s1=>wpAny (model X.prog X.w) X.A (pyIter v) (PIE X pins σ tg R) X.xe s1) X.xe s
def xK (ho:s.heap.get? it=some o)(hc:o.cls=.type n)(hd:o.data=.fields vs)(hn:["enumerate","zip","dict_itemiterator","dict_reverseitemiterator","odict_iterator","itertools.zip_longest","itertools.pairwise"].contains n=false)(hQ:Q () s):wpAny M A (Fx tg (.ref it) u) Q E s:=by
  unfold Fx;cases tg<;>first
    |exact Af hQ
    | (cases u <;> first
        |exact Af hQ
        | (refine Ab (wpAny_load ho ?_)
           rw [hc,hd];show wpAny M A (if (["enumerate","zip","dict_itemiterator","dict_reverseitemiterator","odict_iterator","itertools.zip_longest","itertools.pairwise"].contains n&&vs[0]?==some (rawInt _))=true then _ else _) Q E s;rw [if_neg (by intro h;rw [hn,Bool.false_and] at h;cases h)];exact Af hQ))
def Itl (K:Aa)(a:Addr):It:=
 ⟨λi H=>∃ xs x,SqL K H a xs/\xs[i]?=some x,λi H x H'=>H'=H/\∀ xs,SqL K H a xs->xs[i]?=some x,λi H=>∃ xs,SqL K H a xs/\xs.length<=i⟩
def Itt (K:Aa)(a:Addr):It:=
 ⟨λi H=>∃ xs x,SqT K H a xs/\xs[i]?=some x,λi H x H'=>H'=H/\∀ xs,SqT K H a xs->xs[i]?=some x,λi H=>∃ xs,SqT K H a xs/\xs.length<=i⟩
def Itr (lo:Int)(n:Nat):It:=⟨λi _=>i<n,λi H x H'=>H'=H/\x=.int (lo+i),λi _=>n<=i⟩
def uI {P:Az}{w:World}{K:Aa}{tg:Expr}(a it:Addr):Turn P w K tg (Itl K a) [it] it (λi h=>h.IsListIter it a i) where
 mem:=by simp
 obj:=λi h st b hb=>by
  have e:b=it:=by simpa using hb
  subst e;obtain ⟨o,e,c,d⟩:=st;exact ⟨o,e,λv z=>by rw [d] at z;cases z⟩
 keep:=λi h h' st k=>st.at λo e=>k it (by simp) o e
 item:=by
  intro X hP hw hK hc i pins s σ H E I hf st hg;subst hP hw hK;obtain ⟨xs,x,hq,hx⟩:=hg;obtain ⟨its,rv,p,hz⟩:=I.list hq;obtain ⟨u,hu,ru⟩:=rv.get hx;obtain ⟨f0,f1,f2,f3,f4,f5⟩:=hf it (by simp);refine wpAny_pyNext_list_item st p.isList (x:=u) (by simpa using hu) λh' st' sb=>?_;have I1:Inv X pins σ H { s with heap:=h' }:=I.turned (t':=s.toks) (λb o hb e=>(sb.2 b hb).trans e) f0 f1 f3 f4 f5;obtain ⟨o,e,c,d⟩:=id st';exact ⟨u,rfl,xK (s:={ s with heap:=h' }) e c d (by decide) ⟨x,H,I1,ru,⟨rfl,λys hy=>by rw [I.list_inj hy hq];exact hx⟩,st',λb hb=>(hf b hb).1⟩⟩
 done:=by
  intro X hP hw hK hc i pins s σ H E I hf st hg;subst hP hw hK;obtain ⟨xs,hq,hx⟩:=hg;obtain ⟨its,rv,p,hz⟩:=I.list hq;obtain ⟨f0,f1,f2,f3,f4,f5⟩:=hf it (by simp);have hl:=rv.length;exact wpAny_pyNext_list_end (I.ok.hd hc) st p.isList (by simp;omega) λh' eb=>⟨rfl,I.turned (t':=s.toks) (λb o hb e=>eb b o hb e) f0 f1 f3 f4 f5⟩
 self:=λ_ _ _ _ _ st h=>wpAny_pyIter_listiter st h
def sQ {P:Az}{w:World}{K:Aa}{tg:Expr}(a it:Addr):Turn P w K tg (Itt K a) [it] it (λi h=>h.IsTupleIter it a i) where
 mem:=by simp
 obj:=λi h st b hb=>by
  have e:b=it:=by simpa using hb
  subst e;obtain ⟨o,e,c,d⟩:=st;exact ⟨o,e,λv z=>by rw [d] at z;cases z⟩
 keep:=λi h h' st k=>st.at λo e=>k it (by simp) o e
 item:=by
  intro X hP hw hK hc i pins s σ H E I hf st hg;subst hP hw hK;obtain ⟨xs,x,hq,hx⟩:=hg;obtain ⟨its,rv,p,hz⟩:=I.tuple hq;obtain ⟨u,hu,ru⟩:=rv.get hx;obtain ⟨f0,f1,f2,f3,f4,f5⟩:=hf it (by simp);refine wpAny_pyNext_tuple_item st (show s.heap.IsTuple a its.toArray from p) (x:=u) (by simpa using hu) λh' st' sb=>?_;have I1:Inv X pins σ H { s with heap:=h' }:=I.turned (t':=s.toks) (λb o hb e=>(sb.2 b hb).trans e) f0 f1 f3 f4 f5;obtain ⟨o,e,c,d⟩:=id st';exact ⟨u,rfl,xK (s:={ s with heap:=h' }) e c d (by decide) ⟨x,H,I1,ru,⟨rfl,λys hy=>by rw [I.tuple_inj hy hq];exact hx⟩,st',λb hb=>(hf b hb).1⟩⟩
 done:=by
  intro X hP hw hK hc i pins s σ H E I hf st hg;subst hP hw hK;obtain ⟨xs,hq,hx⟩:=hg;obtain ⟨its,rv,p,hz⟩:=I.tuple hq;obtain ⟨f0,f1,f2,f3,f4,f5⟩:=hf it (by simp);have hl:=rv.length;exact wpAny_pyNext_tuple_end (I.ok.hd hc) st (show s.heap.IsTuple a its.toArray from p) (by simp;omega) λh' eb=>⟨rfl,I.turned (t':=s.toks) (λb o hb e=>eb b o hb e) f0 f1 f3 f4 f5⟩
 self:=λ_ _ _ _ _ st h=>wpAny_pyIter_tupleiter st h
def sR {P:Az}{w:World}{K:Aa}{tg:Expr}(it:Addr)(lo:Int)(n:Nat):Turn P w K tg (Itr lo n) [it] it (λi h=>IsRangeIter h it (lo+(i:Nat)*1) ((n:Int)-(i:Nat)) 1) where
 mem:=by simp
 obj:=λi h st b hb=>by
  have e:b=it:=by simpa using hb
  subst e;exact ⟨_,st,λv z=>by
   have z':Data.fields _=Data.cell v:=z;cases z'⟩
 keep:=λi h h' st k=>k it (by simp) _ st
 item:=by
  intro X hP hw hK hc i pins s σ H E I hf st hg;subst hP hw hK;obtain ⟨f0,f1,f2,f3,f4,f5⟩:=hf it (by simp);have W:=Walks.range (prog:=X.prog) (w:=X.w) (I.ok.hd hc) it lo 1 n;refine W.item i s _ _ hg st λv h' tk hv st' kk=>?_;obtain ⟨t,rfl⟩:=hv;have I1:Inv X pins σ H { s with heap:=h',toks:=tk }:=I.turned (λb o hb e=>kk b o (by simpa using hb) e) f0 f1 f3 f4 f5;refine ⟨_,rfl,xK (s:={ s with heap:=h',toks:=tk }) (n:="range_iterator") st' rfl rfl (by decide) ⟨.int (lo+i),H,I1,⟨t,?_⟩,⟨rfl,rfl⟩,st',λb hb=>(hf b hb).1⟩⟩;rw [Int.mul_one]
 done:=by
  intro X hP hw hK hc i pins s σ H E I hf st hg;subst hP hw hK;obtain ⟨f0,f1,f2,f3,f4,f5⟩:=hf it (by simp);exact wpAny_pyNext_range_end (I.ok.hd hc) st (by have:n<=i:=hg;omega) λh' eb=>⟨rfl,I.turned (t':=s.toks) (λb o hb e=>eb b o hb e) f0 f1 f3 f4 f5⟩
 self:=λ_ _ _ _ _ st h=>wpAny_pyIter_rangeiter st h
section
variable {X:Cx}{tg:Expr}
def aIe (K:Aa)(tl:TE):TI:=λσ H R=>tl σ H λx H1=>∃ a,x=.ref a/\(∃ xs,SqL K H1 a xs)/\R (Itl K a) H1
def iTup (K:Aa)(tl:TE):TI:=λσ H R=>tl σ H λx H1=>∃ a,x=.ref a/\(∃ xs,SqT K H1 a xs)/\R (Itt K a) H1
def vQ {l:Expr}{tl:TE}(hl:PE X l tl):PI X tg l (aIe X.K tl):=by
 intro pins s σ H R I h;refine thn (hl pins s σ H _ I h) λv s1 ⟨x,H1,I1,r1,q1⟩=>?_;obtain ⟨a,e,⟨xs,hq⟩,q⟩:=q1;subst e;cases r1;obtain ⟨its,rv,p,hz⟩:=I1.list hq;refine wpAny_pyIter_list p.isList ?_;refine ⟨s1.heap.objs.size,[s1.heap.objs.size],_,_,H1,rfl,I1.kept (t':=s1.toks) λb o e=>Ac _ e,uI a _,⟨_,Ah _ rfl,rfl,rfl⟩,λb hb=>?_,q⟩;have e:b=s1.heap.objs.size:=by simpa using hb
 subst e;exact I1.fpOk (Ak _) (I1.hok.fresh (Ak _))
def jR {l:Expr}{tl:TE}(hl:PE X l tl):PI X tg l (iTup X.K tl):=by
 intro pins s σ H R I h;refine thn (hl pins s σ H _ I h) λv s1 ⟨x,H1,I1,r1,q1⟩=>?_;obtain ⟨a,e,⟨xs,hq⟩,q⟩:=q1;subst e;cases r1;obtain ⟨its,rv,p,hz⟩:=I1.tuple hq;refine EJ (show s1.heap.IsTuple a its.toArray from p) ?_;refine ⟨s1.heap.objs.size,[s1.heap.objs.size],_,_,H1,rfl,I1.kept (t':=s1.toks) λb o e=>Ac _ e,sQ a _,⟨_,Ah _ rfl,rfl,rfl⟩,λb hb=>?_,q⟩;have e:b=s1.heap.objs.size:=by simpa using hb
 subst e;exact I1.fpOk (Ak _) (I1.hok.fresh (Ak _))
def qV {σ:St}{lo hi:Int}{t u v:Tok}{tk:Nat}(I:Inv X pins σ H s)(h1:-(2^62)<=lo)(h2:lo<2^62)(h3:-(2^62)<=hi)(h4:hi<2^62)(q:R (Itr lo (hi-lo).toNat) H):wpAny (model X.prog X.w) X.A (pyIter (.ref s.heap.objs.size)) (PIE X pins σ tg R) E { s with heap:=s.heap.push { cls:=.type "range",data:=.fields #[.int lo t,.int hi u,.int 1 v] },toks:=tk }:=by
 refine wpAny_pyIter_range (IsRange.new ..) (small_one h1 h2 h3 h4) ?_;have I1:Inv X pins σ H { s with heap:=s.heap.push { cls:=.type "range",data:=.fields #[.int lo t,.int hi u,.int 1 v] },toks:=tk }:=I.kept λb o e=>Ac _ e;refine ⟨(s.heap.push { cls:=.type "range",data:=.fields #[.int lo t,.int hi u,.int 1 v] }).objs.size,[(s.heap.push { cls:=.type "range",data:=.fields #[.int lo t,.int hi u,.int 1 v] }).objs.size],_,_,H,rfl,
  I1.kept (t':=tk) λb o e=>Ac _ e,sR _ lo (hi-lo).toNat,?_,λb hb=>?_,q⟩
 ·have e1:lo+((0:Nat):Int)*1=lo:=by simp
  have e2:(((hi-lo).toNat:Nat):Int)-((0:Nat):Int)=AH.Range.rangeSize lo hi 1:=by rw [rangeSize_one];split<;>omega
  show IsRangeIter _ _ (lo+((0:Nat):Int)*1) ((((hi-lo).toNat:Nat):Int)-((0:Nat):Int)) 1;rw [e1,e2];exact Ah _ rfl
 ·have e:b=(s.heap.push { cls:=.type "range",data:=.fields #[.int lo t,.int hi u,.int 1 v] }).objs.size:=by simpa using hb
  subst e;exact I1.fpOk (Ak _) (I1.hok.fresh (Ak _))
def aIc (ta:TA):TI:=λσ H R=>ta σ H λvs H1=>∃ j:Int,vs=[.int j]/\-(2^62)<=j/\j<2^62/\R (Itr 0 j.toNat) H1
def aIb (ta:TA):TI:=λσ H R=>ta σ H λvs H1=>∃ i j:Int,vs=[.int i,.int j]/\(-(2^62)<=i/\i<2^62/\-(2^62)<=j/\j<2^62)/\R (Itr i (j-i).toNat) H1
def eA {a:Expr}{ta:TA}{p pos:Pos}(hg:Gl X "range")(hm:X.mg "range" = none)(ha:PA X [a] ta)(hs:AU [a] X.env=[(false,eval a X.env)]:=by rfl):PI X tg (.Call (.Name "range" p) [a] [] pos) (aIc ta):=by
 intro pins s σ H R I h;refine Call_ (jA I hg hm boot_range (Dy (thn (ha pos pins s σ H _ I h) λus s1 ⟨vs,H1,I1,r1,q1⟩=>?_) hs rfl));obtain ⟨j,e,q1,q2,q⟩:=q1;subst e;cases r1 with
 |cons r rr=>
  cases rr;obtain ⟨t,rfl⟩:=r;exact call_range_1 (qV I1 (by omega) (by omega) q1 q2 (by simpa using q))
def fX {p pos:Pos}(hg:Gl X "range")(hm:X.mg "range" = none)(ha:PA X [a,b] ta)(hs:AU [a,b] X.env=[(false,eval a X.env),(false,eval b X.env)]:=by rfl)(hs2:AU [b] X.env=[(false,eval b X.env)]:=by rfl) :
  PI X tg (.Call (.Name "range" p) [a,b] [] pos) (aIb ta):=by
 intro pins s σ H R I h;refine Call_ (jA I hg hm boot_range (Dy (thn (ha pos pins s σ H _ I h) λus s1 ⟨vs,H1,I1,r1,q1⟩=>?_) (by rw [hs,hs2]) (by rw [hs2];rfl)));obtain ⟨i,j,e,⟨q1,q2,q3,q4⟩,q⟩:=q1;subst e;cases r1 with
 |cons r rr=>
  cases rr with
  |cons r' rr=>
   cases rr;obtain ⟨t,rfl⟩:=r;obtain ⟨t',rfl⟩:=r';exact call_range_2 (qV I1 q1 q2 q3 q4 q)
def tFor (wi:TI)(g:TG)(tb:TS):TS:=λD σ H=>wi σ H λJ H1=>∃ W:Nat->Nat->St->Hp->Prop,(∃ m,W 0 m σ H1)/\∀ i m σ H,W i m σ H ->
 (J.stop i H/\D.nx σ H)\/(J.go i H/\∃ N:St->Hp->Prop,(∀ σ' H',N σ' H'->∃ m',m'<m/\W (i+1) m' σ' H')/\∀ x H',J.yld i H x H'->g x σ H' λσ2 H2=>tb { D with nx:=N,ct:=N,bk:=D.nx } σ2 H2)
def jQ (fp:List Addr)(h:Heap):List (Addr×Obj):=fp.filterMap λb=>(h.get? b).map λo=>(b,o)
def dX (hb:b∈fp)(e:h.get? b=some o):(b,o)∈jQ fp h:=List.mem_filterMap.mpr ⟨b,hb,by rw [e];rfl⟩
def wQ {p:Addr×Obj}(hp:p∈jQ fp h):p.1∈fp/\h.get? p.1=some p.2:=by
 obtain ⟨b,hb,e⟩:=List.mem_filterMap.mp hp;cases q:h.get? b with
 |none=>rw [q] at e;cases e
 |some o=>
  rw [q] at e;have e':(b,o)=p:=AK e;subst e';exact ⟨hb,q⟩
def Inv.pinned {σ:St}(I:Inv X pins σ H s)(hf:∀ b∈fp,FpOk X pins H b)(ho:∀ b∈fp,∃ o,s.heap.get? b=some o/\∀ v,o.data≠.cell v):Inv X (pins++jQ fp s.heap) σ H s:=
 I.pins_of λp hp=>(Br.mp hp).elim (λz=>I.pin p (AM _ z)) λz=>by
  obtain ⟨hb,e⟩:=wQ z;obtain ⟨f0,f1,f2,_⟩:=hf p.1 hb;obtain ⟨o,e',d⟩:=ho p.1 hb;rw [e] at e';cases e';exact ⟨e,f0,f1,f2,d⟩
def Inv.unpinned {σ:St}(I:Inv X (pins++pl) σ H s):Inv X pins σ H s:=I.pins_of λp hp=>I.pin p (AM _ (List.mem_append_left _ hp))
def dN (hp:Cf (model X.prog X.w) X.A X.env X.xe)(hc:X.calm=true)(hi:PI X tg iter wi)(hg:PG X tg g)(hb:PSs X body tb)(hs:∀ x,foldedSetIterable iter X.env x=pure x:=by intro _;rfl):PS X (.For tg iter body [] pos) (tFor wi g tb):=by
 intro pins s σ H D I h;refine wpAny_For (thn (hi pins s σ H _ I h) λv s1 h1=>thn h1 λitv s2 h2=>?_) hs;obtain ⟨it,fp,tn,J,H2,e,I2,T,st2,f2,W,⟨m0,w0⟩,turn⟩:=h2;subst e;have stat:∀ {H':Hp},(∀ b∈fp,H' b=none)->∀ b∈fp,FpOk X pins H' b:=λhn b hb=>⟨hn b hb,(f2 b hb).2⟩;refine codeAny_forLoop_any (λn s'=>∃ i σ' H',Inv X pins σ' H' s'/\tn i s'.heap/\(∀ b∈fp,H' b=none)/\W i n σ' H') ?_ m0 ⟨0,σ,H2,I2,st2,λb hb=>(f2 b hb).1,w0⟩
 rintro n s3 ⟨i,σ3,H3,I3,st3,fr3,w3⟩
 rcases turn i n σ3 H3 w3 with ⟨stop,qn⟩|⟨go,N,hN,step⟩
 ·refine Ee hp (thn (T.done X rfl rfl rfl hc i pins s3 σ3 H3 X.xe I3 (stat fr3) st3 stop) λr s4 ⟨hr,I4⟩=>?_)
  subst hr;exact Fw ⟨σ3,H3,I4,qn⟩
 ·refine Ee hp (thn (T.item X rfl rfl rfl hc i pins s3 σ3 H3 X.xe I3 (stat fr3) st3 go) λr s4 ⟨u,hr,h4⟩=>?_)
  subst hr;refine Ee hp (thn h4 λ_ s5 ⟨x,H5,I5,r5,y5,st5,fr5⟩=>?_);have I5':=I5.pinned (stat fr5) (T.obj _ _ st5);refine Ee hp (thn (hg _ s5 σ3 H5 x u _ I5' r5 (step x H5 y5)) λ_ s6 ⟨σ6,H6,I6,q6⟩=>?_);refine Ee hp (thn (hb _ s6 σ6 H6 _ I6 q6) λf s7 q7=>?_);have again:∀ {σ7:St} {H7:Hp},Inv X (pins++jQ fp s5.heap) σ7 H7 s7->N σ7 H7->∃ m,m<n/\∃ i σ' H',Inv X pins σ' H' s7/\tn i s7.heap/\(∀ b∈fp,H' b=none)/\W i m σ' H':=λ{σ7 H7} I7 n7=>by
   obtain ⟨m',hm,w7⟩:=hN σ7 H7 n7;refine ⟨m',hm,i+1,σ7,H7,I7.unpinned,T.keep _ _ _ st5 λb hb o e=>(I7.pin (b,o) (AM _ (AM _ (dX hb e)))).1,λb hb=>?_,w7⟩;obtain ⟨o,e,d⟩:=T.obj _ _ st5 b hb;exact (I7.pin (b,o) (AM _ (AM _ (dX hb e)))).2.1
  cases f with
  |next=>obtain ⟨σ7,H7,I7,n7⟩:=q7;exact again I7 n7
  |cont=>obtain ⟨σ7,H7,I7,n7⟩:=q7;exact again I7 n7
  |brk=>obtain ⟨σ7,H7,I7,q7⟩:=q7;exact ⟨σ7,H7,I7.unpinned,q7⟩
  |ret v=>obtain ⟨x7,σ7,H7,I7,r7,q7⟩:=q7;exact ⟨x7,σ7,H7,I7.unpinned,r7,q7⟩
end
def aAz {K:Aa}{a:Addr}{xs:List V}{g:TG}{tb:TS}{D:Ends}{σ:St}{H:Hp}(Pv:Nat->St->Hp->Prop)(h0:Pv 0 σ H)(hl:∀ i σ H,i<=xs.length->Pv i σ H->SqL K H a xs)
  (hs:∀ i x σ H,xs[i]?=some x->Pv i σ H->g x σ H λσ2 H2=>tb { D with nx:=Pv (i+1),ct:=Pv (i+1),bk:=D.nx } σ2 H2) (hd:∀ σ H,Pv xs.length σ H->D.nx σ H) :
  ∃ W:Nat->Nat->St->Hp->Prop,(∃ m,W 0 m σ H)/\∀ i m σ H,W i m σ H ->
   ((Itl K a).stop i H/\D.nx σ H)\/((Itl K a).go i H/\∃ N:St->Hp->Prop,(∀ σ' H',N σ' H'->∃ m',m'<m/\W (i+1) m' σ' H')/\∀ x H',(Itl K a).yld i H x H'->g x σ H' λσ2 H2=>tb { D with nx:=N,ct:=N,bk:=D.nx } σ2 H2):=by
 refine ⟨λi m σ H=>m=xs.length-i/\i<=xs.length/\Pv i σ H,⟨xs.length,by simp,BK _,h0⟩,?_⟩
 rintro i m σ H ⟨rfl,hi,p⟩
 have q:=hl i σ H hi p
 by_cases hlt:i<xs.length
 ·refine .inr ⟨⟨xs,xs[i],q,by simp [hlt]⟩,Pv (i+1),λσ' H' p'=>⟨xs.length-(i+1),by omega,rfl,hlt,p'⟩,λx H' y=>?_⟩
  obtain ⟨e,y⟩:=y;subst e;exact hs i x σ _ (y xs q) p
 ·have e:i=xs.length:=by omega
  subst e;exact .inl ⟨⟨xs,q,Ak _⟩,hd σ H p⟩
def lO {K:Aa}{a:Addr}{xs:List V}{g:TG}{tb:TS}{D:Ends}{σ:St}{H:Hp}(Pv:Nat->St->Hp->Prop)(h0:Pv 0 σ H)(hl:∀ i σ H,i<=xs.length->Pv i σ H->SqT K H a xs)
  (hs:∀ i x σ H,xs[i]?=some x->Pv i σ H->g x σ H λσ2 H2=>tb { D with nx:=Pv (i+1),ct:=Pv (i+1),bk:=D.nx } σ2 H2) (hd:∀ σ H,Pv xs.length σ H->D.nx σ H) :
  ∃ W:Nat->Nat->St->Hp->Prop,(∃ m,W 0 m σ H)/\∀ i m σ H,W i m σ H ->
   ((Itt K a).stop i H/\D.nx σ H)\/((Itt K a).go i H/\∃ N:St->Hp->Prop,(∀ σ' H',N σ' H'->∃ m',m'<m/\W (i+1) m' σ' H')/\∀ x H',(Itt K a).yld i H x H'->g x σ H' λσ2 H2=>tb { D with nx:=N,ct:=N,bk:=D.nx } σ2 H2):=by
 refine ⟨λi m σ H=>m=xs.length-i/\i<=xs.length/\Pv i σ H,⟨xs.length,by simp,BK _,h0⟩,?_⟩
 rintro i m σ H ⟨rfl,hi,p⟩
 have q:=hl i σ H hi p
 by_cases hlt:i<xs.length
 ·refine .inr ⟨⟨xs,xs[i],q,by simp [hlt]⟩,Pv (i+1),λσ' H' p'=>⟨xs.length-(i+1),by omega,rfl,hlt,p'⟩,λx H' y=>?_⟩
  obtain ⟨e,y⟩:=y;subst e;exact hs i x σ _ (y xs q) p
 ·have e:i=xs.length:=by omega
  subst e;exact .inl ⟨⟨xs,q,Ak _⟩,hd σ H p⟩
def dF {lo:Int}{n:Nat}{g:TG}{tb:TS}{D:Ends}{σ:St}{H:Hp}(Pv:Nat->St->Hp->Prop)(h0:Pv 0 σ H)
  (hs:∀ i σ H,i<n->Pv i σ H->g (.int (lo+i)) σ H λσ2 H2=>tb { D with nx:=Pv (i+1),ct:=Pv (i+1),bk:=D.nx } σ2 H2) (hd:∀ σ H,Pv n σ H->D.nx σ H) :
  ∃ W:Nat->Nat->St->Hp->Prop,(∃ m,W 0 m σ H)/\∀ i m σ H,W i m σ H ->
   ((Itr lo n).stop i H/\D.nx σ H)\/((Itr lo n).go i H/\∃ N:St->Hp->Prop,(∀ σ' H',N σ' H'->∃ m',m'<m/\W (i+1) m' σ' H')/\∀ x H',(Itr lo n).yld i H x H'->g x σ H' λσ2 H2=>tb { D with nx:=N,ct:=N,bk:=D.nx } σ2 H2):=by
 refine ⟨λi m σ H=>m=n-i/\i<=n/\Pv i σ H,⟨n,by simp,BK _,h0⟩,?_⟩
 rintro i m σ H ⟨rfl,hi,p⟩
 by_cases hlt:i<n
 ·refine .inr ⟨hlt,Pv (i+1),λσ' H' p'=>⟨n-(i+1),by omega,rfl,hlt,p'⟩,λx H' y=>?_⟩
  obtain ⟨e,y⟩:=y;subst e y;exact hs i σ _ hlt p
 ·have e:i=n:=by omega
  subst e;exact .inl ⟨Ak _,hd σ H p⟩
def qA {σ:St}(Pv:St->Hp->Prop)(μ:St->Hp->Nat)(h0:Pv σ H)(hs:∀ σ H,Pv σ H->c σ H λb H1=>if b=true then tb { D with nx:=λσ' H'=>Pv σ' H'/\μ σ' H'<μ σ H,ct:=λσ' H'=>Pv σ' H'/\μ σ' H'<μ σ H,bk:=D.nx } σ H1 else D.nx σ H1)(mono:∀ σ H Q Q',(∀ b H1,Q b H1->Q' b H1)->c σ H Q->c σ H Q'):aBc c tb D σ H:=by
 refine ⟨λm σ H=>m=μ σ H/\Pv σ H,⟨_,rfl,h0⟩,?_⟩
 rintro m σ H ⟨rfl,p⟩
 refine mono σ H _ _ (λb H1 q=>?_) (hs σ H p);cases b with
 |true=>exact ⟨_,λσ' H' ⟨p',l⟩=>⟨_,l,rfl,p'⟩,q⟩
 |false=>exact q
abbrev R2:=V->V->Hp->VK->Prop
def OpR (X:Cx)(f:Value->Value->Sem Value)(r:R2):Prop:=
 ∀ (pins:List (Addr×Obj)) (s:Shared) (σ:St) (H:Hp) (x y:V) (v u:Value) (Q:VK),Inv X pins σ H s->RelV x v->RelV y u->r x y H Q ->
  wpAny (model X.prog X.w) X.A (f v u) (EP X pins σ Q) X.xe s
def UnR (X:Cx)(f:Value->Sem Value)(r:V->Hp->VK->Prop):Prop:=
 ∀ (pins:List (Addr×Obj)) (s:Shared) (σ:St) (H:Hp) (x:V) (v:Value) (Q:VK),Inv X pins σ H s->RelV x v->r x H Q ->
  wpAny (model X.prog X.w) X.A (f v) (EP X pins σ Q) X.xe s
def eU (X:Cx)(f:Value)(r:List V->Hp->VK->Prop):Prop:=
 ∀ (pins:List (Addr×Obj)) (s:Shared) (σ:St) (H:Hp) (xs:List V) (us:List Value) (Q:VK),Inv X pins σ H s->Vals xs us->r xs H Q ->
  wpAny (model X.prog X.w) X.A (call f us) (EP X pins σ Q) X.xe s
def TruR (X:Cx)(r:V->Hp->(Bool->Hp->Prop)->Prop):Prop:=
 ∀ (pins:List (Addr×Obj)) (s:Shared) (σ:St) (H:Hp) (x:V) (v:Value) (Q:Bool->Hp->Prop),Inv X pins σ H s->RelV x v->r x H Q ->
  wpAny (model X.prog X.w) X.A (truthy v) (TP X pins σ Q) X.xe s
def tOp (r:R2)(ta tb:TE):TE:=λσ H Q=>ta σ H λx H1=>tb σ H1 λy H2=>r x y H2 Q
def tUn (r:V->Hp->VK->Prop)(ta:TE):TE:=λσ H Q=>ta σ H λx H1=>r x H1 Q
def rI (C:Int->Int->Prop)(g:Int->Int->V):R2:=λx y H Q=>∃ i j,x=.int i/\y=.int j/\C i j/\Q (g i j) H
def rI0 (g:Int->Int->V):R2:=λx y H Q=>∃ i j,x=.int i/\y=.int j/\Q (g i j) H
def rU (g:Int->V):V->Hp->VK->Prop:=λx H Q=>∃ i,x=.int i/\Q (g i) H
section
variable {X:Cx}{a b c:Expr}{ta tb tc:TE}{pos:Pos}
def binT (ha:PE X a ta)(hb:PE X b tb){pins:List (Addr×Obj)}{s:Shared}{σ:St}{H:Hp}{R:V->V->Hp->Prop}(I:Inv X pins σ H s)
  (h:ta σ H λx H1=>tb σ H1 λy H2=>R x y H2) {Q:Value->Shared->Prop} {f:Value->Value->Sem Value}
  (hf:∀ v u s2 x y H2,Inv X pins σ H2 s2->RelV x v->RelV y u->R x y H2->wpAny (model X.prog X.w) X.A (f v u) Q X.xe s2) :
  wpAny (model X.prog X.w) X.A (eval a X.env) (λv s₁=>wpAny (model X.prog X.w) X.A (eval b X.env) (λu s₂=>wpAny (model X.prog X.w) X.A (f v u) Q X.xe s₂) X.xe s₁) X.xe s:=by
 refine thn (ha pins s σ H _ I h) λv s1 ⟨x,H1,I1,r1,q1⟩=>?_;refine thn (hb pins s1 σ H1 _ I1 q1) λu s2 ⟨y,H2,I2,r2,q2⟩=>?_;exact hf v u s2 x y H2 I2 r1 r2 q2
def aK {op:Operator}{r:R2}(ho:OpR X (Ei op) r)(ha:PE X a ta)(hb:PE X b tb):PE X (.BinOp a op b pos) (tOp r ta tb):=by
 intro pins s σ H Q I h;exact wpAny_BinOp (binT ha hb I h λv u s2 x y H2 I2 rx ry q=>ho pins s2 σ H2 x y v u Q I2 rx ry q)
def opI {C:Int->Int->Prop}{g:Int->Int->Int}(rule:∀ (i j:Int) (t u:Tok) (s:Shared) (Q:Value->Shared->Prop) (E:Value->Shared->Prop),C i j->Q (.int (g i j) s.toks) { s with toks:=s.toks+1 }->wpAny (model X.prog X.w) X.A (f (.int i t) (.int j u)) Q E s) :
  OpR X f (rI C λi j=>.int (g i j)):=by
 intro pins s σ H x y v u Q I rx ry h;obtain ⟨i,j,rfl,rfl,hc,q⟩:=h;obtain ⟨t,rfl⟩:=rx;obtain ⟨t',rfl⟩:=ry;exact rule i j t t' s _ _ hc ⟨.int (g i j),H,I.tok _,⟨_,rfl⟩,q⟩
def opI0 {g:Int->Int->Int}(rule:∀ (i j:Int) (t u:Tok) (s:Shared) (Q:Value->Shared->Prop) (E:Value->Shared->Prop),Q (.int (g i j) s.toks) { s with toks:=s.toks+1 }->wpAny (model X.prog X.w) X.A (f (.int i t) (.int j u)) Q E s) :
  OpR X f (rI0 λi j=>.int (g i j)):=by
 intro pins s σ H x y v u Q I rx ry h;obtain ⟨i,j,rfl,rfl,q⟩:=h;obtain ⟨t,rfl⟩:=rx;obtain ⟨t',rfl⟩:=ry;exact rule i j t t' s _ _ ⟨.int (g i j),H,I.tok _,⟨_,rfl⟩,q⟩
def opB0 {g:Int->Int->Bool}(rule:∀ (i j:Int) (t u:Tok) (s:Shared) (Q:Value->Shared->Prop) (E:Value->Shared->Prop),Q (.bool (g i j)) s->wpAny (model X.prog X.w) X.A (f (.int i t) (.int j u)) Q E s) :
  OpR X f (rI0 λi j=>.bl (g i j)):=by
 intro pins s σ H x y v u Q I rx ry h;obtain ⟨i,j,rfl,rfl,q⟩:=h;obtain ⟨t,rfl⟩:=rx;obtain ⟨t',rfl⟩:=ry;exact rule i j t t' s _ _ ⟨.bl (g i j),H,I,rfl,q⟩
def CDiv (i j:Int):Prop:=0<j/\j<1073741824
def CDivN (i j:Int):Prop:=j≠0/\j.natAbs<1073741824
def CPow (i j:Int):Prop:=0<=j/\j<=1000000/\i.natAbs<2^64
def CMul (i j:Int):Prop:=(-(2^64)<i/\i<2^64)\/(-(2^64)<j/\j<2^64)
def CMul.ok {i j:Int}(h:CMul i j):IntMulOk i j:=by
 rcases h with ⟨h1,h2⟩|⟨h1,h2⟩
 ·exact .of_left (intBits_le_64 h1 h2)
 ·exact .of_right (intBits_le_64 h1 h2)
def bK:OpR X (Ei .Add) (rI0 λi j=>.int (i+j)):=opI0 λ_ _ _ _ _ _ _ q=>add_int q
def rE:OpR X (Ei .Sub) (rI0 λi j=>.int (i-j)):=opI0 λ_ _ _ _ _ _ _ q=>sub_int q
def aBp:OpR X (Ei .Mult) (rI CMul λi j=>.int (i*j)):=opI λ_ _ _ _ _ _ _ hc q=>mul_int q hc.ok
def bG:OpR X (Ei .Mod) (rI (λ_ j=>0<j) λi j=>.int (i%j)):=opI λi j _ _ _ _ _ hc q=>by
 have h1:(0:Int)<j:=hc;exact mod_int' (by omega) (by rw [Int.fmod_eq_emod_of_nonneg i (by omega)];exact q)
end
def scal:V->V->Bool
 |.non,.non=>true|.non,.int _=>true|.int _,.non=>true|.non,.bl _=>true|.bl _,.non=>true|.non,.str _=>true|.str _,.non=>true
 |.int _,.int _=>true|.bl _,.bl _=>true|.str _,.str _=>true|.byt _,.byt _=>true
 |.int _,.str _=>true|.str _,.int _=>true|.bl _,.str _=>true|.str _,.bl _=>true
 |_,_=>false
def rEq:R2:=λx y H Q=>scal x y=true/\Q (.bl (decide (x=y))) H
def rNe:R2:=λx y H Q=>scal x y=true/\Q (.bl (!decide (x=y))) H
def yA {i j:Int}:decide (V.int i=V.int j)=(i==j):=by
 rw [DQ];simp
def aB6 {i j:Bool}:decide (V.bl i=V.bl j)=(i==j):=by
 rw [DQ];simp
def xZ :decide (V.str i=V.str j)=(i==j):=by
 rw [DQ];simp
def yB :decide (V.byt i=V.byt j)=(i.toList==j.toList):=by
 rw [DQ];cases i;cases j;simp
section
variable {X:Cx}{a b c:Expr}{ta tb tc:TE}{pos:Pos}
def bQ {σ:St}{k k':Bool}(I:Inv X pins σ H s)(q:Q (.bl k) H)(e:k=k'):EP X pins σ Q (.bool k') s:=by
 subst e;exact ⟨.bl k,H,I,rfl,q⟩
def dB:OpR X (BN .Eq) rEq:=by
 intro pins s σ H x y v u Q I rx ry h;obtain ⟨hs,q⟩:=h;cases x with
 |non=>
  cases rx;cases y with
  |non=>cases ry;exact PySem.EqNone.eq_none_none (bQ I q (by simp))
  |bl j=>cases ry;exact PySem.EqNone.eq_none_bool (bQ I q (by simp))
  |int j=>obtain ⟨t',rfl⟩:=ry;exact PySem.EqNone.eq_none_int (bQ I q (by simp))
  |str j=>obtain ⟨t',rfl⟩:=ry;exact PySem.EqNone.eq_none_str (bQ I q (by simp))
  |_=>exact absurd (show false=true from hs) AC
 |bl i=>
  cases rx;cases y with
  |non=>cases ry;exact PySem.EqNone.eq_bool_none (bQ I q (by simp))
  |bl j=>cases ry;exact eq_bool (bQ I q aB6)
  |str j=>obtain ⟨t',rfl⟩:=ry;exact PySem.EqMixed.eq_bool_str (bQ I q (by simp))
  |_=>exact absurd (show false=true from hs) AC
 |int i=>
  obtain ⟨t,rfl⟩:=rx;cases y with
  |non=>cases ry;exact PySem.EqNone.eq_int_none (bQ I q (by simp))
  |int j=>obtain ⟨t',rfl⟩:=ry;exact eq_int (bQ I q yA)
  |str j=>obtain ⟨t',rfl⟩:=ry;exact PySem.EqMixed.eq_int_str (bQ I q (by simp))
  |_=>exact absurd (show false=true from hs) AC
 |str i=>
  obtain ⟨t,rfl⟩:=rx;cases y with
  |non=>cases ry;exact PySem.EqNone.eq_str_none (bQ I q (by simp))
  |bl j=>cases ry;exact PySem.EqMixed.eq_str_bool (bQ I q (by simp))
  |int j=>obtain ⟨t',rfl⟩:=ry;exact PySem.EqMixed.eq_str_int (bQ I q (by simp))
  |str j=>obtain ⟨t',rfl⟩:=ry;exact eq_str (bQ I q xZ)
  |_=>exact absurd (show false=true from hs) AC
 |byt i=>
  obtain ⟨t,rfl⟩:=rx;cases y with
  |byt j=>obtain ⟨t',rfl⟩:=ry;exact PySem.W.eq_bytes (bQ I q yB)
  |_=>exact absurd (show false=true from hs) AC
 |_=>cases y<;>exact absurd (show false=true from hs) AC
def nA:OpR X (BN .NotEq) rNe:=by
 intro pins s σ H x y v u Q I rx ry h;obtain ⟨hs,q⟩:=h;cases x with
 |non=>
  cases rx;cases y with
  |non=>cases ry;exact PySem.EqNone.ne_none_none (bQ I q (by simp))
  |bl j=>cases ry;exact PySem.EqNone.ne_none_bool (bQ I q (by simp))
  |int j=>obtain ⟨t',rfl⟩:=ry;exact PySem.EqNone.ne_none_int (bQ I q (by simp))
  |str j=>obtain ⟨t',rfl⟩:=ry;exact PySem.EqNone.ne_none_str (bQ I q (by simp))
  |_=>exact absurd (show false=true from hs) AC
 |bl i=>
  cases rx;cases y with
  |non=>cases ry;exact PySem.EqNone.ne_bool_none (bQ I q (by simp))
  |bl j=>cases ry;exact ne_bool (bQ I q (congrArg not aB6))
  |str j=>obtain ⟨t',rfl⟩:=ry;exact PySem.EqMixed.ne_bool_str (bQ I q (by simp))
  |_=>exact absurd (show false=true from hs) AC
 |int i=>
  obtain ⟨t,rfl⟩:=rx;cases y with
  |non=>cases ry;exact PySem.EqNone.ne_int_none (bQ I q (by simp))
  |int j=>obtain ⟨t',rfl⟩:=ry;exact ne_int (bQ I q (congrArg not yA))
  |str j=>obtain ⟨t',rfl⟩:=ry;exact PySem.EqMixed.ne_int_str (bQ I q (by simp))
  |_=>exact absurd (show false=true from hs) AC
 |str i=>
  obtain ⟨t,rfl⟩:=rx;cases y with
  |non=>cases ry;exact PySem.EqNone.ne_str_none (bQ I q (by simp))
  |bl j=>cases ry;exact PySem.EqMixed.ne_str_bool (bQ I q (by simp))
  |int j=>obtain ⟨t',rfl⟩:=ry;exact PySem.EqMixed.ne_str_int (bQ I q (by simp))
  |str j=>obtain ⟨t',rfl⟩:=ry;exact ne_str (bQ I q (congrArg not xZ))
  |_=>exact absurd (show false=true from hs) AC
 |byt i=>
  obtain ⟨t,rfl⟩:=rx;cases y with
  |byt j=>obtain ⟨t',rfl⟩:=ry;exact PySem.W.ne_bytes (bQ I q (congrArg not yB))
  |_=>exact absurd (show false=true from hs) AC
 |_=>cases y<;>exact absurd (show false=true from hs) AC
def wA:OpR X (BN .Lt) (rI0 λi j=>.bl (decide (i<j))):=opB0 λ_ _ _ _ _ _ _ q=>lt_int q
def aDl:OpR X (BN .LtE) (rI0 λi j=>.bl (decide (i<=j))):=opB0 λ_ _ _ _ _ _ _ q=>le_int q
def aFz:OpR X (BN .Gt) (rI0 λi j=>.bl (decide (j<i))):=opB0 λ_ _ _ _ _ _ _ q=>gt_int q
def aF0:OpR X (BN .GtE) (rI0 λi j=>.bl (decide (j<=i))):=opB0 λ_ _ _ _ _ _ _ q=>ge_int q
def wB:OpR X (BN .In) (λx y H Q=>∃ i j,x=.str i/\y=.str j/\Q (.bl (!(AH.Str.occurrences j i 0 j.length 1).isEmpty)) H):=by
 intro pins s σ H x y v u Q I rx ry h;obtain ⟨i,j,rfl,rfl,q⟩:=h;obtain ⟨t,rfl⟩:=rx;obtain ⟨t',rfl⟩:=ry;exact in_str (bQ I q rfl)
def aBq:OpR X (BN .Is) (λx y H Q=>y=.non/\Q (.bl (decide (x=.non))) H):=by
 intro pins s σ H x y v u Q I rx ry h;obtain ⟨rfl,q⟩:=h;cases ry;refine is_none_gen (bQ I q ?_);cases x<;>first
  |(cases rx;rfl)
  |(obtain ⟨t,rfl⟩:=rx;rfl)
def pF:OpR X (BN .IsNot) (λx y H Q=>y=.non/\Q (.bl (!decide (x=.non))) H):=by
 intro pins s σ H x y v u Q I rx ry h;obtain ⟨rfl,q⟩:=h;cases ry;refine isnot_none_gen (bQ I q ?_);cases x<;>first
  |(cases rx;rfl)
  |(obtain ⟨t,rfl⟩:=rx;rfl)
def isObj:HO->Bool
 |.lst _=>true
 |.ins _ _ _=>true
 |_=>false
def aV (b:Expr)(h:op≠.In:=by decide)(h2:op≠.NotIn:=by decide):behindInMarks op b=false:=by
 have e1:(op==CmpOp.In)=false:=by cases op<;>first|rfl|exact absurd rfl h
 have e2:(op==CmpOp.NotIn)=false:=by cases op<;>first|rfl|exact absurd rfl h2
 cases b<;>simp [behindInMarks,e1,e2]
def dH {op:CmpOp}{r:R2}(ho:OpR X (BN op) r)(ha:PE X a ta)(hb:PE X b tb)(hm:behindInMarks op b=false):PE X (.Compare a [op] [b] pos) (tOp r ta tb):=by
 intro pins s σ H Q I h;exact wpAny_Compare1 (binT ha hb I h λv u s2 x y H2 I2 rx ry q=>ho pins s2 σ H2 x y v u Q I2 rx ry q) hm
def aHa (t:TE):TT:=λσ H Q=>t σ H λx H'=>∃ k,x=.bl k/\Q k H'
def aS {r:R2}(ho:OpR X (BN op) r)(ha:PE X a ta)(hb:PE X b tb)(hm:behindInMarks op b=false):PT X (.Compare a [op] [b] pos) (aHa (tOp r ta tb)):=by
 intro pins s σ H Q I h;refine wpAny_isTrue_Compare1 (thn (ha pins s σ H _ I h) λv s1 ⟨x,H1,I1,r1,q1⟩=>thn (hb pins s1 σ H1 _ I1 q1) λu s2 ⟨y,H2,I2,r2,q2⟩=>
  thn (ho pins s2 σ H2 x y v u _ I2 r1 r2 q2) λc s3 ⟨z,H3,I3,r3,k,e,q3⟩=>?_) hm
 subst e;cases r3;exact DC ⟨H3,I3,q3⟩
def aE5 (r r':R2)(ta tb tc:TE):TE:=λσ H Q=>ta σ H λx H1=>tb σ H1 λy H2=>r x y H2 λz H3=>∃ k,z=.bl k /\
 (if k=true then tc σ H3 λw' H4=>r' y w' H4 Q else Q (.bl false) H3)
def rB {r r':R2}(ho:OpR X (BN op) r)(ho':OpR X (BN op') r')(ha:PE X a ta)(hb:PE X b tb)(hc:PE X c tc)(hm:lastMarks [op,op'] [b,c]=false:=by with_unfolding_all rfl):PE X (.Compare a [op,op'] [b,c] pos) (aE5 r r' ta tb tc):=by
 intro pins s σ H Q I h;refine Compare_chain (thn (ha pins s σ H _ I h) λv s1 ⟨x,H1,I1,r1,q1⟩=>chain_link (thn (hb pins s1 σ H1 _ I1 q1) λu s2 ⟨y,H2,I2,r2,q2⟩=>
  thn (ho pins s2 σ H2 x y v u _ I2 r1 r2 q2) λd s3 ⟨z,H3,I3,r3,k,e,q3⟩=>?_)) hm
 subst e;cases r3;refine DC ?_;cases k with
 |false=>exact ite_ff ⟨.bl false,H3,I3,rfl,q3⟩
 |true=>exact ite_tt (chain_last (thn (hc pins s3 σ H3 _ I3 q3) λw' s4 ⟨z',H4,I4,r4,q4⟩=>ho' pins s4 σ H4 y z' u w' Q I4 r2 r4 q4))
def TruV (K:Aa)(x:V)(H:Hp)(k:Bool):Prop:=
 match x with
 |.non=>k=false
 |.bl b=>k=b
 |.int i=>k=(i != 0)
 |.str y=>y.length<=Ax/\k=((y.length:Int) != 0)
 |.byt y=>y.size<=Ax/\k=((y.size:Int) != 0)
 |.ref p=>(∃ xs,SqL K H p xs/\k=!xs.isEmpty)\/(∃ xs,SqT K H p xs/\k=!xs.isEmpty)\/∃ kvs,H p=some (.dK kvs)/\k=!kvs.isEmpty
 |_=>False
def jX:(Ax:Nat)<2^63:=by rw [sizeLine_eq];decide
def fD:OpR X (Ei .Add) (λx y H Q=>∃ i j,x=.str i/\y=.str j/\i.length+j.length<=Ax/\Q (.str (i++j)) H):=by
 intro pins s σ H x y v u Q I rx ry h;obtain ⟨i,j,rfl,rfl,hz,q⟩:=h;obtain ⟨t,rfl⟩:=rx;obtain ⟨t',rfl⟩:=ry;exact add_str (λt' tk=>⟨.str (i++j),H,I.tok _,⟨_,rfl⟩,q⟩) hz
def PlainIxT (b:Expr):Prop:=∀ o i,subscripted b false o i=operate [o,i] (getItem o i)
def vals1 (r:Vals [x] us):∃ u,us=[u]/\RelV x u:=by
 cases r with
 |cons r1 r2=>cases r2;exact ⟨_,rfl,r1⟩
def vals2 (r:Vals [x,y] us):∃ u w',us=[u,w']/\RelV x u/\RelV y w':=by
 cases r with
 |cons r1 r2=>
  cases r2 with
  |cons r3 r4=>cases r4;exact ⟨_,_,rfl,r1,r3⟩
def gD:eU X (.builtin "abs") (λxs H Q=>∃ i,xs=[.int i]/\Q (.int (if i<0 then -i else i)) H):=by
 intro pins s σ H xs us Q I r h;obtain ⟨i,rfl,q⟩:=h;obtain ⟨u,rfl,t,rfl⟩:=vals1 r;exact call_abs_int λu tk=>⟨.int (if i<0 then -i else i),H,I.tok _,⟨_,rfl⟩,q⟩
def oA (hc:X.calm=true):eU X (.builtin "min") (λxs H Q=>∃ i j,xs=[.int i,.int j]/\Q (.int (if j<i then j else i)) H):=by
 intro pins s σ H xs us Q I r h;obtain ⟨i,j,rfl,q⟩:=h;obtain ⟨u,w',rfl,⟨t,rfl⟩,⟨t',rfl⟩⟩:=vals2 r;refine min_two_ints (I.ok.hd hc) λh' tk k=>⟨_,H,I.kept k,?_,q⟩
 by_cases hj:j<i
 ·rw [if_pos hj,if_pos hj];exact ⟨_,rfl⟩
 ·rw [if_neg hj,if_neg hj];exact ⟨_,rfl⟩
def yL:eU X (.type "int") (λxs H Q=>(∃ i,xs=[.int i]/\Q (.int i) H)\/∃ k,xs=[.bl k]/\Q (.int (if k then 1 else 0)) H):=by
 intro pins s σ H xs us Q I r h
 rcases h with ⟨i,rfl,q⟩|⟨k,rfl,q⟩
 ·obtain ⟨u,rfl,t,rfl⟩:=vals1 r
  exact call_int_int ⟨.int i,H,I,⟨_,rfl⟩,q⟩
 ·obtain ⟨u,rfl,r1⟩:=vals1 r
  cases r1;exact call_int_bool ⟨.int (if k then 1 else 0),H,I.tok _,⟨_,rfl⟩,q⟩
def LenV (K:Aa)(x:V)(H:Hp)(n:Nat):Prop:=
 match x with
 |.str y=>y.length<=Ax/\n=y.length
 |.byt y=>y.size<=Ax/\n=y.size
 |.ref p=>(∃ xs,SqL K H p xs/\n=xs.length)\/∃ xs,SqT K H p xs/\n=xs.length
 |_=>False
end
structure ObjM (h:Heap)(x dx C:Addr)(mA:Str->Option Value):Prop where
 obj:h.get? x=some (Dl C dx)
 ns:h.Ns1 dx mA
 ne:dx≠x
def wY {h:Heap}{dx:Addr}{mA:Str->Option Value}(n:h.Ns1 dx mA):∃ od,h.get? dx=some od/\∀ name,PySem.W.lookIn name od=some (mA name):=by
 obtain ⟨o,es,ep,ho,hd,hk,_,hm⟩:=n;refine ⟨o,ho,λname=>?_⟩;have e:=hm name;unfold nsFind findBy at e;rw [<- Array.find?_toList] at e;unfold PySem.W.lookIn;rw [hd];dsimp only;split
 ·rename_i y q
  rw [q] at e;exact congrArg some e
 ·rename_i q
  rw [q] at e;have a:es.toList.any (·.refKey)=false:=by
   rw [List.any_eq_false];intro y hy;obtain ⟨z,t,hkey⟩:=hk y (Array.mem_toList_iff.mp hy);simp [DictEntry.refKey,hkey]
  have a':¬ es.toList.any (·.refKey)=true:=by rw [a];exact AC
  rw [if_neg a'];exact congrArg some e
def ObjM.look (I:ObjM h x dx C mA):∃ od,PySem.W.InstAt h x (Dl C dx) C (some od)/\∀ name,PySem.W.lookIn name od=some (mA name):=
 let ⟨od,ho,hl⟩:=wY I.ns
 ⟨od,⟨I.obj,rfl,rfl,ho⟩,hl⟩
section
variable {prog:Az}{w:World}{A:Around}{E:Value->Shared->Prop}{s:Shared}{K:Aa}{x dx C f:Addr}{mA:Str->Option Value}{name:Str}{v:Value}
def get_map {expr:Bool}(X:K.In s.heap)(I:ObjM s.heap x dx C mA)(hg:PySem.W.plainGet K C name=true)(hh:PySem.W.hasDictIn K C=true)(ha:Bd K (.ref C) name=some none)(hv:mA name=some v)(hv':PySem.W.handedIn v=true)(h:Q v { s with toks:=s.toks+1 }) :
  wpAny (model prog w) A (getAttr (.ref x) name expr) Q E s:=by
 obtain ⟨od,J,hl⟩:=I.look;exact PySem.W.get_value X J (PySem.W.plainGet_of hg).1 (PySem.W.findObj_own hh ha rfl (by rw [hl,hv])) hv' h
def aAx (X:K.In s.heap)(I:ObjM s.heap x dx C mA)(hg:PySem.W.plainGet K C name=true)(hf:Bd K (.ref C) name=some (some (.ref f)))(ht:PySem.W.isFn K (.ref f)=true)(hv:mA name=none)(h:Q (.ref f,[.ref x]) s) :
  wpAny (model prog w) A (getMethod (.ref x) name pl) Q E s:=by
 obtain ⟨od,J,hl⟩:=I.look;exact PySem.W.method_fn X J (PySem.W.plainGet_of hg).1 (PySem.W.plainGet_of hg).2 hf (beq_iff_eq.mp ht) (by show (PySem.W.lookIn name od).map (·.isSome)=some false;rw [hl,hv];rfl) h
def aCt (X:K.In s.heap)(I:ObjM s.heap x dx C mA)(hs:Bd K (.ref C) "__setattr__" = some (some (.builtin "object.__setattr__")))(hp:PySem.W.plainOver K C=true)(ht:PySem.W.takerIn K C name=some none)(hh:PySem.W.hasDictIn K C=true)(hw:PySem.Within mA ns)(hsz:ns.length<=Ax)(h:∀ h',ObjM h' x dx C (λy=>if y=name then some v else mA y)->Ci dx s.heap h'->Q () { s with heap:=h',toks:=s.toks+2 }) :
  wpAny (model prog w) A (setAttr (.ref x) name v) Q E s:=by
 obtain ⟨od,J,hl⟩:=I.look;refine PySem.W.set_plain X J hs (PySem.W.osa_open (s:={ s with toks:=s.toks+1 }) (r:=none) X J hp ht λb=>?_);obtain ⟨cd,hc,hd'⟩:=PySem.W.any_some hh;have hx:s.heap.get? x=some ⟨.ref C,some dx,.plain,#[]⟩:=I.obj;refine Ab (Af (Ab (Ab (wpAny_loadPart hx (Ab (PySem.W.Looks.here (s:={ s with toks:=s.toks+1 }) (PySem.W.looks_clsIn X hc) ?_))))));rw [hd'];refine Af (a:=some dx) (Ab (Af (Ab ?_)));refine wpAny_nsSet1 (s:={ s with toks:=s.toks+1 }) I.ns λh' hn2 hs2=>?_;obtain ⟨oD,esD,epD,hoD,hdD,hcD⟩:=hn2.count (PySem.Within.cons name v hw);refine Ab (wpAny_lookBehind hoD (by rw [hdD];exact pastItsLine_dict (Bh hcD (by rw [AI];omega))) ?_);exact Af (h _ ⟨(hs2.2 _ (AQ I.ne)).trans I.obj,hn2,I.ne⟩ hs2)
def aAp {kw:List (Str×Value)}(X:K.In s.heap)(hm:PySem.W.makesIn K C=true)(hi:Bd K (.ref C) "__init__" = some (some (.ref f)))(hf:PySem.W.typeIn K (.ref f)=some (.type "function"))(h:DR (model prog w) (A.under (.builtin "type.__call__" ⟨.ref C::vs,kw⟩)) (.call (.ref f) ⟨.ref (s.heap.objs.size+1)::vs,kw⟩) (PySem.W.InitBack (s.heap.objs.size+1) R)
   { s with heap:=(s.heap.push Ct).push (Dl C s.heap.objs.size) }) :
  DR (model prog w) A (.call (.ref C) ⟨vs,kw⟩) R s:=by
 obtain ⟨hh,g,d,t,os⟩:=s;exact PySem.W.make_core (PySem.W.makes_of X hm) (PySem.W.looks_findIn X hi) (λself=>PySem.W.bind_fn X self hf) (.inl rfl) h
end
def putF (f:Str)(v:V):List (Str×V)->List (Str×V)
  |[]=>[(f,v)]
  |(g,x)::r=>if g=f then (g,v)::r else (g,x)::putF f v r
theorem bU (f g:Str)(v:V):∀ fs:List (Str×V),(putF f v fs).lookup g=if g=f then some v else fs.lookup g
  |[]=>by
    show DB g [(f,v)]=_
    by_cases h:g=f
    · have hb:(g==f)=true:=beq_iff_eq.mpr h;simp only [DB,hb,if_pos h]
    · have hb:(g==f)=false:=beq_eq_false_iff_ne.mpr h;simp only [DB,hb,if_neg h]
  |(k,x)::r=>by
    have ih:=bU f g v r;rw [show putF f v ((k,x)::r)=(if k=f then (k,v)::r else (k,x)::putF f v r) from rfl]
    by_cases hk:k=f
    · rw [if_pos hk]
      by_cases h:g=k
      · have hb:(g==k)=true:=beq_iff_eq.mpr h;simp only [DB,hb,if_pos (h.trans hk)]
      · have hb:(g==k)=false:=beq_eq_false_iff_ne.mpr h;simp only [DB,hb,if_neg (λe:g=f=>h (e.trans hk.symm))]
    · rw [if_neg hk]
      by_cases h:g=k
      · have hb:(g==k)=true:=beq_iff_eq.mpr h;simp only [DB,hb,if_neg (λe:g=f=>hk (h.symm.trans e))]
      · have hb:(g==k)=false:=beq_eq_false_iff_ne.mpr h;simp only [DB,hb];exact ih
theorem jB (f:Str)(v:V):∀ fs:List (Str×V),f∈(putF f v fs).map (·.1)/\∀ g,g∈fs.map (·.1)->g∈(putF f v fs).map (·.1)
  |[]=>⟨by simp [putF],λg h=>by simp at h⟩
  |(k,x)::r=>by
    obtain ⟨i1,i2⟩:=jB f v r;rw [show putF f v ((k,x)::r)=(if k=f then (k,v)::r else (k,x)::putF f v r) from rfl]
    by_cases hk:k=f
    · rw [if_pos hk];subst hk;exact ⟨by simp,λg h=>by simpa using h⟩
    · rw [if_neg hk];refine ⟨?_,λg h=>?_⟩
      · rw [Al];exact Aj _ i1
      · rw [Al] at h ⊢
        rcases AE.mp h with e|e
        · exact AE.mpr (.inl e)
        · exact Aj _ (i2 g e)
theorem iZ (f:Str)(v:V):∀ fs:List (Str×V),(putF f v fs).length<=fs.length+1
  |[]=>by simp [putF]
  |(k,x)::r=>by
    have ih:=iZ f v r;rw [show putF f v ((k,x)::r)=(if k=f then (k,v)::r else (k,x)::putF f v r) from rfl]
    by_cases hk:k=f
    · rw [if_pos hk,AI,AI];omega
    · rw [if_neg hk,AI,AI];omega
def RelO.some_of (r:RelO (some v) o):∃ u,o=some u/\RelV v u:=by
 cases o with
 |none=>exact (show False from r).elim
 |some u=>exact ⟨u,rfl,r⟩
def RelO.none_of (r:RelO none o):o=none:=by
 cases o with
 |none=>rfl
 |some u=>exact (show False from r).elim
def nO (r:RelV v u):PySem.W.handedIn u=true:=by
 cases v with
 |non=>cases (show u=BR from r);rfl
 |bl b=>cases (show u=Value.bool b from r);rfl
 |int i=>obtain ⟨t,e⟩:=(show ∃ t,u=Value.int i t from r);cases e;rfl
 |str x=>obtain ⟨t,e⟩:=(show ∃ t,u=Value.str x t from r);cases e;rfl
 |byt b=>obtain ⟨t,e⟩:=(show ∃ t,u=Value.bytes b t from r);cases e;rfl
 |flt b=>obtain ⟨t,e⟩:=(show ∃ t,u=Value.float b t from r);cases e;rfl
 |ref a=>cases (show u=AD a from r);rfl
 |ty n=>cases (show u=CY n from r);rfl
section
variable {P:Az}{w:World}{H H':Hp}{h h':Heap}{a C dx:Addr}{fs fs':List (Str×V)}
def pP (hok:HOk P w H h)(e:H a=some (.ins C dx fs)):∃ mA,ObjM h a dx C mA/\(∀ f,RelO (fs.lookup f) (mA f))/\PySem.Within mA (fs.map (·.1))/\fs.length<=1000/\H dx=some (.own a):=by
 obtain ⟨d,z,ne,ob,mA,n,r,q⟩:=(show ObjOk P w H h a (.ins C dx fs) from hok a _ e);exact ⟨mA,⟨ob,n,ne⟩,r,q,z,d⟩
end
structure Cls (K:Aa)(C:Addr):Prop where
 pg:PySem.W.plainGet K C Str.empty=true
 hd:PySem.W.hasDictIn K C=true
 po:PySem.W.plainOver K C=true
 sa:Bd K (.ref C) "__setattr__" = some (some (.builtin "object.__setattr__"))
theorem Cls.get {K:Aa}{C:Addr}(c:Cls K C)(f:Str):PySem.W.plainGet K C f=true:=c.pg
def NoAttr (K:Aa)(C:Addr)(f:Str):Prop:=Bd K (.ref C) f=some none
def NoAttr.taker {K:Aa}{C:Addr}{f:Str}(n:NoAttr K C f):PySem.W.takerIn K C f=some none:=by
 unfold PySem.W.takerIn;rw [show Bd K (.ref C) f=some none from n];rfl
structure Con (K:Aa)(C:Addr)(f:Str)(v:V)(u:Value):Prop where
 at_:Bd K (.ref C) f=some (some u)
 rel:RelV v u
 get:PySem.W.specialIn K u "__get__" = some none
 cp:PySem.W.copiedNames.contains f=false
structure Meth (K:Aa)(C:Addr)(m:Str)(f:Addr):Prop where
 at_:Bd K (.ref C) m=some (some (.ref f))
 fn:PySem.W.isFn K (.ref f)=true
 kp:Cw K (.ref f)=true
section
variable {X:Cx}{pins:List (Addr×Obj)}{σ:St}{H:Hp}{s:Shared}{a C dx:Addr}{fs:List (Str×V)}{f:Str}{v:V}{A:Around}{E:Value->Shared->Prop}
def tU {b:Bool}(I:Inv X pins σ H s)(e:H a=some (.ins C dx fs))(c:Cls X.K C)(n:NoAttr X.K C f)(l:fs.lookup f=some v)(h:∀ u s',Inv X pins σ H s'->RelV v u->Q u s'):wpAny (model X.prog X.w) A (getAttr (.ref a) f b) Q E s:=by
 obtain ⟨mA,O,r,_,_,_⟩:=pP I.hok e;obtain ⟨u,hu,ru⟩:=RelO.some_of (v:=v) (o:=mA f) (by rw [<- l];exact r f);exact get_map I.kIn O (c.get f) c.hd n hu (nO ru) (h u _ (I.tok _) ru)
def tT (I:Inv X pins σ H s)(e:H a=some (.ins C dx fs))(c:Cls X.K C)(k:Meth X.K C m g)(l:fs.lookup m=none)(h:Q (.ref g,[.ref a]) s):wpAny (model X.prog X.w) A (getMethod (.ref a) m pl) Q E s:=by
 obtain ⟨mA,O,r,_,_,_⟩:=pP I.hok e;have hn:mA m=none:=RelO.none_of (by rw [<- l];exact r m);exact aAx I.kIn O (c.get m) k.at_ k.fn hn h
def sY (I:Inv X pins σ H s)(e:H a=some (.ins C dx fs))(c:Cls X.K C)(n:NoAttr X.K C f)(hl:fs.length<1000)(ry:RelV y u)(h:∀ s',Inv X pins σ (upd H a (.ins C dx (putF f y fs))) s'->Q () s'):wpAny (model X.prog X.w) A (setAttr (.ref a) f u) Q E s:=by
 obtain ⟨mA,O,r,wi,_,ho⟩:=pP I.hok e;have hz:(fs.map (·.1)).length<=Ax:=by rw [Ag,sizeLine_eq];omega
 refine aCt I.kIn O c.sa c.po n.taker c.hd wi hz λh' O' sb=>h _ ?_;have hd:∃ o,h'.get? dx=some o:=let ⟨o,_,_,e',_⟩:=O'.ns;⟨o,e'⟩;refine I.write (x:=a) (e:=dx) (by rw [e];exact DF) (.inr ho) (λb q hb z=>(sb.2 b hb).trans z) hd ?_;refine ⟨by rw [aH O.ne];exact ho,?_,O.ne,O'.obj,_,O'.ns,λg=>?_,λg hg=>?_⟩
 ·have:=iZ f y fs;omega
 ·show RelO ((putF f y fs).lookup g) (if g=f then some u else mA g)
  rw [bU]
  by_cases q:g=f
  ·rw [if_pos q,if_pos q];exact ry
  ·rw [if_neg q,if_neg q];exact r g
 ·by_cases q:g=f
  ·rw [q];exact (jB f y fs).1
  ·refine (jB f y fs).2 g (wi g λz=>hg ?_)
   show (if g=f then some u else mA g)=none;rw [if_neg q];exact z
def Inv.made (I:Inv X pins σ H s):Inv X pins σ (upd (upd H s.heap.objs.size (.own (s.heap.objs.size+1))) (s.heap.objs.size+1) (.ins C s.heap.objs.size []))
  { s with heap:=(s.heap.push Ct).push (Dl C s.heap.objs.size) }:=by
 have e1:(s.heap.push Ct).get? s.heap.objs.size=some Ct:=Ah s.heap rfl;have e2:((s.heap.push Ct).push (Dl C s.heap.objs.size)).get? (s.heap.objs.size+1)=some (Dl C s.heap.objs.size):=by
  have:=Ah (s.heap.push Ct) (o:=Dl C s.heap.objs.size) rfl;rwa [BJ] at this
 have e3:(s.heap.push Ct).Ns s.heap.objs.size (λ_=>none):=⟨Ct,#[],_,e1,rfl,(λe he=>absurd he (by simp)),λ_=>rfl⟩;have I1:=I.laid (a:=s.heap.objs.size) (o:=.own (s.heap.objs.size+1)) (h':=s.heap.push Ct) (t':=s.toks) (λb u q=>Ac _ q) (Ak _) ⟨_,e1⟩;refine I1.laid (a:=s.heap.objs.size+1) (o:=.ins C s.heap.objs.size []) (t':=s.toks) (λb u q=>Ac _ q) (Nat.le_of_eq (BJ _ _)) ?_;have ne:s.heap.objs.size≠s.heap.objs.size+1:=Aw (Cn _);refine ⟨by rw [aH ne,aB],BK _,ne,e2,λ_=>none,(Heap.Ns1.of_empty e3).at λo q=>Ac _ q,λ_=>DF,λy hy=>absurd rfl hy⟩
def yP {w:World}(hb:Ej e f env (eval e env)=eval e env)(h:wpAny (model prog w) A (eval e env) (λo s₁=>wpAny (model prog w) A (getAttr o f true) Q E s₁) E s):wpAny (model prog w) A (eval (.Attribute e f pos) env) Q E s:=
 Attribute_any_ h (by rw [arm_eval_Attribute,hb])
end
def tFld (K:Aa)(ta:TE)(f:Str):TE:=λσ H Q=>ta σ H λx H1=>∃ a C dx fs v,x=.ref a/\H1 a=some (.ins C dx fs)/\Cls K C/\NoAttr K C f/\fs.lookup f=some v/\Q v H1
def tCon (K:Aa)(ta:TE)(f:Str):TE:=λσ H Q=>ta σ H λx H1=>∃ a C dx fs v u,x=.ref a/\H1 a=some (.ins C dx fs)/\Cls K C/\Con K C f v u/\fs.lookup f=none/\Q v H1
def sFld (K:Aa)(ta tv:TE)(f:Str):TS:=λD σ H=>tv σ H λy H1=>ta σ H1 λx H2=>∃ a C dx fs,x=.ref a/\H2 a=some (.ins C dx fs)/\Cls K C/\NoAttr K C f/\fs.length<1000 /\
 D.nx σ (upd H2 a (.ins C dx (putF f y fs)))
def InOp (X:Cx)(op:Operator)(rd:V->V->Hp->VK->Prop):Prop:=
 ∀ (pins:List (Addr×Obj)) (s:Shared) (σ:St) (H:Hp) (x y:V) (u v:Value) (Q:VK),Inv X pins σ H s->RelV x u->RelV y v->rd x y H Q->wpAny (model X.prog X.w) X.A (inplaceOp op u v) (EP X pins σ Q) X.xe s
def sFldAug (K:Aa)(ta tv:TE)(rd:V->V->Hp->VK->Prop)(f:Str):TS:=λD σ H=>ta σ H λx H1=>∃ a C dx fs v,x=.ref a/\H1 a=some (.ins C dx fs)/\Cls K C/\NoAttr K C f/\fs.lookup f=some v /\
 tv σ H1 λy H2=>rd v y H2 λz H3=>∃ dx' fs',H3 a=some (.ins C dx' fs')/\fs'.length<1000/\D.nx σ (upd H3 a (.ins C dx' (putF f z fs')))
section
variable {X:Cx}{o e value:Expr}{f:Str}{pos pos' tpos:Pos}{ta tv:TE}
def eX (he:PE X e ta)(hb:Ej e f X.env (eval e X.env)=eval e X.env):PE X (.Attribute e f pos) (tFld X.K ta f):=by
 intro pins s σ H Q I h;refine yP hb (thn (he pins s σ H _ I h) λu s1 ⟨x,H1,I1,rx,a,C,dx,fs,v,ex,ea,c,n,l,q⟩=>?_);subst ex;obtain rfl:u=AD a:=rx;exact tU I1 ea c n l λu' s2 I2 ru=>⟨v,H1,I2,ru,q⟩
def jP (ha:PE X o ta)(hv:PE X value tv)(hs:swapsWith value (some (.Attribute o f pos')) pos.line X.env=pure false):PS X (.Assign [.Attribute o f pos'] value pos) (sFld X.K ta tv f):=by
 intro pins s σ H D I h;refine EX (thn (hv pins s σ H _ I h) λu s1 ⟨y,H1,I1,ry,q⟩=>thn (ha pins s1 σ H1 _ I1 q) λov s2 ⟨x,H2,I2,rx,a,C,dx,fs,ex,ea,c,n,l,q2⟩=>?_) hs;subst ex;obtain rfl:ov=AD a:=rx;exact sY I2 ea c n l ry λs3 I3=>⟨σ,_,I3,q2⟩
def rAdd:V->V->Hp->VK->Prop:=λx y H Q=>∃ i j,x=.int i/\y=.int j/\Q (.int (i+j)) H
def rSub:V->V->Hp->VK->Prop:=λx y H Q=>∃ i j,x=.int i/\y=.int j/\Q (.int (i-j)) H
end
section
variable {X:Cx}{pins:List (Addr×Obj)}{σ:St}{H:Hp}{s:Shared}{A:Around}{E:Value->Shared->Prop}{Q:Value->Shared->Prop}{c:Value}{b:Bool}
inductive TyOf (K:Aa)(H:Hp):V->Value->Prop where
 |non:TyOf K H .non (.type "NoneType")
 |bl (x:Bool):TyOf K H (.bl x) (.type "bool")
 |int (i:Int):TyOf K H (.int i) (.type "int")
 |str (x:Str):TyOf K H (.str x) (.type "str")
 |flt (x:UInt64):TyOf K H (.flt x) (.type "float")
 |lst {a:Addr} {xs:List V} (e:H a=some (.lst xs)):TyOf K H (.ref a) (.type "list")
 |frz {a:Addr} {o:Obj} {xs:List V} (e:H a=some (.frz o (.lst xs))):TyOf K H (.ref a) (.type "list")
 |tup {a:Addr} {xs:List V} (e:H a=some (.tup xs)):TyOf K H (.ref a) (.type "tuple")
 |dK {a:Addr} {kvs:List (Key×V)} (e:H a=some (.dK kvs)):TyOf K H (.ref a) (.type "dict")
 |dT {a:Addr} {kvs:List (List Key×V)} (e:H a=some (.dT kvs)):TyOf K H (.ref a) (.type "dict")
 |ins {a C dx:Addr} {fs:List (Str×V)} (e:H a=some (.ins C dx fs)) (cl:Cls K C) (ha:Bd K (.ref C) "__class__" = some (some (.builtin "object.__class__")))
   (hn:PySem.W.specialIn K (.builtin "object.__class__") "__get__" = some (some (.builtin "getset_descriptor.__get__"))) (htk:PySem.W.takesIn K (.builtin "object.__class__")=some true)
   (hm:PySem.W.mroIn K C (.type "object")=some true):TyOf K H (.ref a) (.ref C)
end
structure Room (k:Nat)(A:Around):Prop where
 hd:A.handled=none
 dp:A.depth+3*k+5<recursionLimit
 un:A.units+16*k+200<cLine
 gd:A.guards=some []
def Room.mono {j k:Nat}(r:Room k A)(h:j<=k):Room j A:=⟨r.hd,by have:=r.dp;omega,by have:=r.un;omega,r.gd⟩
def Room.deeper {k:Nat}(r:Room (k+1) A)(env:Env):Room k (A.deeper env):=
 ⟨r.hd,by have:=r.dp;show A.depth+1+3*k+5<_;omega,by have:=r.un;show A.units+3+16*k+200<_;omega,r.gd⟩
theorem tN {A:Around}{C:Addr}{us:List Value}{kw:List (Str×Value)}:(A.under (.builtin "type.__call__" ⟨.ref C::us,kw⟩)).depth=A.depth+1:=by
 first|rfl|simp [Around.under,Code.weight,Code.isCreation,Code.isGuard,Code.isCaller,Code.frames,Code.isFrame,guardIds]
theorem tM {A:Around}{C:Addr}{us:List Value}{kw:List (Str×Value)}:(A.under (.builtin "type.__call__" ⟨.ref C::us,kw⟩)).units=A.units+1:=by
 first|rfl|simp [Around.under,Code.cUnits,Code.frames,Code.isFrame]
theorem pL {A:Around}{C:Addr}{us:List Value}{kw:List (Str×Value)}:(A.under (.builtin "type.__call__" ⟨.ref C::us,kw⟩)).guards=A.guards:=by
 first|rfl|(cases h:A.guards<;>simp [Around.under,Code.guards,Code.isGuard,guardIds,pushGuards,h])
def Room.make {k:Nat}{A:Around}(r:Room (k+1) A)(C:Addr)(us:List Value)(kw:List (Str×Value)):Room k (A.under (.builtin "type.__call__" ⟨.ref C::us,kw⟩)):=
 ⟨r.hd,by have:=r.dp;rw [tN];omega,by have:=r.un;rw [tM];omega,by rw [pL];exact r.gd⟩
theorem Room.depth {k:Nat}(r:Room k A):A.depth<recursionLimit:=by have:=r.dp;omega
def Room.units {k:Nat}(r:Room k A):A.units+64<cLine:=by have:=r.un;omega
def tNil:TA:=λ_ H Q=>Q [] H
def aE4 (ta:TE)(tr:TA):TA:=λσ H Q=>ta σ H λx H1=>tr σ H1 λxs H2=>Q (x::xs) H2
section
variable {X:Cx}{e:Expr}{es:List Expr}{te:TE}{t:TA}{pos:Pos}
def aC:PA X [] tNil:=λ_ _ _ _ H Q I h=>Calls.spliced_nil ⟨[],H,I,.nil,h⟩
def aA (ha:PE X e te)(hr:PA X es t)(hs:AU (e::es) X.env=(false,eval e X.env)::AU es X.env:=by rfl):PA X (e::es) (aE4 te t):=by
 intro pos pins s σ H Q I h;rw [hs];show wpAny _ _ (spliced ((false,eval e X.env)::backTo pos (AU es X.env))) _ _ s;refine Et (thn (ha pins s σ H _ I h) λu s1 ⟨x,H1,I1,r1,q1⟩=>?_);exact thn (hr pos pins s1 σ H1 _ I1 q1) λus s2 ⟨xs,H2,I2,r2,q2⟩=>⟨x::xs,H2,I2,.cons r1 r2,q2⟩
def tTup (t:TA):TE:=λσ H Q=>t σ H λxs H1=>xs.length<=Ax/\∀ p,H1 p=none->Q (.ref p) (upd H1 p (.tup xs))
def tLst (t:TA):TE:=λσ H Q=>t σ H λxs H1=>xs.length<=Ax/\∀ p,H1 p=none->Q (.ref p) (upd H1 p (.lst xs))
def aW {x1}(h:PA X es t):PE X (.Tuple es x1 pos) (tTup t):=by
 intro pins s σ H Q I hq;refine wpAny_Tuple_spliced (thn (h pos pins s σ H _ I hq) λus s1 ⟨xs,H1,I1,r,z,q⟩=>⟨by rw [<- r.length];exact z,?_⟩);have hf:H1 s1.heap.objs.size=none:=I1.hok.fresh (Ak _);refine ⟨.ref s1.heap.objs.size,upd H1 s1.heap.objs.size (.tup xs),I1.laid (t':=s1.toks) (λb u e=>Ac _ e) (Ak _) ?_,rfl,q _ hf⟩;exact ⟨⟨z,_,Ah _ rfl,rfl⟩,us,r,⟨_,Ah _ rfl,rfl,_,rfl⟩⟩
def cJ (h:PA X es t):PE X (.List es pos) (tLst t):=by
 intro pins s σ H Q I hq;refine wpAny_List_spliced (thn (h pos pins s σ H _ I hq) λus s1 ⟨xs,H1,I1,r,z,q⟩=>⟨by rw [<- r.length];exact z,?_⟩);have hf:H1 s1.heap.objs.size=none:=I1.hok.fresh (Ak _);refine ⟨.ref s1.heap.objs.size,upd H1 s1.heap.objs.size (.lst xs),I1.laid (t':=s1.toks) (λb u e=>Ac _ e) (Ak _) ?_,rfl,q _ hf⟩;exact ⟨z,us,0,r,Ah _ rfl⟩
end
abbrev Sp:=List V->Hp->VK->XK->Prop
abbrev CXT:=List Env->Hp->Shared->XK->Value->Shared->Prop
structure Env0 (P:Az)(w:World)(K:Aa)(mg:Str->Option Value)(base:Heap)(A:Around)(outer:List Env)(s:Shared)(H:Hp):Prop where
 frames:A.frames=some outer
 mod:Mod K mg base
 bs:∀ b o,base.get? b=some o->s.heap.get? b=some o/\H b=none
 bsz:base.objs.size<=s.heap.objs.size
 funs:s.heap.FunFrames base outer
 frf:∀ b∈frs outer,H b=none
 hok:HOk P w H s.heap
 bare:AllBare s.gens
def CE (outer:List Env)(P:Az)(w:World)(H:Hp)(s:Shared)(Q:VK)(u:Value)(s':Shared):Prop:=
 ∃ v H',s'.os=s.os/\AllBare s'.gens/\Un (frs outer) [] H H' s.heap s'.heap/\HOk P w H' s'.heap/\RelV v u/\Q v H'
def CR (CX:CXT)(outer:List Env)(P:Az)(w:World)(H:Hp)(s:Shared)(Q:VK)(E:XK)(r:Result)(s':Shared):Prop:=
 match r with
 |.ok (.ret u)=>CE outer P w H s Q u s'
 |.ok _=>False
 |.error e=>CX outer H s E e s'
structure FnOk (P:Az)(w:World)(K:Aa)(mg:Str->Option Value)(base:Heap)(CX:CXT)(k:Nat)(f:Addr)(fd:Bf)(ps:List Str)(sp:Sp):Prop where
 len:∀ vs H Q E,sp vs H Q E->vs.length=ps.length
 run:∀ (A:Around) (outer:List Env) (s:Shared) (H:Hp) (args:Args) (us:List Value) (vs:List V) (Q:VK) (E:XK),Room k A->Env0 P w K mg base A outer s H->BindsTo s fd args (ps.zip us)->Vals vs us->sp vs H Q E ->
  DR (model P w) A (.call (.ref f) args) (CR CX outer P w H s Q E) s
def FnOk.mono {P:Az}{w:World}{K:Aa}{mg:Str->Option Value}{base:Heap}{CX:CXT}{j k:Nat}{f:Addr}{fd:Bf}{ps:List Str}{sp:Sp}(F:FnOk P w K mg base CX j f fd ps sp)(h:j<=k) :
  FnOk P w K mg base CX k f fd ps sp:=⟨F.len,λA outer s H args us vs Q E hr=>F.run A outer s H args us vs Q E (hr.mono h)⟩
def Env0.make {P:Az}{w:World}{K:Aa}{mg:Str->Option Value}{base:Heap}{A:Around}{outer:List Env}{s:Shared}{H:Hp}(e:Env0 P w K mg base A outer s H)(C:Addr)(us:List Value)(kw:List (Str×Value)) :
    Env0 P w K mg base (A.under (.builtin "type.__call__" ⟨.ref C::us,kw⟩)) outer s H:=⟨by first|exact e.frames|(simpa [Around.under,Code.envs,Code.isFrame,pushEnvs] using e.frames),e.mod,e.bs,e.bsz,e.funs,e.frf,e.hok,e.bare⟩
section
variable {X:Cx}{pins:List (Addr×Obj)}{σ:St}{H:Hp}{s s':Shared}
def Inv.env0 (I:Inv X pins σ H s):Env0 X.prog X.w X.K X.mg X.base X.A X.stack s H:=
 ⟨I.ok.frames,I.ok.mod,I.bs,Bh I.ok.bsz I.sz,I.stack,I.stkFree,I.hok,I.bare⟩
def Inv.after (I:Inv X pins σ H s)(h:CE X.stack X.prog X.w H s Q u s'):EP X pins σ Q u s':=by
 obtain ⟨v,H',os,bare,un,hok,r,q⟩:=h;obtain ⟨hh,g,d,t,os'⟩:=s';obtain rfl:os'=s.os:=os;exact ⟨v,H',I.call (h':=hh) (g':=g) (d':=d) (t':=t) (ch:=[]) un hok bare (λb z=>absurd z (by simp)),r,q⟩
end
def aCm (sp:Sp)(dvs:List V)(E:XK)(t:TA):TE:=λσ H Q=>t σ H λvs H1=>sp (vs++dvs) H1 Q E
def tMeth (C:Addr)(m:Str)(sp:Sp)(dvs:List V)(E:XK)(ta:TE)(t:TA):TE:=λσ H Q=>ta σ H λx H1=>∃ a dx fs,x=.ref a/\H1 a=some (.ins C dx fs)/\fs.lookup m=none /\
 t σ H1 λvs H2=>sp (x::(vs++dvs)) H2 Q E
def aHe (C:Addr)(sp:Sp)(dvs:List V)(E:XK)(t:TA):TE:=λσ H Q=>t σ H λvs H1=>∀ x dx,H1 x=none->H1 dx=none->dx≠x ->
 sp (.ref x::(vs++dvs)) (upd (upd H1 dx (.own x)) x (.ins C dx [])) (λv H2=>v=.non/\Q (.ref x) H2) E
def Binds (K:Aa)(fd:Bf)(ps:List Str)(ds:List Value):Prop:=
 ∀ (s:Shared) (us:List Value),K.In s.heap->(us++ds).length=ps.length->BindsTo s fd ⟨us,[]⟩ (ps.zip (us++ds))
def Binds.all {K:Aa}{fd:Bf}{ps:List Str}(h:∀ us:List Value,us.length=ps.length->bindArgs fd ⟨us,[]⟩=pure (ps.zip us)):Binds K fd ps []:=λs us _ hl=>by
 rw [Cb] at hl ⊢;exact .of_eq (h us hl)
def hJ (CX:CXT)(X:Cx)(E:XK):Prop:=∀ (pins:List (Addr×Obj)) (σ:St) (H:Hp) (s:Shared) (e:Value) (s':Shared),Inv X pins σ H s->CX X.stack H s E e s'->X.xe e s'
section
variable {X:Cx}{CX:CXT}{k:Nat}{f C:Addr}{fd:Bf}{ps:List Str}{sp:Sp}{dvs:List V}{ds:List Value}{E:XK}{x m:Str}{p pos apos:Pos}{e o:Expr}{es:List Expr}{ta:TE}{t:TA}
def aBi {σ:St}(F:FnOk X.prog X.w X.K X.mg X.base CX k f fd ps sp)(hr:Room k X.A)(hb:Binds X.K fd ps ds)(hd:Vals dvs ds)(hx:hJ CX X E)(I:Inv X pins σ H s)(r:Vals vs us)(h:sp (vs++dvs) H Q E):wpAny (model X.prog X.w) X.A (call (.ref f) us) (EP X pins σ Q) X.xe s:=by
 have r2:Vals (vs++dvs) (us++ds):=r.append hd;have hl:(us++ds).length=ps.length:=by rw [<- r2.length];exact F.len _ _ _ _ h
 refine ED (Ck (F.run X.A X.stack s H ⟨us,[]⟩ (us++ds) (vs++dvs) Q E hr I.env0 (hb s us I.kIn hl) r2 h) λr s' hq=>?_);cases r with
 |error e=>exact hx pins σ H s e s' I hq
 |ok fl=>
  cases fl with
  |ret u=>exact I.after hq
  |next=>exact CH hq
  |brk=>exact CH hq
  |cont=>exact CH hq
def aDg (F:FnOk X.prog X.w X.K X.mg X.base CX k f fd ps sp)(hr:Room k X.A)(hg:Gl X x)(hm:X.mg x=some (.ref f))(hk:Cw X.K (.ref f)=true)(hb:Binds X.K fd ps ds)(hd:Vals dvs ds)(hx:hJ CX X E)
  (ha:PA X (e::es) t) (hdb:(x==("__debug__":Str))=false:=by decide) (he:AU (e::es) X.env=(false,eval e X.env)::AU es X.env:=by rfl) (hpl:(backTo pos (AU es X.env)).any (·.1)=false:=by rfl) :
  PE X (.Call (.Name x p) (e::es) [] pos) (aCm sp dvs E t):=by
 intro pins s σ H Q I h;refine Dr (fA I hg hm ?_ hdb);refine En (h₀:=X.base) I.ok.mod.kin hk (thn (ha pos pins s σ H _ I h) λus s1 ⟨vs,H1,I1,r,q⟩=>⟨I1.kIn,?_⟩) he hpl;exact aBi F hr hb hd hx I1 r q
structure Mk (K:Aa)(C f:Addr):Prop where
 makes:PySem.W.makesIn K C=true
 init:Bd K (.ref C) "__init__" = some (some (.ref f))
 fn:PySem.W.isFn K (.ref f)=true
 kp:Cw K (.ref C)=true
def zI {σ:St}(M:Mk X.K C f)(F:FnOk X.prog X.w X.K X.mg X.base CX k f fd ps sp)(hr:Room (k+1) X.A)(hb:Binds X.K fd ps ds)(hd:Vals dvs ds)(hx:hJ CX X E)(I:Inv X pins σ H s)(r:Vals vs us)(h:∀ x dx,H x=none->H dx=none->dx≠x->sp (.ref x::(vs++dvs)) (upd (upd H dx (.own x)) x (.ins C dx [])) (λv H2=>v=.non/\Q (.ref x) H2) E) :
  wpAny (model X.prog X.w) X.A (call (.ref C) us) (EP X pins σ Q) X.xe s:=by
 have hq:=h (s.heap.objs.size+1) s.heap.objs.size (I.hok.fresh (Dm _)) (I.hok.fresh (Ak _)) (Aw (Cn _));have I2:=Inv.made (C:=C) I;have r2:Vals (V.ref (s.heap.objs.size+1)::(vs++dvs)) (AD (s.heap.objs.size+1)::(us++ds)):=.cons rfl (r.append hd);have hl:(AD (s.heap.objs.size+1)::us++ds).length=ps.length:=by
  have e:=r2.length;rw [F.len _ _ _ _ hq] at e;exact e.symm
 refine ED (aAp (f:=f) I.kIn M.makes M.init (beq_iff_eq.mp M.fn) (Ck (F.run _ X.stack _ _ ⟨AD (s.heap.objs.size+1)::us,[]⟩ (AD (s.heap.objs.size+1)::(us++ds)) _ _ E (hr.make C us [])
  (I2.env0.make C us []) (hb _ (AD (s.heap.objs.size+1)::us) I2.kIn hl) r2 hq) λr s' hq'=>?_))
 cases r with
 |error e=>exact hx pins σ _ _ e s' I2 hq'
 |ok fl=>
  cases fl with
  |ret u=>
   obtain ⟨v,H',I3,rv,ev,q3⟩:=I2.after hq';subst ev;exact ⟨rv,⟨V.ref (s.heap.objs.size+1),H',I3,rfl,q3⟩⟩
  |next=>exact CH hq'
  |brk=>exact CH hq'
  |cont=>exact CH hq'
def vU (M:Mk X.K C f)(F:FnOk X.prog X.w X.K X.mg X.base CX k f fd ps sp)(hr:Room (k+1) X.A)(hg:Gl X x)(hm:X.mg x=some (.ref C))(hb:Binds X.K fd ps ds)(hd:Vals dvs ds)(hx:hJ CX X E)
  (ha:PA X (e::es) t) (hdb:(x==("__debug__":Str))=false:=by decide) (he:AU (e::es) X.env=(false,eval e X.env)::AU es X.env:=by rfl) (hpl:(backTo pos (AU es X.env)).any (·.1)=false:=by rfl) :
  PE X (.Call (.Name x p) (e::es) [] pos) (aHe C sp dvs E t):=by
 intro pins s σ H Q I h;refine Dr (fA I hg hm ?_ hdb);refine En (h₀:=X.base) I.ok.mod.kin M.kp (thn (ha pos pins s σ H _ I h) λus s1 ⟨vs,H1,I1,r,q⟩=>⟨I1.kIn,?_⟩) he hpl;exact zI M F hr hb hd hx I1 r q
end
def PK (X:Cx)(kws:List Keyword)(t:TA):Prop:=
 ∀ (pos:Pos) (pins:List (Addr×Obj)) (s:Shared) (σ:St) (H:Hp) (Q:List V->Hp->Prop),Inv X pins σ H s->t σ H Q->wpAny (model X.prog X.w) X.A (evalAll ((backToKw pos (keywordEach kws X.env)).map (·.2))) (AP X pins σ Q) X.xe s
section
variable {X:Cx}{CX:CXT}{k:Nat}{f C:Addr}{fd:Bf}{ps ks:List Str}{sp:Sp}{E:XK}{x m:Str}{p pos apos kpos:Pos}{e o:Expr}{es:List Expr}{kws:List Keyword}{te ta:TE}{t tk:TA}{nm:Option Str}
structure KBinds (K:Aa)(fd:Bf)(ps ks:List Str)(g:List Value->List Value->List Value)(gV:List V->List V->List V):Prop where
 to:∀ (s:Shared) (us ws:List Value),K.In s.heap->(g us ws).length=ps.length->BindsTo s fd ⟨us,ks.zip ws⟩ (ps.zip (g us ws))
 rel:∀ {vs:List V} {us:List Value} {zs:List V} {ws:List Value},Vals vs us->Vals zs ws->Vals (gV vs zs) (g us ws)
def tCallK (sp:Sp)(gV:List V->List V->List V)(E:XK)(t tk:TA):TE:=λσ H Q=>t σ H λvs H1=>tk σ H1 λzs H2=>sp (gV vs zs) H2 Q E
variable {g:List Value->List Value->List Value}{gV:List V->List V->List V}
end
structure FnScope (N P:List Str)(sc:Scope):Prop where
 kind:sc.kind=.function
 co:sc.isCoroutine=false
 gen:sc.isGenerator=false
 nd:N.Nodup
 pre:N.take P.length=P
 par:∀ x∈P,sc.names.lookup x=some .local\/sc.names.lookup x=some .cell
 nofree:∀ y∈sc.names,y.2≠.free
def fnScOk {N P:List Str}{sc:Scope}(h:(sc.kind==.function&&!sc.isCoroutine&&!sc.isGenerator&&decide N.Nodup&&decide (N.take P.length=P)&&P.all (λx=>sc.names.lookup x==some .local||sc.names.lookup x==some .cell)&&sc.names.all λy=>y.2!=.free)=true):FnScope N P sc:=by
 simp only [Ce,decide_eq_true_eq,CJ,Bool.or_eq_true,beq_iff_eq,bne_iff_ne,Bool.not_eq_true'] at h
 exact ⟨h.1.1.1.1.1.1,h.1.1.1.1.1.2,h.1.1.1.1.2,h.1.1.1.2,h.1.1.2,h.1.2,h.2⟩
theorem oI {kindOf:Str->Option Bj}{x:Str}:∀ {binds:List (Str×Value)} {m:Str->Option Value},(∀ v,(x,v)∉binds)->bindL kindOf binds m x=m x
  |[],_,_=>rfl
  |(n,v)::r,m,h=>by
    unfold bindL;rw [oI λw hw=>h w (Aj _ hw)];split
    · have:x≠n:=by rintro rfl;exact h v Au
      simp [this]
    · rfl
theorem oK {kindOf:Str->Option Bj}{x:Str}:∀ {binds:List (Str×Value)} {m:Str->Option Value},(∀ v,(x,v)∉binds)->bindC kindOf binds m x=m x
  |[],_,_=>rfl
  |(n,v)::r,m,h=>by
    unfold bindC;rw [oK λw hw=>h w (Aj _ hw)];split
    · rfl
    · have:x≠n:=by rintro rfl;exact h v Au
      simp [this]
theorem oJ {kindOf:Str->Option Bj}{x:Str}{v:Value}:∀ {P:List Str} {vs:List Value} {i:Nat} {m:Str->Option Value},P.Nodup->P[i]?=some x->vs[i]?=some v->kindOf x=some .local ->
  bindL kindOf (P.zip vs) m x=some v
 |[],_,_,_,_,h,_,_=>by simp at h
 |_::_,[],_,_,_,_,h,_=>by simp at h
 |p::P,w::vs,0,m,nd,h1,h2,hk=>by
  simp at h1 h2;subst h1;subst h2;show bindL kindOf ((p,w)::P.zip vs) m p=_;unfold bindL;rw [oI λv hv=>(BO.mp nd).1 (Ew hv).1,if_pos hk];simp
 |p::P,w::vs,i+1,m,nd,h1,h2,hk=>by
  show bindL kindOf ((p,w)::P.zip vs) m x=_;unfold bindL;exact oJ (i:=i) (BO.mp nd).2 (by simpa using h1) (by simpa using h2) hk
theorem oM {kindOf:Str->Option Bj}{x:Str}{v:Value}:∀ {P:List Str} {vs:List Value} {i:Nat} {m:Str->Option Value},P.Nodup->P[i]?=some x->vs[i]?=some v->kindOf x≠some .local ->
  bindC kindOf (P.zip vs) m x=some v
 |[],_,_,_,_,h,_,_=>by simp at h
 |_::_,[],_,_,_,_,h,_=>by simp at h
 |p::P,w::vs,0,m,nd,h1,h2,hk=>by
  simp at h1 h2;subst h1;subst h2;show bindC kindOf ((p,w)::P.zip vs) m p=_;unfold bindC;rw [oK λv hv=>(BO.mp nd).1 (Ew hv).1,if_neg hk];simp
 |p::P,w::vs,i+1,m,nd,h1,h2,hk=>by
  show bindC kindOf ((p,w)::P.zip vs) m x=_;unfold bindC;exact oM (i:=i) (BO.mp nd).2 (by simpa using h1) (by simpa using h2) hk
def start (N:List Str)(vs:List V):St:=vs.map some++CO (N.length-vs.length) none
def cxOf (CX:CXT)(P:Az)(w:World)(K:Aa)(mg:Str->Option Value)(base:Heap)(N:List Str)(qual:Str)(scope:Scope)(f:Addr)(cd:Value)(A:Around)(outer:List Env)(s:Shared)(H:Hp)(E:XK):Cx where
 prog:=P
 w:=w
 K:=K
 mg:=mg
 base:=base
 A:=A.deeper (envOfC qual scope s.heap.objs.size f cd)
 N:=N
 s₀:=s
 H₀:=H
 env:=envOfC qual scope s.heap.objs.size f cd
 outer:=outer
 stack:=envOfC qual scope s.heap.objs.size f cd::outer
 ex:=[]
 calm:=true
 fn:=λ_=>true
 pn:=[]
 xe:=λe s'=>wpAny (model P w) (A.deeper (envOfC qual scope s.heap.objs.size f cd)) (leaving (envOfC qual scope s.heap.objs.size f cd) e) (λ_ s''=>CX outer H s E e s'') (λe' s''=>CX outer H s E e' s'') s'
def rY {sc:Scope}{n:Nat}{x:Str}(h:sc.names.lookup x=some .cell):∃ c,(cellsFrom n sc.names []).lookup x=some c:=by
 have q:=PySem.W.cellsFrom_some sc.names n [] (.inl h);exact Option.isSome_iff_exists.mp q
def xH {CX:CXT}{P:Az}{w:World}{K:Aa}{mg:Str->Option Value}{base:Heap}{N ps:List Str}{qual:Str}{scope:Scope}{f:Addr}{cd:Value}{A:Around}{outer:List Env}{s s1:Shared}{H:Hp}{E:XK}{us:List Value}{vs:List V}
  (S:FnScope N ps scope) (hd:A.handled=none) (e0:Env0 P w K mg base A outer s H) (hl:vs.length=ps.length) (r:Vals vs us)
  (x:InCallC s s.heap.objs.size (bindL (envOfC qual scope s.heap.objs.size f cd).kindOf (ps.zip us) λ_=>none) (cellsFrom (s.heap.objs.size+1) scope.names []) (bindC (envOfC qual scope s.heap.objs.size f cd).kindOf (ps.zip us) λ_=>none) s1) :
  Inv (cxOf CX P w K mg base N qual scope f cd A outer s H E) [] (start N vs) H s1:=by
 have hpl:ps.length<=N.length:=by have:=congrArg List.length S.pre;rw [El] at this;omega
 obtain ⟨h1,tk,rfl,hk⟩:=x.done;have noA:∀ b:Addr,b∉(cxOf CX P w K mg base N qual scope f cd A outer s H E).ex:=λb z=>absurd (show b∈([]:List Addr) from z) (by simp);refine ⟨⟨e0.mod,S.kind,rfl,rfl,Ak _,λy z c h1 h2=>?_,λy hy=>?_,λy c _ h=>?_,λ_=>hd,Around.frames_deeper e0.frames,.inr ⟨rfl,rfl⟩,λb z=>absurd z (noA b),e0.bs,e0.bsz,λb _ _=>noA b,λb z=>absurd z (noA b),e0.funs,e0.frf⟩,
  rfl,e0.bare,Un.kept hk,⟨_,x.toInCall.ns,λi y v h1 h2 h3=>?_⟩,λy c h=>⟨_,x.cell y c h⟩,e0.hok.fresh (Ak _),λy c h=>?_,λp hp=>absurd (show p∈([]:List (Addr×Obj)) from hp) (by simp),e0.hok.kept hk,?_⟩
 ·exact name_of_addr x.apart (CS h1) (CS h2)
 ·have hy:scope.names.lookup y=some .cell\/scope.names.lookup y=some .free:=hy
  rcases hy with hy|hy
  ·exact rY hy
  ·exact absurd rfl (S.nofree _ (CS hy))
 ·exact Nat.le_of_lt (x.above y c (CS h))
 ·have hi:i<vs.length:=by
   unfold start at h2
   by_cases hi:i<vs.length
   ·exact hi
   ·rw [Cu (by simpa using hi)] at h2
    rw [Ex] at h2;split at h2<;>cases h2
  have ha:vs[i]?=some v:=by
   unfold start at h2;rw [Dk (by simpa using hi),As] at h2;cases e:vs[i]? with
   |none=>rw [e] at h2;cases h2
   |some a=>rw [e] at h2;cases h2;rfl
  obtain ⟨u,hu,rv⟩:=r.get ha;have hp:ps[i]?=some y:=by
   rw [<- S.pre,List.getElem?_take_of_lt (by omega)];exact h1
  have ndP:ps.Nodup:=by rw [<- S.pre];exact S.nd.sublist (List.take_sublist _ _)
  refine ⟨u,rv,?_⟩
  rcases S.par y (Av hp) with k|k
  ·exact .inl ⟨k,oJ ndP hp hu k⟩
  ·obtain ⟨c,e⟩:=rY (n:=s.heap.objs.size+1) k
   refine .inr ⟨.inl k,c,e,?_⟩;have q:=x.cell y c e;rw [oM ndP hp hu (by show scope.names.lookup y≠_;rw [k];decide)] at q;exact q
 ·exact e0.hok.fresh (Nat.le_of_lt (x.above y c (CS h)))
 ·unfold start
  show _=N.length;rw [AF,Ag,List.length_replicate];omega
def aGt {CX:CXT}{P:Az}{w:World}{K:Aa}{mg:Str->Option Value}{base:Heap}{k:Nat}{f:Addr}{name qual:Str}{params:Arguments}{body:List Stmt}{scope:Scope}{dV kV doc pm cdv ct oc:Value}{an od:Option Addr}
  {osl:Array (Option Value)} {N ps:List Str} {sp:Sp} (lk:K.lookup f=some ⟨oc,od,.func (Cm name qual params body scope dV kV doc pm an cdv ct),osl⟩) (hcd:DY K cdv qual=true) (S:FnScope N ps scope)
  (len:∀ vs H Q E,sp vs H Q E->vs.length=ps.length)
  (hbody:∀ (A:Around) (outer:List Env) (s:Shared) (H:Hp) (vs:List V) (Q:VK) (E:XK),Room k (A.deeper (envOfC qual scope s.heap.objs.size f cdv))->sp vs H Q E ->
   ∃ t,PSs (cxOf CX P w K mg base N qual scope f cdv A outer s H E) body t/\t { nx:=λ_ H'=>Q .non H',rt:=Q } (start N vs) H) :
  FnOk P w K mg base CX (k+1) f (Cm name qual params body scope dV kV doc pm an cdv ct) ps sp:=by
 refine ⟨len,λA outer s H args us vs Q E hr e0 hb r hsp=>?_⟩;have hl:=len _ _ _ _ hsp;have KX:K.In s.heap:=e0.mod.kin.keeps λb o e=>(e0.bs b o e).1;have lim:s.heap.NoLimit:=e0.mod.nolimit.keeps λb o e=>(e0.bs b o e).1;have hkind:∀ y∈ps.zip us,scope.names.lookup y.1=some .local\/(scope.names.lookup y.1=some .cell/\((cellsFrom (s.heap.objs.size+1) scope.names []).lookup y.1).isSome=true):=λ⟨n,v⟩ hy=>by
  rcases S.par n (Ew hy).1 with q|q
  ·exact .inl q
  ·exact .inr ⟨q,PySem.W.cellsFrom_some _ _ _ (.inl q)⟩
 refine codeAny_call_function hr.depth (KX _ _ lk) rfl S.co S.gen rfl (PySem.W.codeRec_of KX hcd) (hb _ _ _ _ ?_);refine wpAny_newFunctionEnv_cells S.kind hkind λenv he s1 x=>?_;subst he;refine ⟨lim.keeps x.toInCall.keep,codeAny_func ?_⟩;obtain ⟨t,ht,hq⟩:=hbody A outer s H vs Q E (hr.deeper _) hsp;have I:Inv (cxOf CX P w K mg base N qual scope f cdv A outer s H E) [] (start N vs) H s1:=xH S hr.hd e0 hl r x;refine BW (ht [] s1 (start N vs) H _ I hq) (λfl s' hs=>?_) λe s' hs=>hs;have fin:∀ {σ':St} {H':Hp} {v:V} {u:Value},Inv (cxOf CX P w K mg base N qual scope f cdv A outer s H E) [] σ' H' s'->RelV v u->Q v H'->CE outer P w H s Q u s':=
  λ{σ' H' v u} J rv q=>⟨v,H',J.os,J.bare,J.base,J.hok,rv,q⟩
 cases fl with
 |ret u=>
  obtain ⟨v,σ',H',J,rv,q⟩:=hs;exact fin J rv q
 |next=>
  obtain ⟨σ',H',J,q⟩:=hs;exact fin (v:=V.non) (u:=BR) J rfl q
 |brk=>
  obtain ⟨_,_,_,q⟩:=hs;exact CH q
 |cont=>
  obtain ⟨_,_,_,q⟩:=hs;exact CH q
section
variable {X:Cx}{x:Str}{p pos:Pos}{e:Expr}{es:List Expr}{t:TA}{id T:String}{r:List V->Hp->VK->Prop}
def tCB (r:List V->Hp->VK->Prop)(t:TA):TE:=λσ H Q=>t σ H λvs H1=>r vs H1 Q
def aT (hc:eU X (.builtin id) r)(hg:Gl X x)(hm:X.mg x=none)(hv:Cd x=some (.builtin id))(ha:PA X (e::es) t)(hn:x ≠ "__name__":=by decide)(hdb:(x==("__debug__":Str))=false:=by decide)
  (he:AU (e::es) X.env=(false,eval e X.env)::AU es X.env:=by rfl) (hpl:(backTo pos (AU es X.env)).any (·.1)=false:=by rfl):PE X (.Call (.Name x p) (e::es) [] pos) (tCB r t):=by
 intro pins s σ H Q I h;refine Dr (jA I hg hm hv ?_ hn hdb);exact PyProof.Rows.callWith_builtin1 (thn (ha pos pins s σ H _ I h) λus s1 ⟨vs,H1,I1,r1,q1⟩=>hc pins s1 σ H1 vs us Q I1 r1 q1) he hpl
def aZ (hc:eU X (.type T) r)(hg:Gl X x)(hm:X.mg x=none)(hv:Cd x=some (.type T))(ha:PA X (e::es) t)(hn:x ≠ "__name__":=by decide)(hdb:(x==("__debug__":Str))=false:=by decide)
  (he:AU (e::es) X.env=(false,eval e X.env)::AU es X.env:=by rfl) (hpl:(backTo pos (AU es X.env)).any (·.1)=false:=by rfl):PE X (.Call (.Name x p) (e::es) [] pos) (tCB r t):=by
 intro pins s σ H Q I h;refine Dr (jA I hg hm hv ?_ hn hdb);exact Dy (thn (ha pos pins s σ H _ I h) λus s1 ⟨vs,H1,I1,r1,q1⟩=>hc pins s1 σ H1 vs us Q I1 r1 q1) he hpl
end
end L2
namespace HT
open PySem PyProof.Rows
def lexLt:List Int->List Int->Bool
 |[],[]=>false
 |[],_::_=>true
 |_::_,[]=>false
 |x::xs,y::ys=>if x=y then lexLt xs ys else decide (x<y)
section
open PySem.SeqAt
open PySem.AutoSeq1 (wpAny_loadPart')
open PySem.MeetsSeq PySem.MeetsSeq2 PySem.MeetsSeq3
end
section
variable {prog:Az}{w:World}{A:Around}{E:Value->Shared->Prop}{s:Shared}
def cat_tup (ht:IsTup s.heap t vs.toArray)(hb:IsTup s.heap b ws.toArray)(hv:vs≠[])(h1:ws=[]->Q (.ref t) s)(h2:ws≠[]->Q (.ref s.heap.objs.size) { s with heap:=s.heap.push { cls:=.type "tuple",data:=.seq (vs++ws).toArray } })(hsz:vs.length+ws.length<=Ax):wpAny (model prog w) A (Ei .Add (.ref t) (.ref b)) Q E s:=by
 obtain ⟨⟨cls,dd,data,sl⟩,ho,hc,n,hd⟩:=id ht;obtain ⟨⟨cls2,dd2,data2,sl2⟩,ho2,hc2,n2,hd2⟩:=id hb;simp only at hc hd hc2 hd2;subst hc hd hc2 hd2;have e:vs.toArray++ws.toArray=(vs++ws).toArray:=by simp
 by_cases hw:ws=[]
 ·exact concat_meets ⟨_,ho,rfl⟩ ⟨_,ho2,rfl⟩ noFill_tuple_add seq_tuple_add PySem.F.slot_tuple_add FB (Fp _ _)
   (tuple_addW1 t b vs.toArray ws.toArray n n2 dd dd2 sl sl2 (by simpa using hv) (by simp [hw])) ⟨ho,ho2,h1 hw⟩
 ·refine concat_meets ⟨_,ho,rfl⟩ ⟨_,ho2,rfl⟩ noFill_tuple_add seq_tuple_add PySem.F.slot_tuple_add FB (Fp _ _)
   (tuple_addW2 t b vs.toArray ws.toArray n n2 dd dd2 sl sl2 (by simpa using hv) (by simpa using hw) (by rw [Ai,Ai];exact hsz)) ⟨ho,ho2,?_⟩
  rw [e];exact h2 hw
def sIx (n d:Nat):Option Int->Nat
 |none=>d
 |some v=>if v<0 then (v+(n:Int)).toNat else min v.toNat n
theorem sIx_none (n d:Nat):sIx n d none=d:=rfl
theorem sIx_nat (n d k:Nat):sIx n d (some (k:Int))=min k n:=by
 show (if (k:Int)<0 then ((k:Int)+(n:Int)).toNat else min (k:Int).toNat n)=min k n;rw [if_neg (by omega),Cz]
def aFj (n d:Nat)(hd:d<=n)(o:Option Int):sIx n d o<=n:=by
 cases o with
 |none=>exact hd
 |some v=>
  show (if v<0 then (v+(n:Int)).toNat else min v.toNat n)<=n
  by_cases hv:v<0
  ·rw [if_pos hv];omega
  ·rw [if_neg hv];exact Nat.min_le_right _ _
def yH (v:Int)(n d:Nat):(if v<0 then max (v+(n:Int)) 0 else min v (n:Int))=((sIx n d (some v):Nat):Int):=by
 show (if v<0 then max (v+(n:Int)) 0 else min v (n:Int))=(((if v<0 then (v+(n:Int)).toNat else min v.toNat n):Nat):Int)
 by_cases hv:v<0
 ·simp only [if_pos hv];omega
 ·simp only [if_neg hv];omega
theorem uD (lo hi:Option Int)(n:Nat):ET lo hi 1 (n:Int)=(((sIx n 0 lo:Nat):Int),((sIx n n hi:Nat):Int)):=by
 have h1:¬ ((1:Int)<0):=by omega
 unfold ET;simp only [h1,if_false];refine Prod.ext ?_ ?_
 ·cases lo with
  |none=>rfl
  |some v=>exact yH v n 0
 ·cases hi with
  |none=>rfl
  |some v=>exact yH v n n
theorem tG (i j:Nat):DM (i:Int) (j:Int) 1=j-i:=by
 unfold DM;have h1:(1:Int) > 0:=by omega
 simp only [h1,if_true,Int.ediv_one];split<;>omega
def jN (p:IsPart v o)(h:Q o s):wpAny (model prog w) A (AH.Slice.slicePartIndex v) Q E s:=by
 cases p with
 |none=>exact slicePart_none h
 |int i t=>exact slicePart_int h
def eV {sl:Addr}{vl vu:Value}{lo hi:Option Int}{n:Nat}{Q:Int×Int×Nat->Shared->Prop}(hs:s.heap.IsSliceOf sl vl vu .none)(pl:IsPart vl lo)(pu:IsPart vu hi)
    (h:Q (((sIx n 0 lo:Nat):Int),1,sIx n n hi-sIx n 0 lo) s):wpAny (model prog w) A (AH.Slice.sliceApplied (.ref sl) (pure (n:Int))) Q E s:=by
  obtain ⟨os,hos,hcs,hds⟩:=id hs;unfold AH.Slice.sliceApplied AH.Slice.sliceFields;refine Ab (Ab (BM hos hds (x:=vl) rfl (Ab (BM hos hds (x:=vu) rfl (Ab (BM hos hds (x:=.none) rfl (Af ?_)))))));refine Ab (slicePart_none ?_);show wpAny _ _ (if ((1:Int)==0)=true then _ else _) _ _ s;rw [if_neg (by decide)];refine Ab (jN pl (Ab (jN pu (Ab (Af ?_)))));show wpAny _ _ (match ET lo hi 1 (n:Int) with|(lo,hi)=>pure (lo,(1:Int),DM lo hi 1)) _ _ s;rw [uD lo hi n];show wpAny _ _ (pure (((sIx n 0 lo:Nat):Int),(1:Int),DM ((sIx n 0 lo:Nat):Int) ((sIx n n hi:Nat):Int) 1)) _ _ s;rw [tG];exact Af h
theorem zO (xs:Array Value)(i k:Nat):((Be k).filterMap λ(m:Nat)=>xs[((i:Int)+(m:Int)*1).toNat]?).toArray=((xs.toList.drop i).take k).toArray:=by
 have e:(λ(m:Nat)=>xs[((i:Int)+(m:Int)*1).toNat]?)=λm=>xs[i+m]?:=by
  funext m
  have:((i:Int)+(m:Int)*1).toNat=i+m:=by omega
  rw [this]
 rw [e];have:=pick_run xs i k;rw [List.filterMap_map] at this;have e2:((λx=>xs[x]?) ∘ λx=>i+x)=λm=>xs[i+m]?:=rfl;rw [e2] at this;rw [this]
def getItem_tuple_cut {t sl:Addr}{items:Array Value}{vl vu:Value}{lo hi:Option Int}{Q:Value->Shared->Prop}(ht:IsTup s.heap t items)(hs:s.heap.IsSliceOf sl vl vu .none)(pl:IsPart vl lo)(pu:IsPart vu hi)
  (hw:¬ (sIx items.size 0 lo=0/\sIx items.size items.size hi=items.size))
  (h:Q (.ref s.heap.objs.size) { s with heap:=s.heap.push { cls:=.type "tuple",data:=.seq ((items.toList.drop (sIx items.size 0 lo)).take (sIx items.size items.size hi-sIx items.size 0 lo)).toArray } })
  (hsz:items.size<=Ax):wpAny (model prog w) A (getItem (.ref t) (.ref sl)) Q E s:=by
 have htake:sizeOk (.seq ((items.toList.drop (sIx items.size 0 lo)).take (sIx items.size items.size hi-sIx items.size 0 lo)).toArray):=by
  show ((items.toList.drop (sIx items.size 0 lo)).take (sIx items.size items.size hi-sIx items.size 0 lo)).toArray.size<=Ax;rw [Ai,El,List.length_drop,BE];omega
 have hj:sIx items.size items.size hi<=items.size:=aFj _ _ (Ak _) hi;obtain ⟨os,hos,hcs,hds⟩:=id hs;have hTs:s.TypeIs (.ref sl) "slice":=⟨os,hos,hcs⟩;unfold getItem
 try with_reducible refine Bw ?_
 first|refine Ab (Af ?_)|skip
 refine Ab (wpAny_sequenceKey ht.typeIs (by decide) ?_);refine Ab (Bz (name:=CP "__getitem__") ht.typeIs BL
  (Bv BL ht.typeIs entry_tuple_getitem ?_ (args_tuple_getitem _ _)))
 show wpAny _ _ (AH.Tuple.tupleItemsOf (.ref t) >>= _) _ _ s;refine Ab (tupleItemsOf_ ht ?_);refine Ab (Ed hTs ?_);rw [if_pos (by decide)];refine Ab (eV hs pl pu ?_);have hno:¬ ((((sIx items.size 0 lo:Nat):Int)==0&&(1:Int)==1&&(sIx items.size items.size hi-sIx items.size 0 lo)==items.size)=true):=by
  intro q;rw [Ce,Ce] at q;have q1:((sIx items.size 0 lo:Nat):Int)=0:=Es q.1.1;have q2:sIx items.size items.size hi-sIx items.size 0 lo=items.size:=Es q.2;exact hw ⟨by omega,by omega⟩
 show wpAny _ _ (if (((sIx items.size 0 lo:Nat):Int)==0&&(1:Int)==1&&(sIx items.size items.size hi-sIx items.size 0 lo)==items.size)=true then _ else _) _ _ s;rw [if_neg hno,zO]
 first
  |exact Ab (m:=DP _) (AZ (Af ⟨_,rfl,Af h⟩) htake)
  |exact Ab (m:=DP _) (AZ (Ab (Af (Af ⟨_,rfl,Af h⟩))) htake)
  |exact Ab (Ab (m:=DP _) (AZ (Af (Af ⟨_,rfl,Af h⟩)) htake))
  |exact Ab (Ab (m:=DP _) (AZ (Af ⟨_,rfl,Af h⟩) htake))
end
end HT
namespace L2
open PySem PySem.Spec PyProof.Rows
abbrev TO:=St->Hp->(Option Int->Hp->Prop)->Prop
def PO (X:Cx)(e:Option Expr)(t:TO):Prop:=
 ∀ (pins:List (Addr×Obj)) (s:Shared) (σ:St) (H:Hp) (Q:Option Int->Hp->Prop),Inv X pins σ H s->t σ H Q ->
  wpAny (model X.prog X.w) X.A (evalPart e X.env) (λu s'=>∃ o H',Inv X pins σ H' s'/\IsPart u o/\Q o H') X.xe s
def aCk:TO:=λ_ H Q=>Q none H
def aHb (t:TE):TO:=λσ H Q=>t σ H λx H1=>∃ i,x=.int i/\Q (some i) H1
section
variable {X:Cx}{e:Expr}{te:TE}{lo hi:Option Expr}{tl th:TO}{pos p2:Pos}
def aDb:PO X none aCk:=by
 intro pins s σ H Q I h;rw [evalPart_none];exact Af ⟨none,H,I,.none,h⟩
def aDa (h:PE X e te):PO X (some e) (aHb te):=by
 intro pins s σ H Q I hw;rw [evalPart_some];refine thn (h pins s σ H _ I hw) λu s1 ⟨x,H1,I1,r1,q1⟩=>?_;obtain ⟨i,rfl,q⟩:=q1;obtain ⟨t,rfl⟩:=r1;exact ⟨some i,H1,I1,.int i t,q⟩
def SlR (X:Cx)(r:V->Option Int->Option Int->Hp->VK->Prop):Prop:=
 ∀ (pins:List (Addr×Obj)) (s:Shared) (σ:St) (H:Hp) (x:V) (v vl vu:Value) (lo hi:Option Int) (sl:Addr) (Q:VK),Inv X pins σ H s->RelV x v->s.heap.IsSliceOf sl vl vu .none->IsPart vl lo->IsPart vu hi->r x lo hi H Q ->
  ∃ T id,typeLookup (.type T) "__getitem__" = pure (some (.builtin id))/\s.TypeIs v T/\wpAny (model X.prog X.w) X.A (getItem v (.ref sl)) (EP X pins σ Q) X.xe s
def tSl (r:V->Option Int->Option Int->Hp->VK->Prop)(te:TE)(tl th:TO):TE:=λσ H Q=>te σ H λx H1=>tl σ H1 λl H2=>th σ H2 λu H3=>r x l u H3 Q
def zQ {r:V->Option Int->Option Int->Hp->VK->Prop}(hr:SlR X r)(he:PE X e te)(hl:PO X lo tl)(hu:PO X hi th):PE X (.Subscript e (.Slice lo hi none p2) pos) (tSl r te tl th):=by
 intro pins s σ H Q I h;refine Subscript_ (thn (he pins s σ H _ I h) λv s1 ⟨x,H1,I1,r1,q1⟩=>?_);refine wpAny_Slice (thn (hl pins s1 σ H1 _ I1 q1) λvl s2 ⟨l,H2,I2,pl,q2⟩=>thn (hu pins s2 σ H2 _ I2 q2) λvu s3 ⟨u,H3,I3,pu,q3⟩=>?_);rw [evalPart_none];refine Af ?_;have I4:Inv X pins σ H3 { s3 with heap:=s3.heap.push { cls:=.type "slice",data:=.fields #[vl,vu,.none] } }:=I3.kept (t':=s3.toks) λb ob q=>Ac _ q;obtain ⟨T,id,hT,ht,hg⟩:=hr pins { s3 with heap:=s3.heap.push { cls:=.type "slice",data:=.fields #[vl,vu,.none] } } σ H3 x v vl vu l u s3.heap.objs.size Q I4 r1 (Heap.IsSliceOf.new ..) pl pu q3;show wpAny (model X.prog X.w) X.A (subscriptTail e (.Slice lo hi none p2) v (.ref s3.heap.objs.size)) (EP X pins σ Q) X.xe { s3 with heap:=s3.heap.push { cls:=.type "slice",data:=.fields #[vl,vu,.none] } };exact tail_any (ops:=[.ref s3.heap.objs.size,v]) ht hT hg (by with_unfolding_all rfl)
def cutV (xs:List V)(lo hi:Option Int):List V:=(xs.drop (HT.sIx xs.length 0 lo)).take (HT.sIx xs.length xs.length hi-HT.sIx xs.length 0 lo)
def pU (xs:List V)(lo hi:Option Int):(cutV xs lo hi).length<=xs.length:=by
 unfold cutV;rw [El,List.length_drop];omega
def rSlT (K:Aa):V->Option Int->Option Int->Hp->VK->Prop:=λx lo hi H Q=>∃ a xs,x=.ref a/\SqT K H a xs /\
 ¬ (HT.sIx xs.length 0 lo=0/\HT.sIx xs.length xs.length hi=xs.length)/\∀ p,H p=none->Q (.ref p) (upd H p (.tup (cutV xs lo hi)))
def aE8:SlR X (rSlT X.K):=by
 intro pins s σ H x v vl vu lo hi sl Q I rx hs pl pu h;obtain ⟨a,xs,rfl,hx,hw,q⟩:=h;cases rx;obtain ⟨its,r,ht,hz⟩:=I.tuple hx;have hlen:its.toArray.size=xs.length:=by rw [Ai];exact r.length.symm
 refine ⟨"tuple",_,BL.lookup,ht.typeIs,?_⟩;refine HT.getItem_tuple_cut ht hs pl pu (by rw [hlen];exact hw) ?_ (by rw [hlen];exact hz);rw [hlen];refine ⟨.ref s.heap.objs.size,_,I.laid (t':=s.toks) (o:=.tup (cutV xs lo hi)) (λb ob q=>Ac _ q) (Ak _) ?_,rfl,q _ (I.hok.fresh (Ak _))⟩;exact ⟨⟨Bh (pU xs lo hi) hz,_,Ah _ rfl,rfl⟩,_,(r.drop (HT.sIx xs.length 0 lo)).take (HT.sIx xs.length xs.length hi-HT.sIx xs.length 0 lo),IsTup.new _ _⟩
def rLtT (K:Aa):R2:=λx y H Q=>∃ a b ns ms,x=.ref a/\y=.ref b/\SqT K H a (ns.map V.int)/\SqT K H b (ms.map V.int)/\Q (.bl (HT.lexLt ns ms)) H
def aFs (K:Aa):R2:=λx y H Q=>∃ a b xs ys,x=.ref a/\y=.ref b/\SqT K H a xs/\SqT K H b ys/\xs≠[]/\xs.length+ys.length<=Ax /\
 (ys=[]->Q (.ref a) H)/\(ys≠[]->∀ p,H p=none->Q (.ref p) (upd H p (.tup (xs++ys))))
def Vals.nil_iff (r:Vals xs us):us=[]↔xs=[]:=by
 cases r with
 |nil=>simp
 |cons _ _=>simp
def aDo:OpR X (Ei .Add) (aFs X.K):=by
 intro pins s σ H x y v u Q I rx ry h;obtain ⟨a,b,xs,ys,rfl,rfl,ha,hb,hx,hz,q1,q2⟩:=h;cases rx;cases ry;obtain ⟨its,r1,p1,_⟩:=I.tuple ha;obtain ⟨its2,r2,p2,_⟩:=I.tuple hb;refine HT.cat_tup p1 p2 (λz=>hx (r1.nil_iff.mp z)) (λz=>⟨.ref a,H,I,rfl,q1 (r2.nil_iff.mp z)⟩) (λz=>?_) (by rw [<- r1.length,<- r2.length];exact hz);refine ⟨.ref s.heap.objs.size,_,I.laid (t':=s.toks) (o:=.tup (xs++ys)) (λb ob q=>Ac _ q) (Ak _) ?_,rfl,q2 (λw=>z (r2.nil_iff.mpr w)) _ (I.hok.fresh (Ak _))⟩;exact ⟨⟨by rw [AF];exact hz,_,Ah _ rfl,rfl⟩,_,r1.append r2,IsTup.new _ _⟩
end
def ixN (n:Nat)(i:Int):Option Nat:=if 0<=i then (if i<n then some i.toNat else none) else if -(n:Int)<=i then some (i+n).toNat else none
def atI {α:Type}(xs:List α)(i:Int):Option α:=(ixN xs.length i).bind λj=>xs[j]?
def xG {n:Nat}{i:Int}{j:Nat}(h:ixN n i=some j):seqIndex? i n=some j/\j<n/\-(n:Int)<=i/\i<n:=by
 unfold ixN at h
 by_cases h0:0<=i
 ·rw [if_pos h0] at h
  by_cases h1:i<n
  ·rw [if_pos h1] at h
   have e:i.toNat=j:=AK h;exact ⟨by rw [seqIndex_of h0 h1,e],by omega,by omega,h1⟩
  ·rw [if_neg h1] at h;cases h
 ·rw [if_neg h0] at h
  by_cases h1:-(n:Int)<=i
  ·rw [if_pos h1] at h
   have e:(i+n).toNat=j:=AK h;exact ⟨by rw [seqIndex_neg (by omega) h1,e],by omega,h1,by omega⟩
  ·rw [if_neg h1] at h;cases h
def pX {α:Type}{xs:List α}{i:Int}{v:α}(h:atI xs i=some v):∃ j,seqIndex? i xs.length=some j/\xs[j]?=some v/\j<xs.length/\-(xs.length:Int)<=i/\i<xs.length:=by
 unfold atI at h;cases e:ixN xs.length i with
 |none=>rw [e] at h;cases h
 |some j=>
  rw [e] at h;obtain ⟨h1,h2,h3,h4⟩:=xG e;exact ⟨j,h1,h,h2,h3,h4⟩
def bD {α:Type}{xs:List α}{j:Nat}{v:α}(h:xs[j]?=some v):atI xs (j:Int)=some v:=by
 have hj:j<xs.length:=(Ae.mp h).1;have e:ixN xs.length (j:Int)=some j:=by
  unfold ixN;rw [if_pos (by omega),if_pos (by omega)];simp
 unfold atI;rw [e];exact h
def aEp (b:Expr):Prop:=∀ o i,subscripted b false o i=operate [o,i] (getItem o i)
def IxR (X:Cx)(r:R2):Prop:=
 ∀ (value slice:Expr) (pins:List (Addr×Obj)) (s:Shared) (σ:St) (H:Hp) (x y:V) (v u:Value) (Q:VK),Inv X pins σ H s->RelV x v->RelV y u->r x y H Q ->
  subscripted slice false v u=operate [v,u] (getItem v u)->wpAny (model X.prog X.w) X.A (subscriptTail value slice v u) (EP X pins σ Q) X.xe s
def MtR (X:Cx)(id:String)(r:V->List V->Hp->VK->Prop):Prop:=
 ∀ (pins:List (Addr×Obj)) (s:Shared) (σ:St) (H:Hp) (x:V) (xs:List V) (v:Value) (us:List Value) (Q:VK),Inv X pins σ H s->RelV x v->Vals xs us->r x xs H Q ->
  wpAny (model X.prog X.w) X.A (call (.builtin id) (v::us)) (EP X pins σ Q) X.xe s
section
variable {X:Cx}{a b:Expr}{ta tb:TE}{pos:Pos}
def bH {r:R2}(hr:IxR X r)(ha:PE X a ta)(hb:PE X b tb)(hs:aEp b):PE X (.Subscript a b pos) (tOp r ta tb):=by
 intro pins s σ H Q I h;exact Subscript_ (binT ha hb I h λv u s2 x y H2 I2 rx ry q=>hr a b pins s2 σ H2 x y v u Q I2 rx ry q (hs _ _))
def rIxL (K:Aa):R2:=λx y H Q=>∃ p xs i v,x=.ref p/\y=.int i/\SqL K H p xs/\atI xs i=some v/\Q v H
def rIxT (K:Aa):R2:=λx y H Q=>∃ p xs i v,x=.ref p/\y=.int i/\SqT K H p xs/\atI xs i=some v/\Q v H
def rIxS:R2:=λx y H Q=>∃ z i c,x=.str z/\y=.int i/\z.length<=Ax/\atI z.cps.toList i=some c/\Q (.str ⟨#[c]⟩) H
def bB:IxR X (rIxL X.K):=by
 intro value slice pins s σ H x y v u Q I rx ry h hs;obtain ⟨p,xs,i,z,rfl,rfl,hq,he,q⟩:=h;cases rx;obtain ⟨t,rfl⟩:=ry;obtain ⟨its,r,pl,hz⟩:=I.list hq;obtain ⟨j,h1,h2,h3,h4,h5⟩:=pX he;obtain ⟨w,ew,rw'⟩:=r.get h2;have hl:=r.length;have hn:=jX;have fin:EP X pins σ Q w s:=⟨z,H,I,rw',q⟩
 by_cases h0:0<=i
 ·have hj:i.toNat=j:=by
   rw [seqIndex_of h0 h5] at h1;exact AK h1
  exact item_listR pl.isList h0 (by omega) (by rw [hj];simpa using ew) fin hs
 ·have hj:(i+(its.toArray.size:Int)).toNat=j:=by
   rw [seqIndex_neg (by omega) h4] at h1;rw [Ai,<- hl];exact AK h1
  exact subscriptTail_builtinR (x:=w) pl.isList.typeIs slot_list_getitem.lookup
   (wpAny_getItem_list_neg (Q:=λr s'=>r=w/\EP X pins σ Q r s') pl.isList (by omega) (by rw [Ai]<;>omega) (by omega) (by rw [hj];simpa using ew) ⟨rfl,fin⟩) hs
def dW:IxR X (rIxT X.K):=by
 intro value slice pins s σ H x y v u Q I rx ry h hs;obtain ⟨p,xs,i,z,rfl,rfl,hq,he,q⟩:=h;cases rx;obtain ⟨t,rfl⟩:=ry;obtain ⟨its,r,pl,hz⟩:=I.tuple hq;obtain ⟨j,h1,h2,h3,h4,h5⟩:=pX he;obtain ⟨w,ew,rw'⟩:=r.get h2;have hl:=r.length;have hn:=jX;have fin:EP X pins σ Q w s:=⟨z,H,I,rw',q⟩;exact subscriptTail_builtinR (x:=w) pl.typeIs slot_tuple_getitem.lookup
  (getItem_tuple (j:=j) (Q:=λr s'=>r=w/\EP X pins σ Q r s') pl (by omega) (by omega) (by rw [Ai,<- hl];exact h1) (by simpa using ew) ⟨rfl,fin⟩) hs
def xF:IxR X rIxS:=by
 intro value slice pins s σ H x y v u Q I rx ry h hs;obtain ⟨z,i,c,rfl,rfl,hz,he,q⟩:=h;obtain ⟨t,rfl⟩:=rx;obtain ⟨t',rfl⟩:=ry;obtain ⟨j,h1,h2,h3,h4,h5⟩:=pX he;have hl:z.cps.toList.length=z.length:=by simp [Str.length]
 rw [hl] at h1 h4 h5;have hn:=jX;exact tail_any (typeIs_str s z t) slot_str_getitem.lookup (getItem_str (c:=c) (by
  have e1:decide (i < -(2^63:Int))=false:=decide_eq_false (by omega);have e2:decide (i ≥ 2^63)=false:=decide_eq_false (by omega);rw [e1,e2,Bool.or_false]) (by rw [h1];simpa using h2) ⟨.str ⟨#[c]⟩,H,I.tok _,⟨_,rfl⟩,q⟩) hs
def rIx (K:Aa):R2:=λx y H Q=>rIxL K x y H Q\/rIxT K x y H Q\/rIxS x y H Q
def tL (its:List Value)(n j:Nat)(u:Value):DZ (·.setIfInBounds j u) { cls:=.type "list",data:=.seq its.toArray n }={ cls:=.type "list",data:=.seq (its.set j u).toArray n }:=by
 simp [DZ]
theorem Inv.lst {σ:St}{p:Addr}(I:Inv X pins σ H s)(h:H p=some (.lst xs)) :
  ∃ (its:List Value) (n:Nat),Vals xs its/\s.heap.get? p=some { cls:=.type "list",data:=.seq its.toArray n }/\xs.length<=Ax:=by
 obtain ⟨z,its,n,r,e⟩:=I.hok p _ h;exact ⟨its,n,r,e,z⟩
def Inv.lstUpd {pins:List (Addr×Obj)}{σ:St}{H:Hp}{s:Shared}{p:Addr}{xs ys:List V}{its its':List Value}{n n':Nat}{f:Obj->Obj}(I:Inv X pins σ H s)(h:H p=some (.lst xs))
  (ho:s.heap.get? p=some { cls:=.type "list",data:=.seq its.toArray n }) (hf:f { cls:=.type "list",data:=.seq its.toArray n }={ cls:=.type "list",data:=.seq its'.toArray n' }) (r:Vals ys its') (hz:ys.length<=Ax) (t:Nat) :
  Inv X pins σ (upd H p (.lst ys)) { s with heap:=s.heap.update p f,toks:=t }:=by
 have e:(s.heap.update p f).get? p=some { cls:=.type "list",data:=.seq its'.toArray n' }:=by
  rw [BP f ho (by rw [hf]<;>rfl),hf]
 refine I.write (x:=p) (e:=p) (by rw [h];trivial) (.inl rfl) (λb u hb q=>(AW _ _ (AQ hb)).trans q) ⟨_,e⟩ ?_;exact ⟨hz,its',n',r,e⟩
def aHt:V->V->V->Hp->(Hp->Prop)->Prop:=λo i v H Q=>∃ p xs k j,o=.ref p/\i=.int k/\H p=some (.lst xs)/\ixN xs.length k=some j/\Q (upd H p (.lst (xs.set j v)))
def set_list:PSet X aHt:=by
 intro pins s σ H o i v ov iv u Q I ro ri rv h;obtain ⟨p,xs,k,j,rfl,rfl,hp,hj,q⟩:=h;cases ro;obtain ⟨t,rfl⟩:=ri;obtain ⟨its,n,r,ho,hz⟩:=I.lst hp;obtain ⟨h1,h2,h3,h4⟩:=xG hj;have hl:=r.length;have hn:=jX;have I':Inv X pins σ (upd H p (.lst (xs.set j v))) { s with heap:=s.heap.update p (DZ (·.setIfInBounds j u)) }:=
  I.lstUpd hp ho (tL its n j u) (r.set rv j) (by rw [CT];exact hz) s.toks
 by_cases h0:0<=k
 ·have hk:k.toNat=j:=by
   rw [seqIndex_of h0 h4] at h1;exact AK h1
  exact PySem.W.ki_setAt ho h0 (by omega) (by rw [Ai,<- hl];exact h4) (by rw [hk];exact ⟨_,I',q⟩)
 ·have hk:(k+(its.toArray.size:Int)).toNat=j:=by
   rw [seqIndex_neg (by omega) h3] at h1;rw [Ai,<- hl];exact AK h1
  exact PySem.W.ki_setBack ho (by omega) (by rw [Ai,<- hl];exact h3) (by omega) (by rw [hk];exact ⟨_,I',q⟩)
def rSlL (K:Aa):V->Option Int->Option Int->Hp->VK->Prop:=λx lo hi H Q=>∃ a xs,x=.ref a/\SqL K H a xs/\∀ p,H p=none->Q (.ref p) (upd H p (.lst (cutV xs lo hi)))
def eR:V->Bool
 |.non=>true
 |.bl _=>true
 |.int _=>true
 |.str _=>true
 |_=>false
def eqV:V->V->Bool
 |.non,.non=>true
 |.bl a,.bl b=>a==b
 |.bl a,.int b=>(if a then 1 else 0)==b
 |.int a,.bl b=>a==(if b then 1 else 0)
 |.int a,.int b=>a==b
 |.str a,.str b=>a==b
 |_,_=>false
def aB2 (ry:RelV y u)(rx:RelV x v)(fy:eR y=true)(fx:eR x=true):Bm A s u v (eqV y x):=by
 cases y with
 |non=>
  cases ry;cases x with
  |non=>cases rx;exact Bm.same _
  |bl b=>cases rx;exact Bm.none_bool b
  |int b=>obtain ⟨t,rfl⟩:=rx;exact Bm.none_int b t
  |str b=>obtain ⟨t,rfl⟩:=rx;exact Bm.none_str b t
  |_=>exact absurd (show false=true from fx) AC
 |bl a=>
  cases ry;cases x with
  |non=>cases rx;exact Bm.bool_none a
  |bl b=>cases rx;exact Bm.bool_bool a b
  |int b=>obtain ⟨t,rfl⟩:=rx;exact Bm.bool_int a b t
  |str b=>obtain ⟨t,rfl⟩:=rx;exact Bm.bool_str a b t
  |_=>exact absurd (show false=true from fx) AC
 |int a=>
  obtain ⟨t',rfl⟩:=ry;cases x with
  |non=>cases rx;exact Bm.int_none a t'
  |bl b=>cases rx;exact Bm.int_bool a t' b
  |int b=>obtain ⟨t,rfl⟩:=rx;exact Bm.int_int a t' b t
  |str b=>obtain ⟨t,rfl⟩:=rx;exact Bm.int_str a t' b t
  |_=>exact absurd (show false=true from fx) AC
 |str a=>
  obtain ⟨t',rfl⟩:=ry;cases x with
  |non=>cases rx;exact Bm.str_none a t'
  |bl b=>cases rx;exact Bm.str_bool a t' b
  |int b=>obtain ⟨t,rfl⟩:=rx;exact Bm.str_int a t' b t
  |str b=>obtain ⟨t,rfl⟩:=rx;exact Bm.str_str a t' b t
  |_=>exact absurd (show false=true from fx) AC
 |_=>exact absurd (show false=true from fy) AC
def eqU (x:V)(u:Value):Bool:=match u with
 |.none=>eqV .non x
 |.bool b=>eqV (.bl b) x
 |.int i _=>eqV (.int i) x
 |.str z _=>eqV (.str z) x
 |_=>false
theorem aB1 (r:RelV y u)(f:eR y=true):eqU x u=eqV y x:=by
 cases y with
 |non=>cases r;rfl
 |bl b=>cases r;rfl
 |int i=>obtain ⟨t,rfl⟩:=r;rfl
 |str z=>obtain ⟨t,rfl⟩:=r;rfl
 |_=>exact absurd (show false=true from f) AC
theorem pY :∀ {xs:List V} {us:List Value},Vals xs us->xs.all eR=true->us.any (eqU x)=xs.any λy=>eqV y x
 |_,_,.nil,_=>rfl
 |y::xs,u::us,.cons r t,f=>by
  rw [List.all_cons,Ce] at f;rw [List.any_cons,List.any_cons,aB1 r f.1,pY t f.2]
theorem lK (rx:RelV x v)(fx:eR x=true):∀ {xs:List V} {us:List Value},Vals xs us->xs.all eR=true->∀ u∈us,Bm A s u v (eqU x u)
 |_,_,.nil,_=>λu hu=>by cases hu
 |y::xs,u::us,.cons r t,f=>λu' hu=>by
  rw [List.all_cons,Ce] at f
  rcases AE.mp hu with rfl|hu
  ·rw [aB1 r f.1];exact aB2 r rx f.1 fx
  ·exact lK rx fx t f.2 u' hu
def inV (x:V)(xs:List V):Bool:=xs.any λy=>eqV y x
def rIn (K:Aa)(neg:Bool):R2:=λx y H Q=>∃ p xs,y=.ref p/\(SqL K H p xs\/SqT K H p xs)/\eR x=true/\xs.all eR=true/\Q (.bl (if neg then !inV x xs else inV x xs)) H
def eZ:OpR X (BN .In) (rIn X.K false):=by
 intro pins s σ H x y v u Q I rx ry h;obtain ⟨p,xs,rfl,hq,fx,fs,q⟩:=h;cases ry
 rcases hq with hq|hq
 ·obtain ⟨its,r,pl,hz⟩:=I.list hq
  refine SeqAt.in_listAt (eqU x) pl.isList (λw hw=>lK rx fx r fs w (by simpa using hw)) ⟨.bl _,H,I,rfl,?_⟩;rw [show its.toArray.any (eqU x)=its.any (eqU x) by simp,pY r fs];exact q
 ·obtain ⟨its,r,pl,hz⟩:=I.tuple hq
  refine SeqAt.in_tupleAt (eqU x) pl (λw hw=>lK rx fx r fs w (by simpa using hw)) ⟨.bl _,H,I,rfl,?_⟩;rw [show its.toArray.any (eqU x)=its.any (eqU x) by simp,pY r fs];exact q
def bC:eU X (.builtin "len") (λxs H Q=>∃ p ys,xs=[.ref p]/\(SqL X.K H p ys\/SqT X.K H p ys)/\Q (.int ys.length) H):=by
 intro pins s σ H xs us Q I r h;obtain ⟨p,ys,rfl,hq,q⟩:=h;obtain ⟨u,rfl,rx⟩:=vals1 r;cases rx;have hn:=jX
 rcases hq with hq|hq
 ·obtain ⟨its,r',pl,hz⟩:=I.list hq
  have hlen:=r'.length;exact Calls.call_len_list pl.isList (by simp only [Ai]<;>omega) ⟨.int ys.length,H,I.tok _,⟨s.toks+1,by rw [Ai,hlen]⟩,q⟩
 ·obtain ⟨its,r',pl,hz⟩:=I.tuple hq
  have hlen:=r'.length;exact len_tuple pl (by simp only [Ai]<;>omega) ⟨.int ys.length,H,I.tok _,⟨s.toks+1,by rw [Ai,hlen]⟩,q⟩
def oB:eU X (.builtin "len") (λxs H Q=>∃ z,xs=[.str z]/\z.length<=Ax/\Q (.int z.length) H):=by
 intro pins s σ H xs us Q I r h;obtain ⟨z,rfl,hz,q⟩:=h;obtain ⟨u,rfl,t,rfl⟩:=vals1 r;have hn:=jX;exact len_str (by omega) ⟨.int z.length,H,I.tok _,⟨_,rfl⟩,q⟩
def bX:eU X (.type "list") (λxs H Q=>∃ p ys,xs=[.ref p]/\(SqL X.K H p ys\/SqT X.K H p ys)/\∀ l,H l=none->Q (.ref l) (upd H l (.lst ys))):=by
 intro pins s σ H xs us Q I r h;obtain ⟨p,ys,rfl,hq,q⟩:=h;obtain ⟨u,rfl,rx⟩:=vals1 r;cases rx;have fin:∀ (its:List Value),Vals ys its->ys.length<=Ax->∀ (h':Heap) (c':Nat),(∀ b o',s.heap.get? b=some o'->h'.get? b=some o') ->
   h'.get? s.heap.objs.size=some { cls:=.type "list",dict:=none,data:=.seq its.toArray c',slots:=#[] }->EP X pins σ Q (.ref s.heap.objs.size) { s with heap:=h' }:=λits r' hz h' c' kp e=>
  ⟨.ref s.heap.objs.size,_,I.laid (t':=s.toks) kp (Ak _) (show ObjOk X.prog X.w _ h' _ (.lst ys) from ⟨hz,its,c',r',e⟩),rfl,q _ (I.hok.fresh (Ak _))⟩
 rcases hq with hq|hq
 ·obtain ⟨its,r',pl,hz⟩:=I.list hq
  have hlen:=r'.length;obtain ⟨o,ho,hc,n,hd⟩:=pl.isList;exact call_list_seq p (.inl rfl) ho hc hd (λh' c' kp e=>fin its r' hz h' c' kp e) (by simp only [Ai]<;>omega)
 ·obtain ⟨its,r',pl,hz⟩:=I.tuple hq
  have hlen:=r'.length;obtain ⟨o,ho,hc,n,hd⟩:=pl;exact call_list_seq p (.inr rfl) ho hc hd (λh' c' kp e=>fin its r' hz h' c' kp e) (by simp only [Ai]<;>omega)
def bR:eU X (.type "tuple") (λxs H Q=>∃ p ys,xs=[.ref p]/\((SqL X.K H p ys/\∀ l,H l=none->Q (.ref l) (upd H l (.tup ys)))\/(SqT X.K H p ys/\Q (.ref p) H))):=by
 intro pins s σ H xs us Q I r h;obtain ⟨p,ys,rfl,h⟩:=h;obtain ⟨u,rfl,rx⟩:=vals1 r;cases rx
 rcases h with ⟨hq,q⟩|⟨hq,q⟩
 ·obtain ⟨its,r',pl,hz⟩:=I.list hq
  have hlen:=r'.length;refine call_tuple_list pl.isList (λh' kp=>?_) (by simp only [Ai]<;>omega);have I1:Inv X pins σ H { s with heap:=h' }:=I.kept (t':=s.toks) kp;have I2:Inv X pins σ (upd H h'.objs.size (.tup ys)) { s with heap:=h'.push { cls:=.type "tuple",data:=.seq its.toArray } }:=
   I1.laid (t':=s.toks) (λb o e=>Ac _ e) (Ak _) (show ObjOk X.prog X.w _ _ _ (.tup ys) from ⟨⟨hz,_,Ah _ rfl,rfl⟩,its,r',IsTup.new _ _⟩)
  exact ⟨.ref h'.objs.size,_,I2,rfl,q _ (I1.hok.fresh (Ak _))⟩
 ·obtain ⟨its,r',pl,hz⟩:=I.tuple hq
  exact call_tuple_same pl ⟨.ref p,H,I,rfl,q⟩
def tyV (K:Aa)(T:String)(x:V)(H:Hp):Prop:=match x with
 |.str _=>T = "str"
 |.int _=>T = "int"
 |.ref p=>(T = "list" /\ ∃ xs,SqL K H p xs)\/(T = "tuple" /\ ∃ o,K.lookup p=some o/\o.cls=.type "tuple" /\ o.dict=none) \/
   (T = "dict" /\ ((∃ kvs,H p=some (.dK kvs))\/∃ kvs,H p=some (.dT kvs)))\/(T = "set" /\ ∃ S n,H p=some (.set S n))
 |_=>False
def aBa {σ:St}(I:Inv X pins σ H s)(r:RelV x v)(ty:tyV X.K T x H) :
  s.TypeIs v T/\∀ a,v=.ref a->∃ ob,s.heap.get? a=some ob/\ob.dict=none:=by
 cases x with
 |str z=>
  obtain ⟨t,rfl⟩:=r;cases (show T = "str" from ty);exact ⟨typeIs_str s z t,λ_ e=>nomatch e⟩
 |int i=>
  obtain ⟨t,rfl⟩:=r;cases (show T = "int" from ty);exact ⟨typeIs_int s i t,λ_ e=>nomatch e⟩
 |ref p=>
  cases r
  rcases ty with ⟨rfl,xs,hq⟩|⟨rfl,o,hk,hc,hd⟩|⟨rfl,hk⟩|⟨rfl,S,n,hk⟩
  ·obtain ⟨its,_,pl,_⟩:=I.list hq
   refine ⟨pl.isList.typeIs,λa e=>?_⟩;cases e;obtain ⟨o,n,e,c,hd,_⟩:=pl;exact ⟨o,e,hd⟩
  ·refine ⟨⟨o,I.kIn p o hk,hc⟩,λa e=>?_⟩
   cases e;exact ⟨o,I.kIn _ o hk,hd⟩
  ·have z:∃ o,s.heap.get? p=some o/\o.ExactDict:=by
    rcases hk with ⟨kvs,hk⟩|⟨kvs,hk⟩
    ·obtain ⟨_,_,_,_,o,_,_,e,ex,_⟩:=I.hok p _ hk
     exact ⟨o,e,ex⟩
    ·obtain ⟨_,_,_,_,o,_,_,e,ex,_⟩:=I.hok p _ hk
     exact ⟨o,e,ex⟩
   obtain ⟨o,e,ex⟩:=z;refine ⟨⟨o,e,ex.1⟩,λa e2=>?_⟩;cases e2;exact ⟨o,e,ex.2.1⟩
  ·obtain ⟨o,_,_,_,e,ex,_⟩:=I.hok p _ hk
   refine ⟨⟨o,e,ex.1⟩,λa e2=>?_⟩;cases e2;exact ⟨o,e,ex.2.1⟩
 |_=>exact CH ty
def tBM0 (K:Aa)(T:String)(r:V->List V->Hp->VK->Prop)(to:TE):TE:=λσ H Q=>to σ H λx H1=>tyV K T x H1/\r x [] H1 Q
def tBM (K:Aa)(T:String)(r:V->List V->Hp->VK->Prop)(to:TE)(t:TA):TE:=λσ H Q=>to σ H λx H1=>tyV K T x H1/\t σ H1 λxs H2=>r x xs H2 Q
variable {o e:Expr}{es:List Expr}{to:TE}{t:TA}{name:Str}{apos cpos:Pos}{T id:String}{r:V->List V->Hp->VK->Prop}
def aFw (pa:PlainAttrs T)(slot:Slot T name id)(hty:typeOf (.builtin id)=pure (.type "method_descriptor"))(hm:MtR X id r)(ho:PE X o to)
  (hbase:Ej o name X.env (eval o X.env)=eval o X.env:=by rfl) (hline:(apos.endLine==cpos.line)=true:=by rfl):PE X (.Call (.Attribute o name apos) [] [] cpos) (tBM0 X.K T r to):=by
 intro pins s σ H Q I h;refine wpAny_Call_method0_late hbase hline (thn (ho pins s σ H _ I h) λv s1 ⟨x,H1,I1,r1,ty,q1⟩=>?_);obtain ⟨h1,h2⟩:=aBa I1 r1 ty;exact ⟨T,id,pa,slot,hty,h1,h2,CV rfl (PySem.evalArgs_none (hm pins s1 σ H1 x [] v [] Q I1 r1 .nil q1))⟩
def iV (pa:PlainAttrs T)(slot:Slot T name id)(hty:typeOf (.builtin id)=pure (.type "method_descriptor"))(hm:MtR X id r)(ho:PE X o to)(ha:PA X (e::es) t)
  (hbase:Ej o name X.env (eval o X.env)=eval o X.env:=by rfl)
  (hfew:((backTo cpos (AU (e::es) X.env)).all (λx=>!x.1)&&(backToKw cpos (keywordEach [] X.env)).all (λx=>x.1.isSome)
   && decide ((e::es).length+([]:List Keyword).length+(if ([]:List Keyword).isEmpty then 0 else 1)<30))=true:=by rfl)
  (hline:(apos.endLine==cpos.line)=true:=by rfl) (hs:AU (e::es) X.env=(false,eval e X.env)::AU es X.env:=by rfl) (hplain:(backTo cpos (AU es X.env)).any (·.1)=false:=by rfl) :
  PE X (.Call (.Attribute o name apos) (e::es) [] cpos) (tBM X.K T r to t):=by
 intro pins s σ H Q I h;refine wpAny_Call_method_late hbase hfew hline rfl (thn (ho pins s σ H _ I h) λv s1 ⟨x,H1,I1,r1,ty,q1⟩=>?_);obtain ⟨h1,h2⟩:=aBa I1 r1 ty;refine ⟨T,id,pa,slot,hty,h1,h2,?_⟩;have hA:=ha cpos pins s1 σ H1 _ I1 q1;rw [hs] at hA ⊢;refine CV (by show (false||(backTo cpos (AU es X.env)).any (·.1))=false;rw [hplain]<;>rfl) (EV ?_);exact thn hA λus s2 ⟨vs,H2,I2,r2,q2⟩=>hm pins s2 σ H2 x vs v us Q I2 r1 r2 q2
end
def MtM (X:Cx)(id:String)(r:V->List V->Hp->VK->Prop):Prop:=
 ∀ (pins:List (Addr×Obj)) (s:Shared) (σ:St) (H:Hp) (x:V) (xs:List V) (v:Value) (us:List Value) (Q:VK),Inv X pins σ H s->RelV x v->Vals xs us->r x xs H Q ->
  wpAny (model X.prog X.w) X.A (call (.builtin id) (v::us)) (EP X pins σ Q) X.xe s
def Vals.one:∀ {x:V} {us:List Value},Vals [x] us->∃ u,us=[u]/\RelV x u
 |_,_,.cons r .nil=>⟨_,rfl,r⟩
def Vals.two:∀ {x y:V} {us:List Value},Vals [x,y] us->∃ u v,us=[u,v]/\RelV x u/\RelV y v
 |_,_,_,.cons r (.cons q .nil)=>⟨_,_,rfl,r,q⟩
def Vals.zero:∀ {us:List Value},Vals [] us->us=[]
 |_,.nil=>rfl
section
variable {X:Cx}{pins:List (Addr×Obj)}{σ:St}{H:Hp}{s:Shared}{l b:Addr}{xs ys zs:List V}
def Inv.lset {its its':List Value}{n:Nat}{f:Array Value->Array Value}{t':Nat}(I:Inv X pins σ H s)(hH:H l=some (.lst xs))
  (e:s.heap.get? l=some { cls:=.type "list",data:=.seq its.toArray n }) (hf:f its.toArray=its'.toArray) (hv:Vals ys its') (hz:ys.length<=Ax) :
  Inv X pins σ (upd H l (.lst ys)) { s with heap:=s.heap.update l (DZ f),toks:=t' }:=by
 have q:=PySem.IsL.update e f;rw [hf] at q;refine I.write (x:=l) (e:=l) (by rw [hH];exact trivial) (.inl rfl) (λb' u hb hu=>(AW s.heap (DZ f) (AQ hb)).trans hu) ⟨_,q⟩ ?_;exact ⟨hz,its',_,hv,q⟩
def Inv.lnew {t':Nat}(I:Inv X pins σ H s)(hv:Vals ys its)(hz:ys.length<=Ax) :
  Inv X pins σ (upd H s.heap.objs.size (.lst ys)) { s with heap:=s.heap.push { cls:=.type "list",data:=.seq its.toArray },toks:=t' }:=
 I.laid (λ_ _ q=>Ac _ q) (Ak _) ⟨hz,its,0,hv,Ah _ rfl⟩
theorem Inv.fresh (I:Inv X pins σ H s):H s.heap.objs.size=none:=I.hok.fresh (Ak _)
def Inv.lstM (I:Inv X pins σ H s)(hH:H l=some (.lst xs)):xs.length<=Ax/\∃ (its:List Value) (n:Nat),Vals xs its/\xs.length=its.length/\s.heap.get? l=some { cls:=.type "list",data:=.seq its.toArray n }:=by
 obtain ⟨z,its,n,r,e⟩:=I.hok l _ hH;exact ⟨z,its,n,r,r.length,e⟩
end
section
variable {X:Cx}
def aC6:V->List V->Hp->VK->Prop:=λx vs H Q=>∃ l xs y,x=.ref l/\vs=[y]/\H l=some (.lst xs)/\xs.length<Ax/\Q .non (upd H l (.lst (xs++[y])))
def bY:MtM X "list.append" aC6:=by
 intro pins s σ H x vs v us Q I rx rv h;obtain ⟨l,xs,y,rfl,rfl,hH,hz,q⟩:=h;cases rx;obtain ⟨u,rfl,ru⟩:=rv.one;obtain ⟨z,its,n,r,hl,e⟩:=I.lstM hH;refine call_meets F.slot_list_append ⟨_,e,rfl⟩ F.entry_list_append (F.args_list_append_2 _ _) (PySem.list_append l its.toArray n u (by rw [Ai];omega)) ⟨e,?_⟩;refine ⟨.non,_,I.lset (its':=its++[u]) hH e (by simp) (r.append (.cons ru .nil)) ?_,rfl,q⟩;rw [AF,EO];omega
def rExtend:V->List V->Hp->VK->Prop:=λx vs H Q=>∃ l b xs zs,x=.ref l/\vs=[.ref b]/\H l=some (.lst xs)/\H b=some (.lst zs)/\xs.length+zs.length<=Ax/\Q .non (upd H l (.lst (xs++zs)))
def rPop:V->List V->Hp->VK->Prop:=λx vs H Q=>∃ l xs y,x=.ref l/\vs=[]/\H l=some (.lst xs)/\xs[xs.length-1]?=some y/\Q y (upd H l (.lst xs.dropLast))
def rPopAt:V->List V->Hp->VK->Prop:=λx vs H Q=>∃ l xs i k y,x=.ref l/\vs=[.int i]/\H l=some (.lst xs)/\-(2^63)<=i/\i<2^63/\seqIndex? i xs.length=some k/\xs[k]?=some y/\Q y (upd H l (.lst (xs.eraseIdx k)))
def rReverse:V->List V->Hp->VK->Prop:=λx vs H Q=>∃ l xs,x=.ref l/\vs=[]/\H l=some (.lst xs)/\Q .non (upd H l (.lst xs.reverse))
def aFr:V->List V->Hp->VK->Prop:=λx vs H Q=>∃ l xs,x=.ref l/\vs=[]/\H l=some (.lst xs)/\Q .non (upd H l (.lst []))
def aAo:MtM X "list.clear" aFr:=by
 intro pins s σ H x vs v us Q I rx rv h;obtain ⟨l,xs,rfl,rfl,hH,q⟩:=h;cases rx;have hus:=rv.zero;subst hus;obtain ⟨z,its,n,r,hl,e⟩:=I.lstM hH;refine call_meets F.slot_list_clear ⟨_,e,rfl⟩ F.entry_list_clear (F.args_list_clear_1 _) (AutoSeq1.list_clear_list_0 l its.toArray n (by rw [Ai];omega)) ⟨e,?_⟩;exact ⟨.non,_,I.lset (its':=[]) (ys:=[]) hH e rfl .nil (BK _),rfl,q⟩
def rCat:R2:=λx y H Q=>∃ l b xs zs,x=.ref l/\y=.ref b/\H l=some (.lst xs)/\H b=some (.lst zs)/\xs.length+zs.length<=Ax/\∀ p,H p=none->Q (.ref p) (upd H p (.lst (xs++zs)))
def wC:OpR X (Ei .Add) rCat:=by
 intro pins s σ H x y v u Q I rx ry h;obtain ⟨l,b,xs,zs,rfl,rfl,hH,hB,hz,q⟩:=h;cases rx;cases ry;obtain ⟨z,its,n,r,hl,e⟩:=I.lstM hH;obtain ⟨z2,its2,n2,r2,hl2,e2⟩:=I.lstM hB;refine PySem.P.add_list e e2 ?_ (by rw [Ai,Ai];omega);have ea:its.toArray++its2.toArray=(its++its2).toArray:=by simp
 rw [ea];exact ⟨.ref _,_,I.lnew (t':=s.toks) (r.append r2) (by rw [AF];omega),rfl,q _ I.fresh⟩
def rRep:R2:=λx y H Q=>∃ l k xs,x=.ref l/\y=.int k/\H l=some (.lst xs)/\-(2^63)<=k/\k<2^63/\xs.length*k.toNat<=Ax /\
 ∀ p,H p=none->Q (.ref p) (upd H p (.lst (CO k.toNat xs).flatten))
end
section
variable {prog:Az}{w:World}{A:Around}{E:Value->Shared->Prop}{s:Shared}
set_option maxRecDepth 100000 in
end
section
variable {X:Cx}
end
end L2
namespace Att
open PySem PySem.W PySem.Calls PyProof.Rows
def jD :∀ (ns:List Int) (vs:List Value),WellAll P h vs (ns.map WData.int)->IntsAre vs ns:=by
 intro ns
 induction ns with
 |nil=>
  intro vs w;rw [List.map_nil] at w;cases w;exact .nil
 |cons n ns ih=>
  intro vs w;rw [Al] at w;cases w with
  |cons a b=>
   cases a;exact .cons _ _ (ih _ b)
def vB {l:OpenLaw}{n:Nat}(hn:l.most=some n)(hpre:l.row.toRowW.claim.pre args=true)(hwl:WellAll P h vals args) :
  ∃ a vs ns,vals=[AD a]/\args=[WData.list (ns.map WData.int)]/\h.get? a=some { cls:=.type "list",data:=.seq vs.toArray }/\IntsAre vs ns/\ns.length<=n:=by
 have hsh:WShape.hasAll [] args [.list .int]=true:=(pre_splitW hpre).1;have hc:l.pre.holds [] { args:=args }=true:=(pre_splitW hpre).2;obtain ⟨d,r,rfl,h1,h2⟩:=hasAllW_cons hsh;obtain rfl:=hasAllW_nil h2;obtain ⟨xs,rfl,h3⟩:=hasW_list h1;obtain ⟨ns,rfl⟩:=items_int h3;have hlen:ns.length<=n:=by
  unfold OpenLaw.pre at hc;have h4:(WTm.not (.lt (.lit (.int (n:Int))) (.len (.arg 0)))).holds [] { args:=[.list (ns.map .int)] }=true:=by
   have h4:=(holds_andW hc).1;rw [hn] at h4;exact h4
  have h5:=condW_of h4 (w_not (w_lt w_lit (w_len_list (w_arg rfl))));rw [Ag] at h5;refine Nat.le_of_not_lt λq=>?_;have q':(n:Int)<((ns.length:Nat):Int):=by omega
  first
   |(rw [decide_eq_true q'] at h5;exact absurd h5 (by decide))
   |(simp at h5;omega)
 cases hwl with
 |cons w1 w2=>
  cases w2;cases w1 with
  |list ho hall=>exact ⟨_,_,ns,rfl,rfl,ho,jD ns _ hall,hlen⟩
def vK (l:OpenLaw)(args:List WData):l.row.toRowW.claim.post args (.bool true) args=true:=
 postW_of (r:=l.row.toRowW) (X:=(true==true))
  (show WShape.has [] (.bool true) .bool=true by first|rfl|decide|simp [WShape.has,WShape.arms,WShape.armsAll])
  (show (WTm.eq .res (.lit (.bool true))).value [] { args:=args,res:=some (.bool true),after:=args }=some (.bool (true==true)) from w_eq_bool (w_res rfl) w_lit) rfl
def attach_call {l:OpenLaw}{n:Nat}(hn:l.most=some n)(hdf:d.params.defaults=[])(call:∀ (w:World) (s₀ s₁:Shared) (mg mb:Str->Option Value) (fa:Addr) (o:Obj) (pm cd doc:Value) (a:Addr) (vs:List Value) (ns:List Int),
   Ground q loose [] XP w s₀ mg mb s₁.heap->YP w s₁.heap ->
   s₁.heap.get? fa=some o->o.data=.func (docDef d.name d.params d.body d.scope pm cd doc)->s₁.heap.CodeRec cd d.name->mg d.name=some (.ref fa) ->
   s₁.heap.get? a=some { cls:=.type "list",data:=.seq vs.toArray }->IntsAre vs ns->ns.length<=n->s₁.gens=#[] ->
   DR (model l.prog w) callerA (.call (.ref fa) ⟨[.ref a],[]⟩) (λr s'=>r=.ok (.ret (.bool true))/\OldK s₁.heap s'.heap/\s'.os=s₁.os/\AllBare s'.gens) s₁) :
  WalkO q loose XP YP l.row.toRowW d [] (λf vs=>PySem.call f vs):=by
 intro w s₀ s₁ mg mb G Y fa o pm cd doc dV kV ho hd hcd hD hmg hg args vals as hpre hlay hrd hwl hlo;obtain rfl:dV=.none:=Dflts.none hD hdf;obtain rfl:kV=.none:=Dflts.noKw hD;obtain ⟨a,vs,ns,rfl,rfl,hobj,hints,hlen⟩:=vB hn hpre hwl;refine enter_call (Ck (call w s₀ s₁ mg mb fa o pm cd doc a vs ns G Y ho (fd_plain hd) hcd hmg hobj hints hlen hg) λr s' hq=>?_);obtain ⟨rfl,h2,h3,h4⟩:=hq;exact ⟨.inl ⟨.bool true,.bool true,[],rfl,λ_=>rfl,.bool true,vK l _,λ_=>⟨List.Pairwise.nil,λ_ hm=>(nomatch hm)⟩⟩,h2,h3,h4⟩
section
variable {prog:Az}{w:World}{A:Around}{E:Value->Shared->Prop}{s:Shared}{K:Frag}
def noObjs (h:Heap):Heap:={ h with objs:=#[] }
def ledger (h:Heap)(L d:Addr):List (Addr×Obj):=(Be h.objs.size).filterMap λa=>if a=L\/a=d then none else (h.get? a).map λo=>(a,o)
end
end Att
namespace L2
open PySem PySem.Spec PyProof.Rows
theorem mE:∀ {vs:List Value} {ns:List Int},IntsAre vs ns->Vals (ns.map V.int) vs
 |_,_,.nil=>.nil
 |_,_,.cons n t h=>.cons ⟨t,rfl⟩ (mE h)
def Only (H:Hp):Prop:=∀ b,H b=none\/∃ o xs,H b=some (.frz o (.lst xs))
def aAq {P:Az}{w:World}{K:Aa}{mg mb:Str->Option Value}{CX:CXT}{k:Nat}{fa a:Addr}{fd:Bf}{x:Str}{sp:Sp}{s₁:Shared}{vs:List Value}{ns:List Int}
  (KX:K.In s₁.heap) (hns:s₁.heap.Ns An mg) (hb:s₁.heap.Ns builtinsNs mb) (hbb:∀ x:Str,x ≠ "__name__" -> mb x=Cd x) (hlim:s₁.heap.NoLimit) (hg:s₁.gens=#[])
  (ha:s₁.heap.get? a=some { cls:=.type "list",data:=.seq vs.toArray }) (hi:IntsAre vs ns) (hl:ns.length<=Ax) (hr:Room k callerA)
  (F:∀ base:Heap,K.In base->base.Ns An mg->FnOk P w K mg base CX k fa fd [x] sp) (hbind:∀ (s:Shared) (u:Value),BindsTo s fd ⟨[u],[]⟩ [(x,u)])
  (hsp:∀ H:Hp,Only H->SqL K H a (ns.map V.int)->sp [.ref a] H (λv _=>v=.bl true) λ_ _ _=>False)
  (hCX:∀ H e s',CX [] H s₁ (λ_ _ _=>False) e s'->False) :
  DR (model P w) callerA (.call (.ref fa) ⟨[.ref a],[]⟩) (λr s'=>r=.ok (.ret (.bool true))/\OldK s₁.heap s'.heap/\s'.os=s₁.os/\AllBare s'.gens) s₁:=by
 have rv:=mE hi;have lenV:=hi.length;have core:∀ H:Hp,Only H->SqL K H a (ns.map V.int)->HOk P w H s₁.heap->(∀ b,H b≠none->b=a)->(H a≠none->K.lookup a=none) ->
   DR (model P w) callerA (.call (.ref fa) ⟨[.ref a],[]⟩) (λr s'=>r=.ok (.ret (.bool true))/\OldK s₁.heap s'.heap/\s'.os=s₁.os/\AllBare s'.gens) s₁:=by
  intro H hO hS hok hA hK;have base_of:∀ {b:Addr} {o:Obj},s₁.heap.get? b=some o->H b=none->(hidT s₁.heap H).get? b=some o:=λe n=>aAw e n;have noA:∀ {b:Addr} {o:Obj} {es:Array DictEntry} {ep:Nat},s₁.heap.get? b=some o->o.data=.dict es ep->H b=none:=λ{b o es ep} e d=>by
   cases q:H b with
   |none=>rfl
   |some u=>
    have e':b=a:=hA b (by rw [q];simp);subst e';rw [ha] at e;cases e;have d':Data.seq vs.toArray _=Data.dict es ep:=d;cases d'
  have nsK:∀ {b:Addr} {m:Str->Option Value},s₁.heap.Ns b m->(hidT s₁.heap H).Ns b m:=λ{b m} ⟨o,es,ep,e,d,r⟩=>⟨o,es,ep,base_of e (noA e d),d,r⟩;have hKb:K.In (hidT s₁.heap H):=λb o e=>base_of (KX b o e) (by
   cases q:H b with
   |none=>rfl
   |some u=>
    have e':b=a:=hA b (by rw [q];simp);subst e';rw [hK (by rw [q];simp)] at e;cases e)
  have hM:Mod K mg (hidT s₁.heap H):=⟨hKb,nsK hns,⟨mb,nsK hb,hbb⟩,let ⟨mc,h1,h2⟩:=hlim;⟨mc,nsK h1,h2⟩⟩;have e0:Env0 P w K mg (hidT s₁.heap H) callerA [] s₁ H:=⟨rfl,hM,λb o e=>aD2 e,Nat.le_of_eq (xJ _ _),trivial,λb hb=>absurd (show b∈([]:List Addr) from hb) (by simp),hok,.of_eq hg⟩;refine Ck ((F _ hKb (nsK hns)).run callerA [] s₁ H ⟨[.ref a],[]⟩ [.ref a] [.ref a] _ _ hr e0 (hbind s₁ (.ref a)) (.cons rfl .nil) (hsp H hO hS)) λr s' h=>?_;cases r with
  |error e=>exact (hCX H e s' h).elim
  |ok fl=>
   cases fl with
   |next=>exact CH h
   |brk=>exact CH h
   |cont=>exact CH h
   |ret u=>
    obtain ⟨v,H',os,bare,un,hok',r',q⟩:=h;have q':v=.bl true:=q;subst q';obtain rfl:u=Value.bool true:=r';refine ⟨rfl,OldK.of_keep λb o e=>?_,os,bare⟩;cases q:H b with
    |none=>exact un.keep b o e q (by intro z;exact absurd (show b∈([]:List Addr) from z) (by simp)) (by simp)
    |some u=>
     rcases hO b with z|⟨ob,xs,z⟩
     ·rw [q] at z;cases z
     ·have z2:=un.frzs b ob _ z
      obtain ⟨e1,_⟩:=hok b _ z;obtain ⟨e2,_⟩:=hok' b _ z2;rw [e] at e1;cases e1;exact e2
 cases hk:K.lookup a with
 |some o=>
  have e:=KX a o hk;rw [ha] at e;cases e;refine core (λ_=>none) (λ_=>.inl rfl) (.inr ⟨_,vs.toArray,_,hk,rfl,rfl,rfl,by rw [Ai,lenV];exact hl,by simpa using rv⟩) (λb u z=>by have z':(none:Option HO)=some u:=z;cases z') (λb z=>absurd rfl z) λz=>absurd rfl z
 |none=>
  refine core (λb=>if b=a then some (.frz { cls:=.type "list",data:=.seq vs.toArray } (.lst (ns.map V.int))) else none) (λb=>?_) (.inl (.inr ⟨{ cls:=.type "list",data:=.seq vs.toArray },if_pos rfl⟩)) (λb u z=>?_) (λb z=>?_) λ_=>hk
  ·by_cases hb:b=a
   ·exact .inr ⟨_,_,if_pos hb⟩
   ·exact .inl (if_neg hb)
  ·by_cases hb:b=a
   ·have z':=(if_pos hb).symm.trans z
    cases z';subst hb;exact ⟨ha,by rw [Ag];exact hl,vs,_,rv,ha⟩
   ·have z':=(if_neg hb).symm.trans z
    cases z'
  ·by_cases hb:b=a
   ·exact hb
   ·exact absurd (if_neg hb) z
abbrev KOf {K:Aa}{h:Heap}(_:K.In h):Aa:=K
def walk_of {l:PySem.W.OpenLaw}{n k:Nat}{q:Az}{loose:List Str}{XP:(Str->Option Value)->Heap->Prop}{YP:World->Heap->Prop}{d:DefRec}{K:Params->Aa}{CX:World->CXT}{sp:World->Sp}{x:Str}
  (hn:l.most=some n) (hn2:n<=Ax) (hdf:d.params.defaults=[]) (hr:Room k callerA)
  (hY:∀ (w:World) (h:Heap),YP w h->(K w.params).In h)
  (F:∀ (w:World) (mg:Str->Option Value) (fa:Addr) (h:Heap),(K w.params).In h->h.Ns An mg->mg d.name=some (.ref fa) ->
   ∃ fd:Bf,(∀ (s:Shared) (u:Value),BindsTo s fd ⟨[u],[]⟩ [(x,u)]) /\
    ∀ base:Heap,(K w.params).In base->base.Ns An mg->FnOk l.prog w (K w.params) mg base (CX w) k fa fd [x] (sp w))
  (hsp:∀ (w:World) (H:Hp) (a:Addr) (ns:List Int),ns.length<=n->Only H->SqL (K w.params) H a (ns.map V.int)->sp w [.ref a] H (λv _=>v=.bl true) λ_ _ _=>False)
  (hCX:∀ (w:World) (H:Hp) (s:Shared) (e:Value) (s':Shared),CX w [] H s (λ_ _ _=>False) e s'->False) :
  PySem.W.WalkO q loose XP YP l.row.toRowW d [] (λf vs=>PySem.call f vs):=by
 refine Att.attach_call hn hdf λw s₀ s₁ mg mb fa o pm cd doc a vs ns G Y ho hd hcd hmg hobj hints hlen hg=>?_;have KX:=hY w _ Y;obtain ⟨fd,hb,hF⟩:=F w mg fa _ KX G.T.g hmg;exact aAq KX G.T.g G.T.b G.T.builtins G.T.nolimit hg hobj hints (Bh hlen hn2) hr hF hb (λH hO hS=>hsp w H a ns hlen hO hS) λH e s'=>hCX w H s₁ e s'
def inClass (s:Stmt)(j:Nat):Stmt:=match s with
 |.ClassDef _ _ _ body _ _ _ _ _ _ _=>body.getD j (.Pass ⟨0,0,0,0⟩)
 |_=>.Pass ⟨0,0,0,0⟩
def eC (s:Stmt):Arguments:=match s with
 |.FunctionDef _ a _ _ _ _ _ _ _ _=>a
 |_=>{ posonlyargs:=[],args:=[],vararg:=none,kwonlyargs:=[],kw_defaults:=[],kwarg:=none,defaults:=[] }
def dR (s:Stmt):List Stmt:=match s with
 |.FunctionDef _ _ b _ _ _ _ _ _ _=>b
 |_=>[]
def aI (s:Stmt):Scope:=match s with
 |.FunctionDef _ _ _ _ _ _ sc _ _ _=>sc
 |_=>{ kind:=.function,names:=[],isGenerator:=false,isCoroutine:=false }
abbrev CX0:CXT:=λ_ _ _ _ _ _=>False
abbrev E0:XK:=λ_ _ _=>False
def aQ :hJ CX0 X E0:=λ_ _ _ _ _ _ _ h=>h.elim
structure Fun (K:Aa)(x qual:Str)(st:Stmt)(f:Addr)(fd:Bf):Prop where
 ex:∃ (oc:Value) (od:Option Addr) (kV doc pm:Value) (an:Option Addr) (cdv ct:Value) (osl:Array (Option Value)),
  fd=Cm x qual (eC st) (dR st) (aI st) .none kV doc pm an cdv ct/\K.lookup f=some ⟨oc,od,.func fd,osl⟩/\DY K cdv qual=true
 kp:Cw K (.ref f)=true
section
variable {P:Az}{w:World}{K:Aa}{mg:Str->Option Value}{base:Heap}
def Fun.ok {x qual:Str}{st:Stmt}{f:Addr}{fd:Bf}{N ps:List Str}{k:Nat}{sp:Sp}(F:Fun K x qual st f fd)(S:FnScope N ps (aI st))(len:∀ vs H Q E,sp vs H Q E->vs.length=ps.length)
  (hbody:∀ (cdv:Value) (A:Around) (outer:List Env) (s:Shared) (H:Hp) (vs:List V) (Q:VK) (E:XK),Room k (A.deeper (envOfC qual (aI st) s.heap.objs.size f cdv))->sp vs H Q E ->
   ∃ t,PSs (cxOf CX0 P w K mg base N qual (aI st) f cdv A outer s H E).nox (dR st) t/\t { nx:=λ_ H'=>Q .non H',rt:=Q } (start N vs) H):FnOk P w K mg base CX0 (k+1) f fd ps sp:=by
 obtain ⟨oc,od,kV,doc,pm,an,cdv,ct,osl,rfl,lk,hcd⟩:=F.ex;refine aGt lk hcd S len λA outer s H vs Q E hr hsp=>?_;obtain ⟨t,h,q⟩:=hbody cdv A outer s H vs Q E hr hsp;exact ⟨t,h.nox,q⟩
def Fun.binds {x qual:Str}{st:Stmt}{f:Addr}{fd:Bf}{ps:List Str}(F:Fun K x qual st f fd)
  (h:∀ (kV doc pm:Value) (an:Option Addr) (cdv ct:Value) (us:List Value),us.length=ps.length->bindArgs (Cm x qual (eC st) (dR st) (aI st) .none kV doc pm an cdv ct) ⟨us,[]⟩=pure (ps.zip us)):Binds K fd ps []:=by
 obtain ⟨oc,od,kV,doc,pm,an,cdv,ct,osl,rfl,lk,hcd⟩:=F.ex;exact .all (h kV doc pm an cdv ct)
def jE {x qual:Str}{st:Stmt}{f:Addr}{oc:Value}{od an:Option Addr}{osl:Array (Option Value)}{kV doc pm cdv ct:Value}(l:K.lookup f=some ⟨oc,od,.func (Cm x qual (eC st) (dR st) (aI st) .none kV doc pm an cdv ct),osl⟩)
  (c:DY K cdv qual=true) (k:Cw K (.ref f)=true):Fun K x qual st f (Cm x qual (eC st) (dR st) (aI st) .none kV doc pm an cdv ct):=⟨⟨oc,od,kV,doc,pm,an,cdv,ct,osl,rfl,l,c⟩,k⟩
end
def jK {k:Nat}(hr:Room k A):A.units+1<cLine:=Dg (Nat.add_le_add_left (by decide:1<=64) _) hr.units
def bP {n:Nat}(h:n<=1000):n<Ax:=Dg h (by decide)
section
variable {X:Cx}
def pv (i:Nat)(hN:X.N[i]?=some x:=by rfl)(hv:Vis X.env.scope x:=by first|exact Or.inl rfl|exact Or.inr (Or.inl rfl)|exact Or.inr (Or.inr rfl))(hd:(x==("__debug__":Str))=false:=by decide)(hcd:(x==("__classdict__":Str))=false:=by decide):PE X (.Name x pos) (tVar i):=vS hN hv hd hcd
end
def iteF {A B:Prop}(h:B):if false=true then A else B:=by
 rw [if_neg AC];exact h
def iteT {A B:Prop}(h:A):if true=true then A else B:=by
 rw [if_pos rfl];exact h
def ite2 {c A B:Prop}[Decidable c](h1:c->A)(h2:¬ c->B):if c then A else B:=by
 by_cases h:c
 ·rw [if_pos h]
  exact h1 h
 ·rw [if_neg h]
  exact h2 h
def Same (H H':Hp):Prop:=∀ b o,H b=some o->H' b=some o
def Same.refl (H:Hp):Same H H:=λ_ _ h=>h
theorem Same.trans (a:Same H H1)(b:Same H1 H2):Same H H2:=λc o h=>b c o (a c o h)
def Same.seq {K:Aa}{H H':Hp}{a:Addr}{xs:List V}(e:Same H H')(h:SqL K H a xs):SqL K H' a xs:=by
 rcases h with (h|⟨o,h⟩)|h
 ·exact .inl (.inl (e _ _ h))
 ·exact .inl (.inr ⟨o,e _ _ h⟩)
 ·exact .inr h
end L2
namespace GM
def G (a b:Int):Int:=(Int.gcd a b:Int)
theorem aCc {a:Int}(h:0<=a):G a 0=a:=by
 unfold G;rw [Int.gcd_zero_right];omega
theorem aG5 (a b:Int):G b (a%b)=G a b:=by
 unfold G
 congr 1
 have e:a%b=a-b*(a/b):=by
  have:=Int.emod_add_mul_ediv a b;omega
 rw [e,Int.gcd_sub_mul_left_right,Int.gcd_comm]
def jJ {a b:Int}(h:0<b):0<G a b:=by
 unfold G;have:0<Int.gcd a b:=Int.gcd_pos_of_ne_zero_right a (by omega);omega
def gR (a b:Int):G a b∣a:=Int.gcd_dvd_left a b
def gQ (a b:Int):G a b∣b:=Int.gcd_dvd_right a b
def sJ {a b:Int}(h:0<b):G a b<=b:=Fg h (gQ a b)
structure Amt (t b:Int):Prop where
 t0:0<=t
 b1:1<=b
 g:G t b=1
def gN {t b:Int}(h0:0<=t)(h1:1<=b):Amt (t/G t b) (b/G t b):=by
 have gp:=jJ (a:=t) (b:=b) (by omega);refine ⟨DT h0 (by omega),Int.ediv_pos_of_pos_of_dvd (by omega) (by omega) (gQ t b),?_⟩;unfold G at *
 have:=Int.gcd_ediv_gcd_ediv_gcd (i:=t) (j:=b) (by omega);omega
def aGh (t b:Int):t/G t b*G t b=t:=DD (gR t b)
def aGg (t b:Int):b/G t b*G t b=b:=DD (gQ t b)
def xS {t b x:Int}(h:Amt t b)(d:b∣t*x):b∣x:=by
 have g1:Int.gcd b t=1:=by have:=h.g;unfold G at this;rw [Int.gcd_comm];omega
 have:=Int.dvd_gcd_mul_iff_dvd_mul.mpr d;rw [g1] at this
 simpa using this
def uC {t b t' b':Int}(h:Amt t b)(h':Amt t' b')(e:t*b'=t'*b):t=t'/\b=b':=by
 have d1:b∣b':=xS h ⟨t',by rw [e,BZ]⟩;have d2:b'∣b:=xS h' ⟨t,by rw [<- e,BZ]⟩;have p:=h.b1;have p':=h'.b1;have eb:b=b':=Int.dvd_antisymm (by omega) (by omega) d1 d2;subst eb;exact ⟨BF (by omega) e,rfl⟩
def gA (t b:Int):t/G t b*b=t*(b/G t b):=by
 have e1:=aGh t b;have e2:=aGg t b
 calc t/G t b*b=t/G t b*(b/G t b*G t b):=by rw [e2]
  _=t/G t b*G t b*(b/G t b):=by rw [BZ (b/G t b),Bp]
  _=t*(b/G t b):=by rw [e1]
def aEn {t:Int}(h:0<=t):Amt t 1:=by
 refine ⟨h,by omega,?_⟩;unfold G;rw [Int.gcd_one_right];rfl
def jV {t b x y:Int}(h0:0<=t)(h1:1<=b)(h:Amt x y)(e:x*b=t*y):t/G t b=x/\b/G t b=y:=by
 have a:=gN h0 h1;refine uC a h ?_;have c:=gA t b;have gp:=jJ (a:=t) (b:=b) (by omega);have e1:=aGh t b;have e2:=aGg t b;refine BF (a:=G t b) (by omega) ?_
 calc t/G t b*y*G t b=t/G t b*G t b*y:=by rw [Bp,BZ y,<- Bp]
  _=x*b:=by rw [e1,e]
  _=x*(b/G t b)*G t b:=by rw [Bp,e2]
end GM
namespace L2
open PySem PySem.Spec PyProof.Rows
inductive Isi (K:Aa)(H:Hp):V->String->Bool->Prop where
 |int_int {n}:Isi K H (.int n) "int" true
 |int_bool {n}:Isi K H (.int n) "bool" false
 |int_tuple {n}:Isi K H (.int n) "tuple" false
 |int_str {n}:Isi K H (.int n) "str" false
 |int_list {n}:Isi K H (.int n) "list" false
 |bl_int {b}:Isi K H (.bl b) "int" true
 |bl_bool {b}:Isi K H (.bl b) "bool" true
 |bl_tuple {b}:Isi K H (.bl b) "tuple" false
 |bl_str {b}:Isi K H (.bl b) "str" false
 |str_int {x}:Isi K H (.str x) "int" false
 |str_bool {x}:Isi K H (.str x) "bool" false
 |str_tuple {x}:Isi K H (.str x) "tuple" false
 |str_str {x}:Isi K H (.str x) "str" true
 |non_int:Isi K H .non "int" false
 |non_str:Isi K H .non "str" false
 |non_tuple:Isi K H .non "tuple" false
 |tup_tuple {a xs}:SqT K H a xs->Isi K H (.ref a) "tuple" true
 |tup_int {a xs}:SqT K H a xs->Isi K H (.ref a) "int" false
 |tup_str {a xs}:SqT K H a xs->Isi K H (.ref a) "str" false
 |tup_list {a xs}:SqT K H a xs->Isi K H (.ref a) "list" false
 |lst_tuple {a xs}:SqL K H a xs->Isi K H (.ref a) "tuple" false
 |lst_int {a xs}:SqL K H a xs->Isi K H (.ref a) "int" false
 |lst_str {a xs}:SqL K H a xs->Isi K H (.ref a) "str" false
 |lst_list {a xs}:SqL K H a xs->Isi K H (.ref a) "list" true
section
variable {X:Cx}
def eF:eU X (.builtin "isinstance") (λxs H Q=>∃ x T b,xs=[x,.ty T]/\Isi X.K H x T b/\Q (.bl b) H):=by
 intro pins s σ H xs us Q I r h;obtain ⟨x,T,b,rfl,hi,q⟩:=h;obtain ⟨u,w',rfl,rx,ry⟩:=vals2 r;cases ry;have f1:EP X pins σ Q (.bool b) s:=⟨.bl b,H,I,rfl,q⟩;have f2:EP X pins σ Q (.bool b) { s with toks:=s.toks+1 }:=⟨.bl b,H,I.tok _,rfl,q⟩;cases hi with
 |int_int=>obtain ⟨t,rfl⟩:=rx;exact IsiPair.int_int f1
 |int_bool=>obtain ⟨t,rfl⟩:=rx;exact IsiPair.int_bool f2
 |int_tuple=>obtain ⟨t,rfl⟩:=rx;exact IsiPair.int_tuple f2
 |int_str=>obtain ⟨t,rfl⟩:=rx;exact IsiPair.int_str f2
 |int_list=>obtain ⟨t,rfl⟩:=rx;exact IsiPair.int_list f2
 |bl_int=>cases rx;exact IsiPair.bool_int f1
 |bl_bool=>cases rx;exact IsiPair.bool_bool f1
 |bl_tuple=>cases rx;exact IsiPair.bool_tuple f2
 |bl_str=>cases rx;exact IsiPair.bool_str f2
 |str_int=>obtain ⟨t,rfl⟩:=rx;exact IsiPair.str_int f2
 |str_bool=>obtain ⟨t,rfl⟩:=rx;exact IsiPair.str_bool f2
 |str_tuple=>obtain ⟨t,rfl⟩:=rx;exact IsiPair.str_tuple f2
 |str_str=>obtain ⟨t,rfl⟩:=rx;exact IsiPair.str_str f1
 |non_int=>cases rx;exact IsiPair.NoneType_int f2
 |non_str=>cases rx;exact IsiPair.NoneType_str f2
 |non_tuple=>cases rx;exact IsiPair.NoneType_tuple f2
 |tup_tuple hq=>cases rx;obtain ⟨its,_,⟨o,e,c,_⟩,_⟩:=I.tuple hq;exact IsiPair.tuple_tuple e c f1
 |tup_int hq=>cases rx;obtain ⟨its,_,⟨o,e,c,_⟩,_⟩:=I.tuple hq;exact IsiPair.tuple_int e c f2
 |tup_str hq=>cases rx;obtain ⟨its,_,⟨o,e,c,_⟩,_⟩:=I.tuple hq;exact IsiPair.tuple_str e c f2
 |tup_list hq=>cases rx;obtain ⟨its,_,⟨o,e,c,_⟩,_⟩:=I.tuple hq;exact IsiPair.tuple_list e c f2
 |lst_tuple hq=>cases rx;obtain ⟨its,_,⟨o,n,e,c,_⟩,_⟩:=I.list hq;exact IsiPair.list_tuple e c f2
 |lst_int hq=>cases rx;obtain ⟨its,_,⟨o,n,e,c,_⟩,_⟩:=I.list hq;exact IsiPair.list_int e c f2
 |lst_str hq=>cases rx;obtain ⟨its,_,⟨o,n,e,c,_⟩,_⟩:=I.list hq;exact IsiPair.list_str e c f2
 |lst_list hq=>cases rx;obtain ⟨its,_,⟨o,n,e,c,_⟩,_⟩:=I.list hq;exact IsiPair.list_list e c f1
inductive DEq (K:Aa)(H:Hp):Nat->V->V->Bool->Prop where
 |flat {n x y}:eR x=true->eR y=true->DEq K H n x y (eqV x y)
 |same {n a}:DEq K H n (.ref a) (.ref a) true
 |tup {n a b xs ys} {e:Nat->Bool}:a≠b->SqT K H a xs->SqT K H b ys->(∀ (j:Nat) x y,xs[j]?=some x->ys[j]?=some y->DEq K H n x y (e j)) ->
   DEq K H (n+1) (.ref a) (.ref b) ((Be (min xs.length ys.length)).all e&&xs.length==ys.length)
 |lst {n a b xs ys} {e:Nat->Bool}:a≠b->SqL K H a xs->SqL K H b ys->(∀ (j:Nat) x y,xs[j]?=some x->ys[j]?=some y->DEq K H n x y (e j)) ->
   DEq K H (n+1) (.ref a) (.ref b) ((Be (min xs.length ys.length)).all e&&xs.length==ys.length)
def uK {σ:St}(I:Inv X pins σ H s)(hx:SqT X.K H a xs)(hy:SqT X.K H b ys)(hu:A.units<cLine)(hd:∀ (j:Nat) x y u v,xs[j]?=some x->ys[j]?=some y->RelV x u->RelV y v->Bm A.in1 s u v (e j)) :
  SeqAt.RcAt A s (.ref a) (.ref b) ((Be (min xs.length ys.length)).all e&&xs.length==ys.length):=by
 obtain ⟨its,r,tx,_⟩:=I.tuple hx;obtain ⟨its',r',ty,_⟩:=I.tuple hy;have l1:=r.length;have l2:=r'.length;have q:=SeqAt.RcAt.tuples (A:=A) (e:=e) tx ty hu (λj h1 h2=>?_)
 ·rw [Ai,Ai,<- l1,<- l2] at q
  exact q
 ·rw [Ai] at h1 h2
  obtain ⟨x,hxj⟩:∃ x,xs[j]?=some x:=⟨_,Ad (by omega)⟩;obtain ⟨y,hyj⟩:∃ y,ys[j]?=some y:=⟨_,Ad (by omega)⟩;obtain ⟨u1,hu1,ru1⟩:=r.get hxj;obtain ⟨u2,hu2,ru2⟩:=r'.get hyj;have e1:its.toArray[j]=u1:=by
   have:=(Ae.mp hu1).2
   simpa using this
  have e2:its'.toArray[j]=u2:=by
   have:=(Ae.mp hu2).2
   simpa using this
  rw [e1,e2];exact hd j x y u1 u2 hxj hyj ru1 ru2
def eB (p:PlainL h a its):h.IsList a its:=by
 obtain ⟨o,n,e,c,_,d⟩:=p;exact ⟨o,e,c,n,d⟩
def aD9 {σ:St}(I:Inv X pins σ H s)(hx:SqL X.K H a xs)(hy:SqL X.K H b ys)(hu:A.units<cLine)(hd:∀ (j:Nat) x y u v,xs[j]?=some x->ys[j]?=some y->RelV x u->RelV y v->Bm A.in1 s u v (e j)) :
  SeqAt.RcAt A s (.ref a) (.ref b) ((Be (min xs.length ys.length)).all e&&xs.length==ys.length):=by
 obtain ⟨its,r,tx,_⟩:=I.list hx;obtain ⟨its',r',ty,_⟩:=I.list hy;have l1:=r.length;have l2:=r'.length
 by_cases hl:xs.length=ys.length
 ·have q:=SeqAt.RcAt.lists (A:=A) (e:=e) (eB tx) (eB ty) (by rw [Ai,Ai];omega) hu (λj h1 h2=>?_)
  ·rw [Ai,<- l1] at q
   have e1:((Be (min xs.length ys.length)).all e&&xs.length==ys.length)=(Be xs.length).all e:=by
    rw [<- hl,Nat.min_self,beq_self_eq_true,Bool.and_true]
   rw [e1];exact q
  ·rw [Ai] at h1 h2
   obtain ⟨x,hxj⟩:∃ x,xs[j]?=some x:=⟨_,Ad (by omega)⟩;obtain ⟨y,hyj⟩:∃ y,ys[j]?=some y:=⟨_,Ad (by omega)⟩;obtain ⟨u1,hu1,ru1⟩:=r.get hxj;obtain ⟨u2,hu2,ru2⟩:=r'.get hyj;have e1:its.toArray[j]=u1:=by
    have:=(Ae.mp hu1).2
    simpa using this
   have e2:its'.toArray[j]=u2:=by
    have:=(Ae.mp hu2).2
    simpa using this
   rw [e1,e2];exact hd j x y u1 u2 hxj hyj ru1 ru2
 ·have q:=SeqAt.RcAt.lists_lengths (A:=A) (eB tx) (eB ty) (by rw [Ai,Ai,<- l1,<- l2,bne_iff_ne];exact hl) hu
  have e1:((Be (min xs.length ys.length)).all e&&xs.length==ys.length)=false:=by
   rw [beq_eq_false_iff_ne.mpr hl,Bool.and_false]
  rw [e1];exact q
theorem DEq.at {σ:St}(I:Inv X pins σ H s){n:Nat}{k:Bool}(d:DEq X.K H n x y k):∀ {A:Around} {u v:Value},A.units+n<cLine->RelV x u->RelV y v->Bm A s u v k:=by
 induction d with
 |flat fx fy=>intro A u v _ rx ry;exact aB2 rx ry fx fy
 |same=>intro A u v _ rx ry;cases rx;cases ry;exact Bm.same _
 |@tup n a b xs ys e hne hx hy hd ih=>
  intro A u v hu rx ry;cases rx;cases ry;exact Bm.of_refs hne (uK I hx hy (by omega) λj x y u v h1 h2 r1 r2=>ih j x y h1 h2 (by show A.units+1+n<cLine;omega) r1 r2)
 |@lst n a b xs ys e hne hx hy hd ih=>
  intro A u v hu rx ry;cases rx;cases ry;exact Bm.of_refs hne (aD9 I hx hy (by omega) λj x y u v h1 h2 r1 r2=>ih j x y h1 h2 (by show A.units+1+n<cLine;omega) r1 r2)
def rEqT (K:Aa):R2:=λx y H Q=>∃ a b xs ys,∃ e:Nat->Bool,x=.ref a/\y=.ref b/\SqT K H a xs/\SqT K H b ys/\(∀ (j:Nat) x y,xs[j]?=some x->ys[j]?=some y->DEq K H 40 x y (e j)) /\
 Q (.bl ((Be (min xs.length ys.length)).all e&&xs.length==ys.length)) H
def rNeT (K:Aa):R2:=λx y H Q=>∃ a b xs ys,∃ e:Nat->Bool,x=.ref a/\y=.ref b/\SqT K H a xs/\SqT K H b ys/\(∀ (j:Nat) x y,xs[j]?=some x->ys[j]?=some y->DEq K H 40 x y (e j)) /\
 Q (.bl (!((Be (min xs.length ys.length)).all e&&xs.length==ys.length))) H
def aBr (hu:X.A.units+64<cLine):OpR X (BN .Eq) (rEqT X.K):=by
 intro pins s σ H x y v u Q I rx ry h;obtain ⟨a,b,xs,ys,e,rfl,rfl,hx,hy,hd,q⟩:=h;cases rx;cases ry;exact uK I hx hy (by omega) (λj x y u v h1 h2 r1 r2=>(hd j x y h1 h2).at I (by show X.A.units+1+40<cLine;omega) r1 r2) X.prog X.w X.xe _ ⟨.bl _,H,I,rfl,q⟩
end
def gY {w:World}(I:Nat->Shared->Prop)(turn:∀ n s,I n s->wpAny (model prog w) A (pyNext it) (λr s₁=>match r with
   |none=>R (.ok .next) s₁
   |some v=>wpAny (model prog w) A (Fx target it v) (λ_ s₁'=>wpAny (model prog w) A (assign target env v) (λ_ s₂=>
     wpAny (model prog w) A (forIn ifs true λc r=>if r=true then do let ok <- isTrue c env (eval c env);pure (Dh ok) else pure (Dh r)) (λok s₃=>
      if ok=true then wpAny (model prog w) A (eval elt env) (λx s₄=>
       wpAny (model prog w) A (call (.builtin "list.append") [acc,x]) (λ_ s₅=>∃ m,m<n/\I m s₅) (λ_ _=>False) s₄) (λ_ _=>False) s₃
      else ∃ m,m<n/\I m s₃) (λ_ _=>False) s₂) (λ_ _=>False) s₁') (λ_ _=>False) s₁) (λ_ _=>False) s)(n:Nat)(h:I n s):DR (model prog w) A (.compLoop (.ListComp elt [⟨target,iter,ifs,0⟩] scope pos) 0 it acc env) R s:=by
 refine codeAny_loop rfl I (λn s hI=>?_) n h;show wpAny _ A ((compTurn (.ListComp elt [⟨target,iter,ifs,0⟩] scope pos) 0 it acc env).onRaise (λx=>do noteFrame x env;theTreesLotGoes x)) _ _ s;refine wpAny_noted ?_;rw [compTurn_list];refine Ab (Fo (Ab (BW (turn n s hI) (λr s₁ h₁=>?_) λ_ _ z=>z.elim)));cases r with
 |none=>exact Af h₁
 |some v=>
  refine Ab (BW h₁ (λ_ s₁' h₁'=>?_) λ_ _ z=>z.elim);refine Ab (BW h₁' (λ_ s₂ h₂=>Ab (BW h₂ (λok s₃ h₃=>?_) λ_ _ z=>z.elim)) λ_ _ z=>z.elim);cases ok with
  |false=>exact Af ⟨rfl,h₃⟩
  |true=>
   exact Ab (Ab (BW h₃ (λx s₄ h₄=>Ab (BW h₄ (λ_ s₅ h₅=>Af (Af ⟨rfl,h₅⟩)) λ_ _ z=>z.elim)) λ_ _ z=>z.elim))
def blk (X:Cx)(N':List Str)(scope:Scope)(cl:List (Str×Addr))(C:Addr)(s₀:Shared)(H₀:Hp)(ex:List Addr)(pn:List (Addr×Obj)):Cx where
 prog:=X.prog
 w:=X.w
 K:=X.K
 mg:=X.mg
 base:=X.base
 A:=X.A
 N:=N'
 s₀:=s₀
 H₀:=H₀
 env:=compEnvC scope cl C X.env
 outer:=X.stack
 stack:=X.stack
 ex:=ex
 fn:=λ_=>false
 calm:=X.calm
 pn:=pn
 xe:=λ_ _=>False
structure ClOk (X:Cx)(scope:Scope)(cl:List (Str×Addr)):Prop where
 run:closureFor scope X.env=pure cl
 sub:∀ x c,cl.lookup x=some c->X.env.cells.lookup x=some c
 has:∀ x,((relabel scope X.env).names.lookup x=some .cell\/(relabel scope X.env).names.lookup x=some .free)->∃ c,cl.lookup x=some c
structure BlkN (X:Cx)(N':List Str)(scope:Scope)(cl:List (Str×Addr))(σ σ':St):Prop where
 len:σ'.length=N'.length
 from':∀ (i:Nat) (x:Str) (v:V),N'[i]?=some x->σ'[i]?=some (some v)->∃ j:Nat,X.N[j]?=some x/\σ[j]?=some (some v)/\Vis X.env.scope x/\X.env.kindOf x≠some .local /\
  ((relabel scope X.env).names.lookup x=some .cell\/(relabel scope X.env).names.lookup x=some .free)
section
variable {X:Cx}{pins:List (Addr×Obj)}{σ σ':St}{H:Hp}{s:Shared}
def oG {t':Nat}(I:Inv X pins σ H s)(hkind:scope.kind=.function)(hcl:ClOk X scope cl)(hN:BlkN X N' scope cl σ σ')(hf:∀ b∈fp,FpOk X pins H b)(hfo:∀ b∈fp,b<s.heap.objs.size)(hns:h₁.Ns s.heap.objs.size (λ_=>none))(hk:∀ b o,s.heap.get? b=some o->h₁.get? b=some o) :
  Inv (blk X N' scope cl s.heap.objs.size s H fp (X.pn++pins)) [] σ' H { s with heap:=h₁,toks:=t' }:=by
 have hfs:∀ b,b∉(X.env.locals::X.fs)->b∉frs X.stack:=λb hb z=>hb (I.stkSub b z);refine ⟨⟨I.ok.mod,hkind,I.ok.glob,I.ok.blt,Ak _,?_,hcl.has,λ_ _ h=>absurd h (by intro z;cases z),I.ok.hd,I.ok.frames,.inl rfl,?_,I.bs,Bh I.ok.bsz I.sz,?_,?_,I.stack,I.stkFree⟩,
  rfl,I.bare,Un.kept hk,⟨_,hns,?_⟩,?_,I.hok.fresh (Ak _),λx c e=>I.freeC x c (hcl.sub x c e),?_,I.hok.kept hk,hN.len⟩
 ·intro x y c h1 h2
  exact I.ok.inj x y c (hcl.sub x c h1) (hcl.sub y c h2)
 ·intro b hb
  exact ⟨Aw (hfo b hb),λx c e=>(hf b hb).2.2.2.2.1 x c (hcl.sub x c e)⟩
 ·intro b o e hb
  rcases (hf b hb).2.2.2.1 with q|q
  ·exact I.ok.noex b o e q
  ·exact absurd (AR (Aq e) (Bh I.ok.bsz q)) (CB _)
 ·intro b hb
  refine hfs b λz=>?_
  rcases AE.mp z with z|z
  ·exact (hf b hb).2.1 z
  ·exact (hf b hb).2.2.1 z
 ·intro i x v h1 h2 _
  obtain ⟨j,hj,hσ,hv,hnl,hk'⟩:=hN.from' i x v h1 h2;obtain ⟨m,hn,hl⟩:=I.loc;obtain ⟨u,r,l⟩:=hl j x v hj hσ hv;refine ⟨u,r,.inr ⟨hk',?_⟩⟩;obtain ⟨c,hc⟩:=hcl.has x hk'
  rcases l with ⟨hloc,_⟩|⟨_,c',hc',hcell⟩
  ·exact absurd hloc hnl
  ·have e:=hcl.sub x c hc
   rw [hc'] at e;cases e;obtain ⟨o,ho,hd⟩:=hcell;exact ⟨_,hc,o,hk _ _ ho,hd⟩
 ·intro x c e
  obtain ⟨v,o,ho,hd⟩:=I.cell x c (hcl.sub x c e);exact ⟨v,o,hk _ _ ho,hd⟩
 ·intro p hp
  rw [show (blk X N' scope cl s.heap.objs.size s H fp (X.pn++pins)).pn=X.pn++pins from rfl,Cb] at hp;obtain ⟨a1,a2,a3,a4,a5⟩:=I.pin p hp;refine ⟨hk _ _ a1,a2,Aw (Aq a1),hfs _ λz=>?_,a5⟩
  rcases AE.mp z with z|z
  ·exact a3 z
  ·exact a4 z
def yO (I:Inv X pins σ H s)(hf:∀ b∈fp,FpOk X pins H b)(J:Inv (blk X N' scope cl s.heap.objs.size s H fp (X.pn++pins)) pl σ' H' s')(hs:Ci s.heap.objs.size s'.heap h''):Inv X pins σ H' { s' with heap:=h'' }:=by
 have hne:∀ b o,s.heap.get? b=some o->b≠s.heap.objs.size:=λb o e=>Aw (Aq e);have hC:H' s.heap.objs.size=none:=J.free;have ub:Un (frs X.stack) fp H H' s.heap s'.heap:=J.base;have u:Un (frs X.stack) fp H H' s.heap h'':={
  keep:=λb o e n hb hx=>hs.extBut b o (hne b o e) (ub.keep b o e n hb hx)
  slot:=λb o e n hb hx=>by
   obtain ⟨sl,q⟩:=ub.slot b o e n hb hx;exact ⟨sl,hs.extBut b _ (hne b o e) q⟩
  free:=ub.free
  there:=λb o e hx=>by
   obtain ⟨o',q⟩:=ub.there b o e hx;exact ⟨o',hs.extBut b _ (hne b o e) q⟩
  tups:=ub.tups
  frzs:=ub.frzs
  tbls:=ub.tbls }
 have hok:HOk X.prog X.w H' h'':=λa o e=>(J.hok a o e).stay (λb ob hb q=>hs.extBut b ob (λz=>by
  rw [z] at hb
  rcases hb with hb|hb
  ·rw [<- hb,hC] at e;cases e
  ·rw [hC] at hb;cases hb) q) (λ_ h=>h) (λ_ _ h=>h)
 exact I.call' (s':={ s' with heap:=h'' }) J.os u hok J.bare λb hb=>by
  obtain ⟨f0,f1,f2,f3,f4,f5⟩:=hf b hb;exact ⟨f3,f1,f4,f5⟩
end
def PIfs (X:Cx)(ifs:List Expr)(t:TT):Prop:=
 ∀ (pins:List (Addr×Obj)) (s:Shared) (σ:St) (H:Hp) (Q:Bool->Hp->Prop),Inv X pins σ H s->t σ H Q ->
  wpAny (model X.prog X.w) X.A (forIn ifs true λc r=>if r=true then do let ok <- isTrue c X.env (eval c X.env);pure (Dh ok) else pure (Dh r)) (TP X pins σ Q) X.xe s
def zA:TT:=λ_ H Q=>Q true H
def fW :PIfs X [] zA:=λ_ _ _ H _ I h=>wpAny_tests_nil ⟨H,I,h⟩
def zN (h:PT X c t):PIfs X [c] t:=λpins s σ H Q I hw=>wpAny_tests_one (h pins s σ H Q I hw)
structure Keep (σa σb:St):Prop where
 len:σb.length=σa.length
 at':∀ (i:Nat) (v:V),σa[i]?=some (some v)->σb[i]?=some (some v)
def Keep.refl (σ:St):Keep σ σ:=⟨rfl,λ_ _ h=>h⟩
theorem Keep.set {σa σb:St}{i:Nat}(k:Keep σa σb)(h:σa[i]?=some none):Keep σa (σb.set i (some v)):=by
 refine ⟨by rw [CT];exact k.len,λj u e=>?_⟩;have hj:i≠j:=by
  rintro rfl
  rw [h] at e;cases e
 rw [BU hj];exact k.at' j u e
def aCl (σf:St->St)(wi:TI)(g:TG)(tt:TT)(te:TE):TE:=λσ H Q=>wi σ H λJ H1=>∀ D,H1 D=none->∃ W:Nat->Nat->List V->Hp->Prop,(∃ m,W 0 m [] (upd H1 D (.lst []))) /\
 ∀ i m ys H,W i m ys H->H D=some (.lst ys)/\ys.length<Ax /\
  ((J.stop i H/\Q (.ref D) H)\/(J.go i H/\∀ x H',J.yld i H x H'->g x (σf σ) H' λσ2 H2=>Keep (σf σ) σ2/\tt σ2 H2 λb H3=>
   if b=true then te σ2 H3 λy H4=>H4 D=some (.lst ys)/\∃ m',m'<m/\W (i+1) m' (ys++[y]) (upd H4 D (.lst (ys++[y]))) else ∃ m',m'<m/\W (i+1) m' ys H3))
def vW (σf:St->St)(hc:X.calm=true)(hkind:scope.kind=.function)(hcell:∀ y∈scope.names,y.2≠.cell)(hnames:∀ y∈scope.names,y.2=.local->scope.names.lookup y.1=some .local)(hcl:ClOk X scope cl)(hN:∀ σ:St,σ.length=X.N.length->BlkN X N' scope cl σ (σf σ))(hi:PI X tg iter wi)(hg:∀ C s₀ H₀ ex pn,PG (blk X N' scope cl C s₀ H₀ ex pn) tg g)(ht:∀ C s₀ H₀ ex pn,PIfs (blk X N' scope cl C s₀ H₀ ex pn) ifs tt)(he:∀ C s₀ H₀ ex pn,PE (blk X N' scope cl C s₀ H₀ ex pn) elt te)(hs:∀ x,foldedSetIterable iter X.env x=pure x:=by intro _;rfl):PE X (.ListComp elt [⟨tg,iter,ifs,0⟩] scope pos) (aCl σf wi g tt te):=by
 intro pins s σ H Q I h;rw [eval_ListComp];refine wpAny_comprehension_free (use:=none) rfl hs hcl.run hkind hnames (thn (hi pins s σ H _ I h) λv s1 h1=>thn h1 λitv s2 h2=>?_);obtain ⟨it,fp,tn,J,H2,rfl,I2,T,st2,f2,q⟩:=h2;refine AZ (wpAny_newFunctionEnv hcell (by intro y hy;simp at hy) (λh₁ hns₁ hsb₁=>?_) hkind);dsimp only at hns₁ hsb₁ ⊢;have hfo:∀ b∈fp,b<s2.heap.objs.size:=λb hb=>by
  obtain ⟨o,e,_⟩:=T.obj _ _ st2 b hb;exact Aq e
 have hDf:H2 s2.heap.objs.size=none:=I2.hok.fresh (Ak _);obtain ⟨W,⟨m0,w0⟩,turn⟩:=q s2.heap.objs.size hDf;have I3:Inv X pins σ (upd H2 s2.heap.objs.size (.lst [])) { s2 with heap:=s2.heap.push { cls:=.type "list",data:=.seq ([]:List Value).toArray } }:=I2.lnew (its:=[]) (t':=s2.toks) .nil (BK _);have f3:∀ b∈fp,FpOk X pins (upd H2 s2.heap.objs.size (.lst [])) b:=λb hb=>⟨by rw [aH (Aw (hfo b hb))];exact (f2 b hb).1,(f2 b hb).2⟩;generalize hD:s2.heap.objs.size=D at *
 generalize hs3:({ s2 with heap:=s2.heap.push { cls:=.type "list",data:=.seq ([]:List Value).toArray } }:Shared)=s3 at *
 have hh3:s3.heap=s2.heap.push { cls:=.type "list",data:=.seq ([]:List Value).toArray }:=by rw [<- hs3]
 have hsz3:s2.heap.objs.size<s3.heap.objs.size:=by rw [hh3,BJ];exact Cn _
 have e3:∀ h t,({ s2 with heap:=h,toks:=t }:Shared)={ s3 with heap:=h,toks:=t }:=λh t=>by rw [<- hs3]
 rw [<- hh3] at hns₁ hsb₁ ⊢;have hk3:∀ b o,s3.heap.get? b=some o->h₁.get? b=some o:=λb o e=>hsb₁.extBut b o (Aw (Aq e)) (Ac _ e);have I4:=oG (t':=s3.toks) I3 hkind hcl (hN σ I.len) f3 (λb hb=>CG (hfo b hb) (hD▸hsz3)) (hns:=by simpa using hns₁) hk3;generalize hB:blk X N' scope cl s3.heap.objs.size s3 (upd H2 D (.lst [])) fp (X.pn++pins)=B at *
 have hBp:B.prog=X.prog:=by rw [<- hB];rfl
 have hBw:B.w=X.w:=by rw [<- hB];rfl
 have hBK:B.K=X.K:=by rw [<- hB];rfl
 have hBA:B.A=X.A:=by rw [<- hB];rfl
 have hBc:B.calm=true:=by rw [<- hB];exact hc
 have hBe:B.env=compEnvC scope cl s3.heap.objs.size X.env:=by rw [<- hB];rfl
 have hBx:B.xe=λ_ _=>False:=by rw [<- hB];rfl
 have hGB:PG B tg g:=hB▸hg _ _ _ _ _;have hTB:PIfs B ifs tt:=hB▸ht _ _ _ _ _;have hEB:PE B elt te:=hB▸he _ _ _ _ _;have stat:∀ {H':Hp},(∀ b∈fp,H' b=none)->∀ b∈fp,FpOk B [] H' b:=λ{H'} hn b hb=>by
  obtain ⟨f0,f1,f2',f3',f4,f5⟩:=f3 b hb;rw [<- hB];refine ⟨hn b hb,Aw (CG (hfo b hb) (hD▸hsz3)),λz=>?_,.inl hb,λx c e=>f4 x c (hcl.sub x c e),λp hp=>?_⟩
  ·rcases AE.mp (I.stkSub b z) with z|z
   ·exact f1 z
   ·exact f2' z
  ·rw [show (blk X N' scope cl s3.heap.objs.size s3 (upd H2 D (.lst [])) fp (X.pn++pins)).pn=X.pn++pins from rfl,Cb] at hp
   exact f5 p hp
 have loop:∀ s4:Shared,Inv B [] (σf σ) (upd H2 D (.lst [])) s4->tn 0 s4.heap ->
   DR (model X.prog X.w) X.A (.compLoop (.ListComp elt [⟨tg,iter,ifs,0⟩] scope pos) 0 (.ref it) (.ref D) (compEnvC scope cl s3.heap.objs.size X.env)) (compPost (model X.prog X.w) X.A X.xe none (EP X pins σ Q) (.ref D) s3.heap.objs.size) s4:=by
  intro s4 I4 st4;refine gY (I:=λn s'=>∃ i ys H',Inv B [] (σf σ) H' s'/\tn i s'.heap/\(∀ b∈fp,H' b=none)/\W i n ys H') ?_ m0 ⟨0,[],_,I4,st4,λb hb=>(f3 b hb).1,w0⟩
  rintro n s5 ⟨i,ys,H5,I5,st5,fr5,w5⟩
  obtain ⟨hD5,hlen5,alt⟩:=turn i n ys H5 w5
  rcases alt with ⟨stop,qn⟩|⟨go,step⟩
  ·have z:=T.done B hBp hBw hBK hBc i [] s5 (σf σ) H5 (λ_ _=>False) I5 (stat fr5) st5 stop
   rw [hBA] at z;refine thn z λr s6 ⟨hr,I6⟩=>?_;subst hr;obtain ⟨m6,hn6,_⟩:=I6.loc;rw [hBe] at hn6;refine ⟨m6,hn6,λh' hs'=>?_⟩;subst hB;exact ⟨.ref D,H5,yO I3 f3 I6 hs',rfl,qn⟩
  ·have z:=T.item B hBp hBw hBK hBc i [] s5 (σf σ) H5 (λ_ _=>False) I5 (stat fr5) st5 go
   rw [hBA] at z;refine thn z λr s6 ⟨u,hr,h6⟩=>?_;subst hr;refine thn h6 λ_ s7 ⟨x,H7,I7,r7,y7,st7,fr7⟩=>?_;have I7':=I7.pinned (stat fr7) (T.obj _ _ st7);have z8:=hGB _ s7 (σf σ) H7 x u _ I7' r7 (step x H7 y7);rw [hBp,hBw,hBA,hBe,hBx] at z8;refine thn z8 λ_ s8 ⟨σ8,H8,I8,k8,q8⟩=>?_;have z9:=hTB _ s8 σ8 H8 _ I8 q8;rw [hBp,hBw,hBA,hBe,hBx] at z9;refine thn z9 λok s9 ⟨H9,I9,q9⟩=>?_;have again:∀ {ys':List V} {H':Hp} {s':Shared},Inv B ([]++jQ fp s7.heap) σ8 H' s'->(∃ m',m'<n/\W (i+1) m' ys' H')->∃ m,m<n/\∃ i ys H',Inv B [] (σf σ) H' s'/\tn i s'.heap/\(∀ b∈fp,H' b=none)/\W i m ys H':=λ{ys' H' s'} J ⟨m',hm,w'⟩=>by
    refine ⟨m',hm,i+1,ys',H',J.unpinned.weak k8.len.symm k8.at',T.keep _ _ _ st7 λb hb o e=>(J.pin (b,o) (AM _ (AM _ (dX hb e)))).1,λb hb=>?_,w'⟩;obtain ⟨o,e,d⟩:=T.obj _ _ st7 b hb;exact (J.pin (b,o) (AM _ (AM _ (dX hb e)))).2.1
   cases ok with
   |false=>exact again I9 q9
   |true=>
    have z10:=hEB _ s9 σ8 H9 _ I9 q9;rw [hBp,hBw,hBA,hBe,hBx] at z10;refine thn z10 λy10 s10 ⟨y,H10,I10,r10,hD10,q10⟩=>?_;have z11:=bY (X:=B) _ s10 σ8 H10 (.ref D) [y] (.ref D) [y10] (λ_ H'=>∃ m',m'<n/\W (i+1) m' (ys++[y]) H') I10 rfl (.cons r10 .nil) ⟨D,ys,y,rfl,rfl,hD10,hlen5,q10⟩;rw [hBp,hBw,hBA,hBx] at z11;refine thn z11 λ_ s11 ⟨_,H11,I11,_,q11⟩=>again I11 q11
 have st4:tn 0 ({ s3 with heap:=h₁,toks:=s3.toks }:Shared).heap:=T.keep _ _ _ st2 λb hb o e=>hk3 b o (by rw [hh3];exact Ac _ e);have L4:=loop _ I4 st4;subst hs3;exact codeAny_compStart_list L4 (T.self _ 0 _ _ _ st4 L4)
def Bt (n:Nat)(x:Int):Prop:=x.natAbs<2^n
def Bt.bits {n:Nat}{x:Int}(h:Bt n x):AH.Int.intBits x<=n:=intBits_le_iff.mpr h
def Bt.of_bits {n:Nat}{x:Int}(h:AH.Int.intBits x<=n):Bt n x:=intBits_le_iff.mp h
def Bt.mono {m n:Nat}{x:Int}(h:Bt m x)(hn:m<=n):Bt n x:=AR h (Nat.pow_le_pow_right (by decide) hn)
def Bt.mul {m n:Nat}{x y:Int}(h:Bt m x)(h':Bt n y):Bt (m+n) (x*y):=.of_bits (intBits_mul_le h.bits h'.bits)
def Bt.add {m:Nat}{x y:Int}(h:Bt m x)(h':Bt m y):Bt (m+1) (x+y):=.of_bits (by have:=intBits_add_le h.bits h'.bits;rwa [Nat.max_self] at this)
def Bt.le {m:Nat}{x y:Int}(h:Bt m y)(h0:0<=x)(hy:x<=y):Bt m x:=by
 unfold Bt at *
 omega
def aGi {n:Nat}{x:Int}(h:Bt n x)(hp:0<x)(hn:n<=9000):x.natAbs.log2<9000:=by
 have:x.natAbs.log2<n:=(Nat.log2_lt (by omega)).mpr h;omega
def aIo (i j:Int):Prop:=Bt 1000000 i/\Bt 1000000 j
def aIp (_i j:Int):Prop:=0<j/\Bt 9000 j
def aIn (i j:Int):Prop:=0<=j/\j<=1000/\Bt 1000 i
section
variable {X:Cx}
def bL:OpR X (Ei .Mult) (rI aIo λi j=>.int (i*j)):=opI λ_ _ _ _ _ _ _ hc q=>mul_int q (.of_bits (Bh hc.1.bits (by decide)) (Bh hc.2.bits (by decide)))
def aX:OpR X (Ei .FloorDiv) (rI aIp λi j=>.int (i/j)):=opI λi j _ _ _ _ _ hc q=>by
 have h1:(0:Int)<j:=hc.1;rw [<- Int.fdiv_eq_ediv_of_nonneg i (Er h1)] at q;exact floordiv_int (by omega) q (.inl (PyProof.noPylong_of_log2 (aGi hc.2 h1 (Ak _))))
def lG:OpR X (Ei .Pow) (rI aIn λi j=>.int (i^j.toNat)):=opI λi j _ _ _ _ _ hc q=>by
 obtain ⟨h0,h1,h2⟩:=hc;refine PyProof.Rows.pow_int h0 ?_ q;have b:=h2.bits;have e:(2:Int)^27=134217728:=by decide
 have:=ER (show (AH.Int.intBits i:Int)<=1000 by omega) h1 h0 (by decide);omega
def rV {K:Aa}{H:Hp}{n:Nat}(ns ms:List Int):∀ (j:Nat) x y,(ns.map V.int)[j]?=some x->(ms.map V.int)[j]?=some y->DEq K H n x y (ns[j]?==ms[j]?):=by
 intro j x y h1 h2;rw [As] at h1 h2;cases e1:ns[j]? with
 |none=>rw [e1] at h1;cases h1
 |some a=>
  cases e2:ms[j]? with
  |none=>rw [e2] at h2;cases h2
  |some b=>
   rw [e1] at h1;rw [e2] at h2;cases h1;cases h2;have:(some a==some b)=eqV (V.int a) (V.int b):=by
    show (a==b)=(a==b);rfl
   rw [this];exact DEq.flat rfl rfl
theorem all_ints:∀ (ns ms:List Int),((Be (min ns.length ms.length)).all (λj=>ns[j]?==ms[j]?)&&ns.length==ms.length)=decide (ns=ms):=by
 intro ns ms;rw [DQ];simp only [Ce,CJ,Dj,beq_iff_eq,decide_eq_true_eq];constructor
 ·rintro ⟨h,hl⟩
  refine List.ext_getElem? λi=>?_
  by_cases hi:i<ns.length
  ·exact h i (by omega)
  ·rw [Bu (by omega),Bu (by omega)]
 ·rintro rfl
  exact ⟨λ_ _=>rfl,rfl⟩
def rEqI (K:Aa):R2:=λx y H Q=>∃ a b,∃ ns ms:List Int,x=.ref a/\y=.ref b/\SqT K H a (ns.map V.int)/\SqT K H b (ms.map V.int)/\Q (.bl (decide (ns=ms))) H
def rNeI (K:Aa):R2:=λx y H Q=>∃ a b,∃ ns ms:List Int,x=.ref a/\y=.ref b/\SqT K H a (ns.map V.int)/\SqT K H b (ms.map V.int)/\Q (.bl (!decide (ns=ms))) H
def aBs (hu:X.A.units+64<cLine):OpR X (BN .Eq) (rEqI X.K):=by
 intro pins s σ H x y v u Q I rx ry h;obtain ⟨a,b,ns,ms,rfl,rfl,hx,hy,q⟩:=h;refine aBr hu pins s σ H _ _ v u Q I rx ry ⟨a,b,_,_,λj=>ns[j]?==ms[j]?,rfl,rfl,hx,hy,rV ns ms,?_⟩;rw [Ag,Ag,all_ints];exact q
def aGa {σ:St}(I:Inv X pins σ H s)(hx:SqT X.K H a xs)(hy:SqT X.K H b ys)(hu:A.units<cLine)(hd:∀ (j:Nat) x y u v,xs[j]?=some x->ys[j]?=some y->RelV x u->RelV y v->Bm A.in1 s u v (e j)) :
  SeqAt.RcNeAt A s (.ref a) (.ref b) (!((Be (min xs.length ys.length)).all e&&xs.length==ys.length)):=by
 obtain ⟨its,r,tx,_⟩:=I.tuple hx;obtain ⟨its',r',ty,_⟩:=I.tuple hy;have l1:=r.length;have l2:=r'.length;have q:=SeqAt.RcNeAt.tuples (A:=A) (e:=e) tx ty hu (λj h1 h2=>?_)
 ·rw [Ai,Ai,<- l1,<- l2] at q
  exact q
 ·rw [Ai] at h1 h2
  obtain ⟨x,hxj⟩:∃ x,xs[j]?=some x:=⟨_,Ad (by omega)⟩;obtain ⟨y,hyj⟩:∃ y,ys[j]?=some y:=⟨_,Ad (by omega)⟩;obtain ⟨u1,hu1,ru1⟩:=r.get hxj;obtain ⟨u2,hu2,ru2⟩:=r'.get hyj;have e1:its.toArray[j]=u1:=by
   have:=(Ae.mp hu1).2
   simpa using this
  have e2:its'.toArray[j]=u2:=by
   have:=(Ae.mp hu2).2
   simpa using this
  rw [e1,e2];exact hd j x y u1 u2 hxj hyj ru1 ru2
def aFy (hu:X.A.units+64<cLine):OpR X (BN .NotEq) (rNeT X.K):=by
 intro pins s σ H x y v u Q I rx ry h;obtain ⟨a,b,xs,ys,e,rfl,rfl,hx,hy,hd,q⟩:=h;cases rx;cases ry;exact aGa I hx hy (by omega) (λj x y u v h1 h2 r1 r2=>(hd j x y h1 h2).at I (by show X.A.units+1+40<cLine;omega) r1 r2) X.prog X.w X.xe _ ⟨.bl _,H,I,rfl,q⟩
def vZ (hu:X.A.units+64<cLine):OpR X (BN .NotEq) (rNeI X.K):=by
 intro pins s σ H x y v u Q I rx ry h;obtain ⟨a,b,ns,ms,rfl,rfl,hx,hy,q⟩:=h;refine aFy hu pins s σ H _ _ v u Q I rx ry ⟨a,b,_,_,λj=>ns[j]?==ms[j]?,rfl,rfl,hx,hy,rV ns ms,?_⟩;rw [Ag,Ag,all_ints];exact q
end
section
variable {X:Cx}
def tIt (K:Aa)(i k:Nat):TE:=λσ H Q=>∃ p xs v,σ[i]?=some (some (.ref p))/\SqT K H p xs/\xs[k]?=some v/\Q v H
def pit (i k:Nat){p q:Pos}{j:Nat}(hN:X.N[i]?=some x:=by rfl)(hv:Vis X.env.scope x:=by first|exact Or.inl rfl|exact Or.inr (Or.inl rfl)|exact Or.inr (Or.inr rfl))(hd:(x==("__debug__":Str))=false:=by decide)(hcd:(x==("__classdict__":Str))=false:=by decide):PE X (.Subscript (.Name x p) (.Constant (.int (k:Int)) j q) pos) (tIt X.K i k):=by
 intro pins s σ H Q I h;obtain ⟨a,xs,v,e,hs,hk,q⟩:=h;exact bH dW (vS hN hv hd hcd) aE (λ_ _=>rfl) pins s σ H Q I ⟨_,e,a,xs,(k:Int),v,rfl,rfl,hs,bD hk,q⟩
structure Cal (P:Az)(w:World)(K:Aa)(mg:Str->Option Value)(base:Heap)(CX:CXT)(k:Nat)(x:Str)(ps:List Str)(sp:Sp):Prop where
 ex:∃ (f:Addr) (fd:Bf),mg x=some (.ref f)/\Cw K (.ref f)=true/\Binds K fd ps []/\FnOk P w K mg base CX k f fd ps sp
def aJ {k:Nat}{p pos:Pos}(C:Cal X.prog X.w X.K X.mg X.base CX k x ps sp)(hr:Room k X.A)(hg:Gl X x)(hx:hJ CX X E)(ha:PA X (e::es) t)(hdb:(x==("__debug__":Str))=false:=by decide)(he:AU (e::es) X.env=(false,eval e X.env)::AU es X.env:=by rfl)(hpl:(backTo pos (AU es X.env)).any (·.1)=false:=by rfl) :
  PE X (.Call (.Name x p) (e::es) [] pos) (aCm sp [] E t):=by
 obtain ⟨f,fd,hm,hk,hb,F⟩:=C.ex;exact aDg F hr hg hm hk hb .nil hx ha hdb he hpl
def Cal.mono {P:Az}{w:World}{K:Aa}{mg:Str->Option Value}{base:Heap}{CX:CXT}{j k:Nat}{x:Str}{ps:List Str}{sp:Sp}(C:Cal P w K mg base CX j x ps sp)(h:j<=k):Cal P w K mg base CX k x ps sp:=by
 obtain ⟨f,fd,hm,hk,hb,F⟩:=C.ex;exact ⟨f,fd,hm,hk,hb,F.mono h⟩
end
def Same.tup {K:Aa}{H H':Hp}{a:Addr}{xs:List V}(e:Same H H')(h:SqT K H a xs):SqT K H' a xs:=by
 rcases h with (h|⟨o,h⟩)|h
 ·exact .inl (.inl (e _ _ h))
 ·exact .inl (.inr ⟨o,e _ _ h⟩)
 ·exact .inr h
theorem Same.upd (h:H a=none):Same H (upd H a o):=λb u e=>by
 rw [aH (bE e h)];exact e
def RetT (H:Hp)(Q:VK)(ns:List Int):Prop:=∀ p H',Same H H'->H' p=some (.tup (ns.map V.int))->Q (.ref p) H'
end L2
namespace L2
open PySem PySem.Spec PyProof.Rows PySem.W
structure ExK (K:Frag)(C:Addr):Prop where
 ga:findIn K (.ref C) "__getattribute__" = some (some (.builtin "BaseException.__getattribute__"))
 gt:findIn K (.ref C) "__getattr__" = some none
 cl:findIn K (.ref C) "__class__" = some (some (.builtin "object.__class__"))
 sb:subIn K (.ref C) (.type "BaseException")=some true
 so:subIn K (.ref C) (.type "object")=some true
 ci:(clsIn K C).isSome=true
structure ExAt (h:Heap)(a:Addr)(o:Obj)(C:Addr):Prop where
 at_:h.get? a=some o
 cls:o.cls=.ref C
def ExAt.type (I:ExAt h a o C):Looks M h (typeOf (.ref a)) (.ref C):=by
 rw [<- I.cls];exact (Looks.ld I.at_).andThen .now
section
variable {prog:Az}{w:World}{A:Around}{E:Value->Shared->Prop}{h:Heap}{g:Array GenState}{d:Drawn}{t:Nat}{os:OsState}{a C:Addr}{o:Obj}{K:Frag}
def lS (X:K.In h)(F:ExK K C)(I:ExAt h a o C)(hq:R (.ok (.ret (.ref C))) ⟨h,g,d,t,os⟩) :
  DR (model prog w) A (.call (.builtin "getset_descriptor.__get__") ⟨[.builtin "object.__class__",.ref a,.ref C],[]⟩) R ⟨h,g,d,t,os⟩:=by
 have hT5:(⟨h,g,d,t,os⟩:Shared).TypeIs (.builtin "object.__class__") "getset_descriptor":=Fb;have hx:=I.at_;have hc:=I.cls;have L1:=looks_subIn (M:=model prog w) X F.so;rw [<- PySem.F.owner_object_class] at L1;refine Cv PySem.F.slot_gs_get.plain PySem.F.entry_gs_get (PySem.F.slot_gs_get.check _ _ _ _ _ _ _ _ hT5 (PySem.F.args_gs_get _ _ _) ?_)
 repeat (any_goals (first|assumption|(with_reducible refine Bi hx ?_;rw [hc])|with_reducible refine L1.at ?_|wp_step))
 refine ⟨DJ _ (by decide +kernel),Cr PySem.F.entry_object_class ?_⟩
 repeat (any_goals (first|assumption|(with_reducible refine Bi hx ?_;rw [hc])|wp_step))
def jF {tk:Tok}(X:K.In h)(F:ExK K C)(I:ExAt h a o C)(hq:Q (.done (.ret (.ref C))) ⟨h,g,d,t,os⟩) :
  wpAny (model prog w) A (AH.«object.__getattribute__» ⟨[.ref a,.str "__class__" tk],[]⟩) Q E ⟨h,g,d,t,os⟩:=by
 have L1:=looks_findIn (M:=model prog w) X F.cl;have hT5:(⟨h,g,d,t,os⟩:Shared).TypeIs (.builtin "object.__class__") "getset_descriptor":=Fb;have f5:=Fb;have f6:=PySem.F.slot_gs_get.lookup;have f7:=PySem.F.slot_gs_set.lookup;have hx:=I.at_;have hc:=I.cls
 repeat (any_goals (first|assumption|(with_reducible refine Bi hx ?_;rw [hc])|with_reducible refine L1.at ?_|wp_step))
 refine lS X F I ?_
 repeat (any_goals (first|assumption|wp_step))
def gX (X:K.In h)(F:ExK K C)(I:ExAt h a o C)(hq:Q () ⟨h,g,d,t,os⟩):wpAny M A (checkBuiltinCall "BaseException.__getattribute__" ⟨[.ref a,nameV],[]⟩) Q E ⟨h,g,d,t,os⟩:=by
 have hk:builtinKind "BaseException.__getattribute__" = some .slot:=by decide +kernel
 have hsplit:splitId "BaseException.__getattribute__" = some ("BaseException","__getattribute__"):=by decide +kernel
 have L2':=looks_subIn (M:=M) X F.sb;have ha:=PySem.F.args_bexc_ga (.ref a) nameV;have hx:=I.at_;have hc:=I.cls;simp only [checkBuiltinCall,hk,hsplit];refine Ab ?_
 ·unfold isInstance
  repeat (first|(with_reducible refine Bi hx ?_;rw [hc])|with_reducible refine L2'.at ?_|wp_step)
  exact hq
def jL {tk:Tok}(X:K.In h)(F:ExK K C)(I:ExAt h a o C)(hq:R (.ok (.ret (.ref C))) ⟨h,g,d,t,os⟩) :
  DR (model prog w) A (.call (.builtin "BaseException.__getattribute__") ⟨[.ref a,.str "__class__" tk],[]⟩) R ⟨h,g,d,t,os⟩:=
 Cv Eo.ga.plain PySem.F.entry_bexc_ga (gX X F I (jF X F I hq))
def nU {tk:Tok}{fill expr:Bool}(X:K.In h)(F:ExK K C)(I:ExAt h a o C)(hq:Q (.ref C) ⟨h,g,d,t,os⟩) :
  wpAny (model prog w) A (getAttrBy (.ref a) (.str "__class__" tk) fill expr) Q E ⟨h,g,d,t,os⟩:=by
 have f3:=Eo.ga.bind (.ref a);have hx0:(expr&&onTheHeap (CZ "BaseException.__getattribute__"))=false:=by cases expr<;>rfl
 have hx2:(CZ "BaseException.__getattribute__" == CZ "object.__getattribute__")=false:=by decide +kernel
 have hx1:(onTheHeap (AD C)&&CZ "BaseException.__getattribute__" == CZ "object.__getattribute__")=false:=by rw [hx2];rfl
 have L1:=looks_findIn (M:=model prog w) X F.ga;have L2':=looks_findIn (M:=model prog w) X F.gt;have hx:=I.at_;have hc:=I.cls
 repeat (any_goals (first|assumption|(with_reducible refine Bi hx ?_;rw [hc])|with_reducible refine L1.at ?_|with_reducible refine L2'.at ?_|wp_step))
 refine jL X F I ?_
 repeat (any_goals (first|assumption|wp_step))
def jM (X:K.In h)(F:ExK K C)(I:ExAt h a o C)(hq:Q (some (.ref C)) ⟨h,g,d,t+1,os⟩) :
  wpAny (model prog w) A (getAttr? (.ref a) "__class__") Q E ⟨h,g,d,t,os⟩:=by
 unfold getAttr? getAttrBy?
 repeat (any_goals (first|assumption|with_reducible apply nU X F I|wp_step))
end
def aAs {K:Frag}{a C:Addr}{o:Obj}(F:ExK K C):KitX K (.ref a) (.ref C) (λh=>ExAt h a o C) where
 ty:=λM h X I=>I.type
 it:=λM h X I=>by
  have hcD:=F.ci;unfold clsIn at hcD;split at hcD
  ·rename_i c' d' cd' sl' ho
   intro A' Q' E' s' k q;unfold isType loadHead;exact Ab (wpAny_loadPart (k _ _ (X _ _ ho)) (Af q))
  ·cases hcD
 ne:=λh tp dd its n sl X htp=>by
  have hcD:=F.ci;refine Bool.eq_false_iff.mpr λq=>?_;have e:C=tp:=AD.inj (beq_iff_eq.mp q);subst e;unfold clsIn at hcD;split at hcD
  ·rename_i c' d' cd' sl' ho
   have:=X _ _ ho;rw [htp] at this;cases this
  ·cases hcD
 ca:=λ{prog w A E Q s} X I hq=>by
  obtain ⟨hh,g,d,t,os⟩:=s;exact jM X F I hq
def excO (a C:Addr):HO:=.ext λh=>∃ o,ExAt h a o C
section
variable {X:Cx}
end
def xY (o:Obj)(f:Array Value->Array Value):(Ea f o).dict=o.dict:=by
 unfold Ea;split<;>rfl
def TrD (h base:Heap)(e:Addr)(cls:Value)(dd:Option Addr)(fl:Value):Prop:=
 ∃ (ob tb:Obj) (us ts:Array Value) (T:Addr),(h.get? e=some ob/\ob.data=.fields us/\ob.cls=cls/\ob.dict=dd)/\us[1]?=some (.ref T)/\(base.get? T=none/\T≠e)/\h.get? T=some tb/\tb.data=.fields ts/\ts[3]?=some fl
structure FlyD (base:Heap)(l:List Env)(e:Addr)(cls:Value)(dd:Option Addr)(fl:Value)(h:Heap):Prop where
 st:base.StaysIn h
 no:base.get? e=none
 fr:h.FunFrames base l
 tr:TrD h base e cls dd fl
theorem FlyD.at {l:List Env}{dd:Option Addr}(x:FlyD base l e cls dd fl h):∃ ob us,h.get? e=some ob/\ob.cls=cls/\ob.dict=dd/\ob.data=.fields us:=by
 obtain ⟨ob,_,us,_,_,⟨a,b,c,d⟩,_⟩:=x.tr;exact ⟨ob,us,a,c,d,b⟩
section
variable {M:Model}{A:Around}{E:Value->Shared->Prop}{s:Shared}{base:Heap}{env:Env}{outer:List Env}{L e:Addr}{Q:Unit->Shared->Prop}{cls:Value}{dd:Option Addr}
def aB3 {had:Bool}(frs:A.frames=some (env::outer))(ff:s.heap.FunFrames base (env::outer))(fL:env.frame=some L)(ge:s.heap.get? e=some ob)(st:base.StaysIn s.heap)(no:base.get? e=none)(du:ob.data=.fields us)(sz:1<us.size)(k:∀ h',FlyD base (env::outer) e ob.cls ob.dict (rawInt L) h'->s.heap.UpToSlots h'->Q () { s with heap:=h' }) :
  wpAny M A (do let fo <- frameOf env;let pl <- entryPlaceOf L had;let row <- EntryCells.newEntry head fo .none (rawInt L) .none pl;setField (.ref e) 1 row) Q E s:=by
 have eNot:e∉(env::outer).filterMap (·.frame):=λmem=>by
  obtain ⟨_,o',g',nf⟩:=ff.mem mem;cases ge.symm.trans g';exact nf us du
 refine Ab (wpAny_frameOf_fun frs ff fL λh1 only=>Ab (wpAny_entryPlaceOf λpl plOk=>?_));unfold EntryCells.newEntry newFields;refine Ab (AZ ?_ (plOk.sizeOk5 _ _ _ _ _));have g1:h1.get? e=some ob:=(only.2.1 e eNot).trans ge;have st1:base.StaysIn h1:=λb o q=>(only.2.1 b λmem=>by
  rw [(ff.mem mem).1] at q;cases q).trans (st b o q)
 generalize hrow:({ cls:=.type "traceback",dict:=none,data:=.fields ([head,.ref L,.none,rawInt L,.none]++(if pl.isEmpty then CO 6 BR else pl)).toArray }:Obj)=row;have g2:(h1.push row).get? e=some ob:=Ac row g1;have Tne:h1.objs.size≠e:=Dz (Aq g1);have du':=EC du (·.setIfInBounds 1 (AD h1.objs.size));have gT:(h1.push row).get? h1.objs.size=some row:=Ah h1 (by rw [<- hrow];rfl);have old:∀ b o,b≠e->h1.get? b=some o->((h1.push row).update e (Ea (·.setIfInBounds 1 (AD h1.objs.size)))).get? b=some o:=λb o nb q=>by
  rw [AW _ _ (AQ nb)];exact Ac row q
 have nofld:∀ b o,s.heap.get? b=some o->(∀ vs,o.data≠.fields vs)->b≠e:=λb o q nf z=>by
  subst z;cases ge.symm.trans q;exact nf us du
 refine Fe g2 du sz (k _ ⟨λb o q=>old b o ?_ (st1 b o q),no,ff.of_keeps λb o q nf=>?_,?_⟩ λb o q nf=>?_)
 ·rintro rfl
  rw [no] at q;cases q
 ·obtain ⟨sl,z⟩:=only.2.2 b o q
  exact ⟨_,old b _ (nofld b o q nf) z,rfl⟩
 ·refine ⟨_,row,_,([head,.ref L,.none,rawInt L,.none]++(if pl.isEmpty then CO 6 BR else pl)).toArray,h1.objs.size,⟨BP _ g2 (ES du'),du',Obj.cls_mapFields _ _,xY _ _⟩,by simp [sz],⟨?_,Tne⟩,?_,by rw [<- hrow],by simp⟩
  ·cases z:base.get? h1.objs.size with
   |none=>rfl
   |some o=>exact absurd (Aq (st1 _ _ z)) (CB _)
  ·rw [AW _ _ (AQ Tne)]
   exact gT
 ·obtain ⟨sl,z⟩:=only.2.2 b o q
  exact ⟨sl,old b _ (nofld b o q nf) z⟩
def lP {l:List Env}(F:FlyD base l e cls dd fl s.heap)(k:∀ h',FlyD base l e cls dd .none h'->s.heap.UpToSlots h'->Q () { s with heap:=h' }):wpAny M A (setFlight (.ref e) none) Q E s:=by
 obtain ⟨st,no,ff,ob,tb,us,ts,T,⟨ge,du,cc,cd⟩,u1,⟨nT,Tne⟩,gT,dt,t3⟩:=F;unfold setFlight;refine Ab (BM ge du u1 ?_);rw [if_pos (show (AD T != BR)=true from rfl)];have z3:3<ts.size:=(Cp.mp t3).1;have dt':=EC dt (·.setIfInBounds 3 ((none:Option Addr).elim BR λf=>rawInt f));have old:∀ b,b≠T->(s.heap.update T (Ea (·.setIfInBounds 3 ((none:Option Addr).elim BR λf=>rawInt f)))).get? b=s.heap.get? b:=λb nb=>AW _ _ (AQ nb);have nofld:∀ b o,s.heap.get? b=some o->(∀ vs,o.data≠.fields vs)->b≠T:=λb o q nf z=>by
  subst z;cases gT.symm.trans q;exact nf ts dt
 refine Fe gT dt z3 (k _ ⟨λb o q=>?_,no,ff.of_keeps λb o q nf=>⟨o,(old b (nofld b o q nf)).trans q,rfl⟩,?_⟩ λb o q nf=>⟨o.slots,(old b (nofld b o q nf)).trans q⟩)
 ·refine (old b ?_).trans (st b o q)
  rintro rfl
  rw [nT] at q;cases q
 ·exact ⟨ob,_,us,_,T,⟨(old e (AQ Tne)).trans ge,du,cc,cd⟩,u1,⟨nT,Tne⟩,BP _ gT (ES dt'),dt',by simp [z3]⟩
def aF8 (frs:A.frames=some (env::outer))(ff:s.heap.FunFrames base (env::outer))(fL:env.frame=some L)(ge:s.heap.get? e=some ob)(st:base.StaysIn s.heap)(no:base.get? e=none)(du:ob.data=.fields us)(u1:us[1]?=some .none)(k:∀ h',FlyD base (env::outer) e ob.cls ob.dict (rawInt L) h'->s.heap.UpToSlots h'->Q () { s with heap:=h' }):wpAny M A (noteFrame (.ref e) env) Q E s:=by
 unfold noteFrame;simp only [fL];refine Ab (BM ge du u1 ?_);rw [if_neg (by decide)];exact aB3 frs ff fL ge st no du (Cp.mp u1).1 k
def aF7 (frs:A.frames=some (env::outer))(fL:env.frame=some L)(F:FlyD base (env::outer) e cls dd .none s.heap)
  (k:∀ h',FlyD base (env::outer) e cls dd (rawInt L) h'->s.heap.UpToSlots h'->Q () { s with heap:=h' }):wpAny M A (noteFrame (.ref e) env) Q E s:=by
 obtain ⟨st,no,ff,ob,tb,us,ts,T,⟨ge,du,cc,cd⟩,u1,⟨nT,Tne⟩,gT,dt,t3⟩:=F;subst cc cd;unfold noteFrame;simp only [fL];refine Ab (BM ge du u1 ?_);rw [if_pos (show (AD T != BR)=true from rfl)];refine Ab (BM gT dt t3 ?_);rw [if_neg (show ¬ ((BR==rawInt L)=true) from by simp [rawInt])];have z3:3<ts.size:=(Cp.mp t3).1;have old:∀ b,b≠T->(s.heap.update T (Ea (·.setIfInBounds 3 BR))).get? b=s.heap.get? b:=λb nb=>AW _ _ (AQ nb);have nofld:∀ b o,s.heap.get? b=some o->(∀ vs,o.data≠.fields vs)->b≠T:=λb o q nf z=>by
  subst z;cases gT.symm.trans q;exact nf ts dt
 refine Ab (Fe gT dt z3 ?_);refine aB3 frs (ff.of_keeps λb o q nf=>⟨o,(old b (nofld b o q nf)).trans q,rfl⟩) fL ((old e (AQ Tne)).trans ge) (λb o q=>?_) no du (Cp.mp u1).1 λh' F' up=>k h' F' λb o q nf=>up b o ((old b (nofld b o q nf)).trans q) nf;refine (old b ?_).trans (st b o q)
 rintro rfl
 rw [nT] at q;cases q
def FlyD.tail (F:FlyD base (env::outer) e cls dd fl h):FlyD base outer e cls dd fl h:=⟨F.st,F.no,F.fr.2.2,F.tr⟩
def aEb (frs:A.frames=some (env::outer))(ff:s.heap.FunFrames base (env::outer))(fL:env.frame=some L)(ge:s.heap.get? e=some ob)(st:base.StaysIn s.heap)(no:base.get? e=none)(du:ob.data=.fields us)(u1:us[1]?=some .none)(k:∀ h',FlyD base outer e ob.cls ob.dict .none h'->s.heap.UpToSlots h'->Q () { s with heap:=h' }):wpAny M A (leaving env (.ref e)) Q E s:=by
 unfold leaving;exact Ab (aF8 frs ff fL ge st no du u1 λh' F' up=>lP F' λh'' F'' up'=>k h'' F''.tail (up.trans up'))
def aGj (frs:A.frames=some (env::outer))(fL:env.frame=some L)(F:FlyD base (env::outer) e cls dd .none s.heap)
  (k:∀ h',FlyD base outer e cls dd .none h'->s.heap.UpToSlots h'->Q () { s with heap:=h' }):wpAny M A (leaving env (.ref e)) Q E s:=by
 unfold leaving;exact Ab (aF7 frs fL F λh' F' up=>lP F' λh'' F'' up'=>k h'' F''.tail (up.trans up'))
end
structure Flx (P:Az)(w:World)(outer:List Env)(H:Hp)(s:Shared)(H':Hp)(ea:Addr)(cls:Value)(dd:Option Addr)(s':Shared):Prop where
 os:s'.os=s.os
 bare:AllBare s'.gens
 un:Un (frs outer) [] H H' s.heap s'.heap
 fl:∃ B:Heap,HOk P w H' B/\FlyD B outer ea cls dd .none s'.heap/\(∀ b o,s.heap.get? b=some o->H b=none->b∉frs outer->B.get? b=some o)/\(∀ b o,s.heap.get? b=some o->b∉frs outer->∃ o',B.get? b=some o')
def CXg (P:Az)(w:World):CXT:=λouter H s E e s'=>∃ (ea C:Addr) (dd:Option Addr) (H':Hp),e=.ref ea/\Flx P w outer H s H' ea (.ref C) dd s'/\E (.ref C) dd H'
structure OwnF (X:Cx):Prop where
 stk:X.stack=X.env::X.outer
 fr:X.env.frame=some X.env.locals
 ex:X.ex=[]
section
variable {X:Cx}{pins:List (Addr×Obj)}{σ:St}{H H':Hp}{s s':Shared}
def rG (O:OwnF X)(I:Inv X pins σ H s)(e:X.s₀.heap.get? b=some o)(hb:b∉frs X.outer):b∉frs X.stack:=by
 rw [O.stk];intro z;unfold frs at z hb;rw [CU,O.fr] at z
 rcases AE.mp z with z|z
 ·exact absurd (AR (Aq e) I.ok.above) (by rw [z];exact CB _)
 ·exact hb z
def aH9 (O:OwnF X)(hb:b∈frs X.outer):b∈frs X.stack:=by
 rw [O.stk];unfold frs at *
 rw [CU,O.fr];exact Aj _ hb
def aEx (O:OwnF X)(I:Inv X pins σ H s){B h':Heap}(u:Un (frs X.stack) [] H H' s.heap s'.heap)(bk:∀ b o,X.s₀.heap.get? b=some o->X.H₀ b=none->b∉frs X.outer->B.get? b=some o)
  (th:∀ b o,X.s₀.heap.get? b=some o->b∉frs X.outer->∃ o',B.get? b=some o') (st:B.StaysIn h') (up:s'.heap.UpToSlots h'):Un (frs X.outer) [] X.H₀ H' X.s₀.heap h':=by
 have noex:∀ b:Addr,b∉X.ex:=λb z=>by rw [O.ex] at z;cases z
 have slot:∀ b o,X.s₀.heap.get? b=some o->X.H₀ b=none->b∈frs X.outer->∃ sl,h'.get? b=some { o with slots:=sl }:=λb o e n hb=>by
  obtain ⟨sl,e1⟩:=I.base.slot b o e n hb (noex b);have n1:=I.base.free b o e n (noex b);obtain ⟨sl2,e2⟩:=u.slot b _ e1 n1 (aH9 O hb) (by simp);obtain ⟨_,o',ho',hnf⟩:=I.ok.funs.mem hb;rw [e] at ho';cases ho';obtain ⟨sl3,e3⟩:=up b _ e2 (λvs q=>hnf vs q);exact ⟨sl3,e3⟩
 refine ⟨λb o e n hb _=>st b o (bk b o e n hb),λb o e n hb _=>slot b o e n hb,λb o e n _=>?_,λb o e _=>?_,λb xs e=>u.tups _ _ (I.base.tups _ _ e),λb o x e=>u.frzs _ _ _ (I.base.frzs _ _ _ e),λb ps e=>?_⟩
 ·obtain ⟨o1,e1⟩:=I.base.there b o e (noex b)
  exact u.free b o1 e1 (I.base.free b o e n (noex b)) (by simp)
 ·by_cases hb:b∈frs X.outer
  ·obtain ⟨sl,q⟩:=slot b o e (I.ok.frf b hb) hb
   exact ⟨_,q⟩
  ·obtain ⟨o2,e2⟩:=th b o e hb
   exact ⟨o2,st b o2 e2⟩
 ·obtain ⟨m1,e1⟩:=I.base.tbls b ps e
  obtain ⟨m2,e2⟩:=u.tbls _ _ e1;exact ⟨m1++m2,by rw [e2,Array.append_assoc]⟩
def aIg (I:Inv X pins σ H s)(hea:H ea=none):HOk X.prog X.w H (hideAll s.heap (ea::frs X.stack)):=λa o e=>(I.hok a o e).stay (λb u hb q=>hideAll_get _ q λz=>by
 have n:H b=none:=by
  rcases AE.mp z with z|z
  ·rw [z];exact hea
  ·exact I.stkFree b z
 rcases hb with hb|hb
 ·rw [<- hb] at e;rw [e] at n;cases n
 ·rw [hb] at n;cases n) (λ_ h=>h) (λ_ _ h=>h)
def xO (O:OwnF X)(I:Inv X pins σ H s){ea C:Addr}{dd:Option Addr}{ob:Obj}{us:Array Value}{E':Value->Shared->Prop}{Q:Unit->Shared->Prop}(hea:H ea=none)(n0:X.s₀.heap.get? ea=none)(ge:s.heap.get? ea=some ob)
  (hc:ob.cls=.ref C) (hdd:ob.dict=dd) (du:ob.data=.fields us) (u1:us[1]?=some .none)
  (k:∀ h',Flx X.prog X.w X.outer X.H₀ X.s₀ H ea (.ref C) dd { s with heap:=h' }->Q () { s with heap:=h' }):wpAny (model X.prog X.w) X.A (leaving X.env (.ref ea)) Q E' s:=by
 have nfr:ea∉frs X.stack:=λz=>by
  obtain ⟨_,o',ho',hnf⟩:=I.stack.mem z;rw [ge] at ho';cases ho';exact hnf us du
 have hin:∀ env∈X.stack,∀ b,env.frame=some b->b∈ea::frs X.stack:=λenv he b hb=>Aj _ (List.mem_filterMap.mpr ⟨env,he,hb⟩);have hfr:X.A.frames=some (X.env::X.outer):=by rw [<- O.stk];exact I.ok.frames
 have hl:s.heap.FunFrames (hideAll s.heap (ea::frs X.stack)) (X.env::X.outer):=by rw [<- O.stk];exact funFrames_hide I.stack hin
 have nB:(hideAll s.heap (ea::frs X.stack)).get? ea=none:=hideAll_none _ (Au ..);have bk:∀ b o,X.s₀.heap.get? b=some o->X.H₀ b=none->b∉frs X.outer->(hideAll s.heap (ea::frs X.stack)).get? b=some o:=λb o e n hb=>by
  refine hideAll_get _ (I.base.keep b o e n hb (by rw [O.ex];simp)) λz=>?_
  rcases AE.mp z with z|z
  ·rw [z,n0] at e;cases e
  ·exact rG O I e hb z
 have th:∀ b o,X.s₀.heap.get? b=some o->b∉frs X.outer->∃ o',(hideAll s.heap (ea::frs X.stack)).get? b=some o':=λb o e hb=>by
  obtain ⟨o1,e1⟩:=I.base.there b o e (by rw [O.ex];simp);refine ⟨o1,hideAll_get _ e1 λz=>?_⟩
  rcases AE.mp z with z|z
  ·rw [z,n0] at e;cases e
  ·exact rG O I e hb z
 refine aEb (base:=hideAll s.heap (ea::frs X.stack)) hfr hl O.fr ge (λb o q=>of_hideAll _ q) nB du u1 λh' F' up=>k h' ⟨I.os,I.bare,?_,hideAll s.heap (ea::frs X.stack),aIg I hea,by rw [<- hc,<- hdd];exact F',bk,th⟩;exact aEx (s':=s) O I Un.refl bk th F'.st up
def aGu (O:OwnF X)(I:Inv X pins σ H s){ea C:Addr}{dd:Option Addr}{E':Value->Shared->Prop}{Q:Unit->Shared->Prop}(F:Flx X.prog X.w X.stack H s H' ea (.ref C) dd s')
  (k:∀ h',Flx X.prog X.w X.outer X.H₀ X.s₀ H' ea (.ref C) dd { s' with heap:=h' }->Q () { s' with heap:=h' }):wpAny (model X.prog X.w) X.A (leaving X.env (.ref ea)) Q E' s':=by
 obtain ⟨B,hok,fl,bk,th⟩:=F.fl;have hfr:X.A.frames=some (X.env::X.outer):=by rw [<- O.stk];exact I.ok.frames
 have fl':FlyD B (X.env::X.outer) ea (.ref C) dd .none s'.heap:=by rw [<- O.stk];exact fl
 have bk0:∀ b o,X.s₀.heap.get? b=some o->X.H₀ b=none->b∉frs X.outer->B.get? b=some o:=λb o e n hb=>
  bk b o (I.base.keep b o e n hb (by rw [O.ex];simp)) (I.base.free b o e n (by rw [O.ex];simp)) (rG O I e hb)
 have th0:∀ b o,X.s₀.heap.get? b=some o->b∉frs X.outer->∃ o',B.get? b=some o':=λb o e hb=>by
  obtain ⟨o1,e1⟩:=I.base.there b o e (by rw [O.ex];simp);exact th b o1 e1 (rG O I e hb)
 exact aGj hfr O.fr fl' λh' F' up=>k h' ⟨F.os.trans I.os,F.bare,aEx O I F.un bk0 th0 F'.st up,B,hok,F',bk0,th0⟩
end
abbrev cxF (P:Az)(w:World)(K:Frag)(mg:Str->Option Value)(base:Heap)(N:List Str)(qual:Str)(scope:Scope)(f:Addr)(cd:Value)(A:Around)(outer:List Env)(s:Shared)(H:Hp)(E:XK):Cx:=cxOf (CXg P w) P w K mg base N qual scope f cd A outer s H E
section
variable {P:Az}{w:World}{K:Frag}{mg:Str->Option Value}{base:Heap}{N:List Str}{qual:Str}{scope:Scope}{f:Addr}{cd:Value}{A:Around}{outer:List Env}{s:Shared}{H:Hp}{E:XK}
def vY:OwnF (cxF P w K mg base N qual scope f cd A outer s H E):=⟨rfl,rfl,rfl⟩
def mY:hJ (CXg P w) (cxF P w K mg base N qual scope f cd A outer s H E) E:=by
 intro pins σ Hc sc e s' I h;obtain ⟨ea,C,dd,H',rfl,F,hE⟩:=h;exact aGu (X:=cxF P w K mg base N qual scope f cd A outer s H E) vY I F λh' F'=>⟨ea,C,dd,H',rfl,F',hE⟩
def XeOk (X:Cx)(E:XK):Prop:=∀ (pins:List (Addr×Obj)) (σ:St) (H:Hp) (s:Shared) (ea C:Addr) (ob:Obj) (us:Array Value),Inv X pins σ H s->H ea=none->X.s₀.heap.get? ea=none->s.heap.get? ea=some ob->ob.cls=.ref C->ob.data=.fields us->us[1]?=some .none->E (.ref C) ob.dict H->X.xe (.ref ea) s
def xe_f:XeOk (cxF P w K mg base N qual scope f cd A outer s H E) E:=by
 intro pins σ Hc sc ea C ob us I hea n0 ge hc du u1 hE;exact xO (X:=cxF P w K mg base N qual scope f cd A outer s H E) vY I hea n0 ge hc rfl du u1 λh'' F'=>⟨ea,C,ob.dict,Hc,rfl,F',hE⟩
def Fun.okF {x:Str}{st:Stmt}{fd:Bf}{ps:List Str}{k:Nat}{sp:Sp}(F:Fun K x qual st f fd)(S:FnScope N ps (aI st))(len:∀ vs H Q E,sp vs H Q E->vs.length=ps.length)
  (hbody:∀ (cdv:Value) (A:Around) (outer:List Env) (s:Shared) (H:Hp) (vs:List V) (Q:VK) (E:XK),Room k (A.deeper (envOfC qual (aI st) s.heap.objs.size f cdv))->sp vs H Q E ->
   ∃ t,PSs (cxF P w K mg base N qual (aI st) f cdv A outer s H E) (dR st) t/\t { nx:=λ_ H'=>Q .non H',rt:=Q } (start N vs) H):FnOk P w K mg base (CXg P w) (k+1) f fd ps sp:=by
 obtain ⟨oc,od,kV,doc,pm,an,cdv,ct,osl,rfl,lk,hcd⟩:=F.ex;exact aGt lk hcd S len λA outer s H vs Q E hr hsp=>hbody cdv A outer s H vs Q E hr hsp
end
structure CtK (K:Frag)(D:Addr):Prop where
 ty:typeIn K (.ref D)=some (.type "type")
 ci:(clsIn K D).isSome=true
 sb:subIn K (.ref D) (.type "BaseException")=some true
def pR {M:Model}{A:Around}{E:Value->Shared->Prop}{h:Heap}{g:Array GenState}{d:Drawn}{t:Nat}{os:OsState}{e C D:Addr}{o:Obj}{K:Frag}{Q:Bool->Shared->Prop}(X:K.In h)(I:ExAt h e o C)(F:CtK K D)(hs:subIn K (.ref C) (.ref D)=some true)
  (hq:Q true ⟨h,g,d,t,os⟩):wpAny M A (excMatches (.ref e) (.ref D)) Q E ⟨h,g,d,t,os⟩:=by
 have L1:=looks_typeIn (M:=M) X F.ty;have L2':Looks M h (isType (.ref D)) true:=by
  have hcD:=F.ci;unfold clsIn at hcD;split at hcD
  ·rename_i c' d' cd' sl' ho
   intro A' Q' E' s' k q;unfold isType loadHead;exact Ab (wpAny_loadPart (k _ _ (X _ _ ho)) (Af q))
  ·cases hcD
 have L3:=looks_subIn (M:=M) X F.sb;have L4:=looks_subIn (M:=M) X hs;have L5:=I.type (M:=M);have f:=tc_notTuple;unfold excMatches isInstance
 repeat (first|with_reducible refine L1.at ?_|with_reducible refine L2'.at ?_|with_reducible refine L3.at ?_|with_reducible refine L4.at ?_|with_reducible refine L5.at ?_|wp_step)
 exact hq
abbrev bmV:List Value:=[.type "ValueError",.type "Exception",.type "BaseException",.type "object"]
structure ClsObj (h:Heap)(C:Addr)(bmB:List Value)(newId:String):Prop where
 ex:∃ (nm q:Str) (N:Addr) (bs bm:List Value) (hdct:Bool) (sn:List Str) (sub:List Value) (ab:Bool) (col:Option Bool) (dd:Option Addr) (k0 k1 k2 k3 k5:Option Value) (mN:Str->Option Value),
  h.get? C=some (excClassObj nm q C N bs bm hdct sn sub ab col dd k0 k1 k2 k3 k5 newId)/\h.Ns N mN/\mN "__init__" = none/\OwnTail h bmB bm
def aAl {w:World}(x:ObjOk P w H h a o):∃ ob,h.get? a=some ob:=by
 cases o with
 |lst xs=>obtain ⟨_,_,_,_,e⟩:=x;exact ⟨_,e⟩
 |tup xs=>obtain ⟨_,_,_,ob,e,_⟩:=x;exact ⟨_,e⟩
 |dK kvs=>obtain ⟨_,_,_,_,ob,_,_,e,_⟩:=x;exact ⟨_,e⟩
 |dT kvs=>obtain ⟨_,_,_,_,ob,_,_,e,_⟩:=x;exact ⟨_,e⟩
 |set S n=>obtain ⟨ob,_,_,_,e,_⟩:=x;exact ⟨_,e⟩
 |ins C dx fs=>obtain ⟨_,_,_,e,_⟩:=x;exact ⟨_,e⟩
 |own y=>obtain ⟨_,e⟩:=x;exact ⟨_,e⟩
 |xd fs=>obtain ⟨_,⟨_,_,_,e,_⟩,_⟩:=x;exact ⟨_,e⟩
 |rng lo hi=>obtain ⟨_,_,_,e⟩:=x;exact ⟨_,e⟩
 |frz ob u=>obtain ⟨e,_⟩:=x;exact ⟨_,e⟩
 |tbl ps=>exact ⟨_,(show h.get? a=some _ from x)⟩
 |met f y=>exact ⟨_,(show h.get? a=some _ from x)⟩
 |ext φ=>obtain ⟨_,⟨_,e⟩,_⟩:=x;exact ⟨_,e⟩
def excD (a C:Addr)(dd:Option Addr):HO:=.ext λh=>∃ o,ExAt h a o C/\o.dict=dd/\∃ us,o.data=.fields us
def Inv.absent0 {σ:St}(I:Inv X pins σ H s)(hex:X.ex=[])(n:s.heap.get? e=none):X.s₀.heap.get? e=none:=by
 cases q:X.s₀.heap.get? e with
 |none=>rfl
 |some o=>
  obtain ⟨ob,z⟩:=I.base.there e o q (by rw [hex];simp);rw [n] at z;cases z
def tRaise (C:Addr)(E:XK)(t:TA):TS:=λ_ σ H=>t σ H λvs H1=>vs.length<=Ax/\E (.ref C) none H1
section
variable {X:Cx}
def eK:eU X (.builtin "isinstance") (λxs H Q=>∃ a C dd c v b,xs=[.ref a,v]/\H a=some (excD a C dd)/\ExK X.K C/\RelV v c/\kitOne X.K (.ref C) c=some b/\Q (.bl b) H):=by
 intro pins s σ H xs us Q I r h;obtain ⟨a,C,dd,c,v,b,rfl,hH,F,rc,hk,q⟩:=h;obtain ⟨u,w',rfl,rx,ry⟩:=vals2 r;cases rx;obtain ⟨⟨o,hi,_⟩,_⟩:=I.hok a _ hH;have e:w'=c:=by
  have:=ry;cases v with
  |ref z=>cases ry;cases rc;rfl
  |ty z=>cases ry;cases rc;rfl
  |non=>cases ry;cases rc;rfl
  |bl z=>cases ry;cases rc;rfl
  |int z=>obtain ⟨_,rfl⟩:=rc;simp [kitOne,kitCls] at hk
  |str z=>obtain ⟨_,rfl⟩:=rc;simp [kitOne,kitCls] at hk
  |byt z=>obtain ⟨_,rfl⟩:=rc;simp [kitOne,kitCls] at hk
  |flt z=>obtain ⟨_,rfl⟩:=rc;simp [kitOne,kitCls] at hk
 subst e;exact kia_one (aAs F) I.kIn hi hk (by intro z;cases z) λtk=>⟨.bl b,H,I.tok _,rfl,q⟩
end
abbrev Cx.within (X:Cx)(v:Value):Cx:={ X with A:=X.A.mark (some v),calm:=false,xe:=λ_ _=>False }
abbrev Cx.trying (X:Cx)(pins:List (Addr×Obj))(E:Value->Shared->Prop):Cx:={ X with pn:=X.pn++pins,xe:=E }
section
variable {X:Cx}{pins:List (Addr×Obj)}{σ:St}{H H':Hp}{s s':Shared}
def Inv.within (I:Inv X pins σ H s)(v:Value):Inv (X.within v) pins σ H s:=
 ⟨⟨I.ok.mod,I.ok.kind,I.ok.glob,I.ok.blt,I.ok.above,I.ok.inj,I.ok.has,I.ok.cab,(λh=>(by cases h)),I.ok.frames,I.ok.stk,I.ok.exf,I.ok.bs,I.ok.bsz,I.ok.noex,I.ok.exfs,I.ok.funs,I.ok.frf⟩,I.os,I.bare,I.base,I.loc,I.cell,I.free,I.freeC,I.pin,I.hok,I.len⟩
def Inv.without (ok:X.Ok)(I:Inv (X.within v) pins σ H s):Inv X pins σ H s:=⟨ok,I.os,I.bare,I.base,I.loc,I.cell,I.free,I.freeC,I.pin,I.hok,I.len⟩
def Inv.trying (I:Inv X pins σ H s)(E:Value->Shared->Prop):Inv (X.trying pins E) [] σ H s:=
 ⟨⟨I.ok.mod,I.ok.kind,I.ok.glob,I.ok.blt,I.ok.above,I.ok.inj,I.ok.has,I.ok.cab,I.ok.hd,I.ok.frames,I.ok.stk,I.ok.exf,I.ok.bs,I.ok.bsz,I.ok.noex,I.ok.exfs,I.ok.funs,I.ok.frf⟩,I.os,I.bare,I.base,I.loc,I.cell,I.free,I.freeC,λp hp=>I.pin p (by rwa [Cb] at hp),I.hok,I.len⟩
def Inv.tried (I:Inv (X.trying pins E) pl σ H s):Inv X pins σ H s:=
 ⟨⟨I.ok.mod,I.ok.kind,I.ok.glob,I.ok.blt,I.ok.above,I.ok.inj,I.ok.has,I.ok.cab,I.ok.hd,I.ok.frames,I.ok.stk,I.ok.exf,I.ok.bs,I.ok.bsz,I.ok.noex,I.ok.exfs,I.ok.funs,I.ok.frf⟩,I.os,I.bare,I.base,I.loc,I.cell,I.free,I.freeC,λp hp=>I.pin p (List.mem_append_left _ hp),I.hok,I.len⟩
def SP.tried (h:SP (X.trying pins E) [] D f s):SP X pins D f s:=by
 cases f with
 |next=>obtain ⟨σ',H',I,q⟩:=h;exact ⟨σ',H',I.tried,q⟩
 |brk=>obtain ⟨σ',H',I,q⟩:=h;exact ⟨σ',H',I.tried,q⟩
 |cont=>obtain ⟨σ',H',I,q⟩:=h;exact ⟨σ',H',I.tried,q⟩
 |ret u=>obtain ⟨v,σ',H',I,r,q⟩:=h;exact ⟨v,σ',H',I.tried,r,q⟩
def Inv.track (I:Inv X pins σ H s)(hn:H a=none)(h0:X.s₀.heap.get? a=none)(hL:a≠X.env.locals)(hc:∀ x c,X.env.cells.lookup x=some c->c≠a)(hp:∀ p∈X.pn++pins,p.1≠a)(ok:ObjOk X.prog X.w (upd H a u) s.heap a u):Inv X pins σ (upd H a u) s:=by
 have old:∀ b o,X.s₀.heap.get? b=some o->b≠a:=λb o e z=>by rw [z,h0] at e;cases e
 have trk:∀ b o,H b=some o->b≠a:=λb o e=>bE e hn;refine ⟨I.ok,I.os,I.bare,⟨I.base.keep,I.base.slot,λb o e n hx=>?_,I.base.there,λb xs e=>?_,λb o x e=>?_,λb ps e=>?_⟩,I.loc,I.cell,?_,λx c e=>?_,λp q=>?_,λb o e=>?_,I.len⟩
 ·rw [aH (old b o e)]
  exact I.base.free b o e n hx
 ·have z:=I.base.tups b xs e
  rw [aH (trk _ _ z)];exact z
 ·have z:=I.base.frzs b o x e
  rw [aH (trk _ _ z)];exact z
 ·obtain ⟨m,z⟩:=I.base.tbls b ps e
  exact ⟨m,by rw [aH (trk _ _ z)];exact z⟩
 ·rw [aH (AQ hL)]
  exact I.free
 ·rw [aH (hc x c e)]
  exact I.freeC x c e
 ·obtain ⟨a1,a2,a3⟩:=I.pin p q
  exact ⟨a1,by rw [aH (hp p q)];exact a2,a3⟩
 ·by_cases hb:b=a
  ·subst hb
   rw [aB] at e;cases e;exact ok
  ·rw [aH hb] at e
   exact (I.hok b o e).stay (λ_ _ _ q=>q) (λc q=>by rw [aH (trk _ _ q)];exact q) (λc xs q=>by rw [aH (trk _ _ q)];exact q)
def aCg (I:Inv X pins σ H s){B h':Heap}(u:Un (frs X.stack) [] H H' s.heap s'.heap)(bk:∀ b o,s.heap.get? b=some o->H b=none->b∉frs X.stack->B.get? b=some o)
  (th:∀ b o,s.heap.get? b=some o->b∉frs X.stack->∃ o',B.get? b=some o') (st:B.StaysIn h') (up:s'.heap.UpToSlots h'):Un (frs X.stack) [] H H' s.heap h':=by
 have slot:∀ b o,s.heap.get? b=some o->H b=none->b∈frs X.stack->∃ sl,h'.get? b=some { o with slots:=sl }:=λb o e n hb=>by
  obtain ⟨sl,e1⟩:=u.slot b o e n hb (by simp);obtain ⟨_,o',ho',hnf⟩:=I.stack.mem hb;rw [e] at ho';cases ho';obtain ⟨sl3,e3⟩:=up b _ e1 (λvs q=>hnf vs q);exact ⟨sl3,e3⟩
 refine ⟨λb o e n hb _=>st b o (bk b o e n hb),λb o e n hb _=>slot b o e n hb,u.free,λb o e _=>?_,u.tups,u.frzs,u.tbls⟩
 by_cases hb:b∈frs X.stack
 ·obtain ⟨sl,q⟩:=slot b o e (I.stkFree b hb) hb
  exact ⟨_,q⟩
 ·obtain ⟨o2,e2⟩:=th b o e hb
  exact ⟨o2,st b o2 e2⟩
def wW {i:Nat}(I:Inv X pins σ H s)(hN:X.N.Nodup)(hi:X.N[i]?=some n)(hk:X.env.scope.names.lookup n=some .local)(h:∀ s',Inv X pins (σ.set i none) H s'->Q () s'):wpAny M A (do bindName X.env n .none;unbindBehindTheSuite X.env n pos) Q E s:=by
 obtain ⟨m,hn,hl⟩:=id I.loc;have hcls:(X.env.scope.kind==.class||(X.env.scope.kind==.module&&X.env.locals != X.env.globals))=false:=by rw [I.ok.kind];rfl
 have hiσ:i<σ.length:=by rw [I.len];exact (Ae.mp hi).1
 refine wpAny_nameGoes_keeps hk hn hcls λh' v hn' hs=>?_;have ne:∀ b o,X.s₀.heap.get? b=some o->b≠X.env.locals:=λb o e=>Aw (AR (Aq e) I.ok.above);refine h _ ⟨I.ok,I.os,I.bare,⟨λb o e n hb hx=>(hs.2 b (ne b o e)).trans (I.base.keep b o e n hb hx),λb o e n hb hx=>?_,I.base.free,λb o e hx=>?_,I.base.tups,I.base.frzs,I.base.tbls⟩,⟨_,hn',λj y v' e1 e2 e3=>?_⟩,λy c e=>?_,I.free,I.freeC,λp hp=>?_,λb ob e=>?_,by rw [CT];exact I.len⟩
 ·obtain ⟨sl,e1⟩:=I.base.slot b o e n hb hx
  exact ⟨sl,(hs.2 b (ne b o e)).trans e1⟩
 ·obtain ⟨o',e1⟩:=I.base.there b o e hx
  exact ⟨o',(hs.2 b (ne b o e)).trans e1⟩
 ·by_cases hj:j=i
  ·subst hj
   rw [Ca hiσ] at e2;cases e2
  ·rw [BU (AQ hj)] at e2
   obtain ⟨u',r',q⟩:=hl j y v' e1 e2 e3;refine ⟨u',r',?_⟩
   rcases q with ⟨k,e⟩|⟨k,c,e,z⟩
   ·refine .inl ⟨k,?_⟩
    have ny:y≠n:=λe=>hj (lI hN e1 (e▸hi));simp [ny,e]
   ·exact .inr ⟨k,c,e,z.sameBut hs (I.cne y c e)⟩
 ·obtain ⟨v',q⟩:=I.cell y c e
  exact ⟨v',q.sameBut hs (I.cne y c e)⟩
 ·obtain ⟨a1,a2,a3,a4⟩:=I.pin p hp
  exact ⟨(hs.2 p.1 a3).trans a1,a2,a3,a4⟩
 ·refine (I.hok b ob e).stay (λc w' hc q=>(hs.2 c ?_).trans q) (λ_ q=>q) λ_ _ q=>q
  intro z;rw [z] at hc
  rcases hc with hc|hc
  ·rw [<- hc,I.free] at e
   cases e
  ·rw [I.free] at hc
   cases hc
def tTry (K:Frag)(N j:Nat)(Dc:Addr)(tb:XK->TS):TS:=λD σ H=>tb (λcls dd H'=>∃ C,cls=.ref C/\ExK K C/\subIn K (.ref C) (.ref Dc)=some true/\∀ a,H' a=none->D.nx ((CO N none).set j (some (.ref a))) (upd H' a (excD a C dd))) D σ H
end
def xiIn (K:Frag)(C P f:Addr):Bool:=match K.lookup C with
 |some ⟨.type "type",_,.cls cd,sl⟩=>(match cd.mro,sl.toList with
  |.ref C'::.ref P'::bm,[_,_,_,_,some (.builtin n),_]=>C'==C&&P'==P&&n == "ValueError.__new__" && !cd.hasDel&&cd.hasDict&&tailIn K bmV (.ref P'::bm)&&nsOkIn K cd.ns&&nsIn K cd.ns "__init__" == some (some (.ref f))&&bm==bmV
  |_,_=>false)
 |_=>false
structure ClsI (h:Heap)(C P f:Addr):Prop where
 ex:∃ (nm q:Str) (N:Addr) (bs:List Value) (sn:List Str) (sub:List Value) (ab:Bool) (col:Option Bool) (dd:Option Addr) (k0 k1 k2 k3 k5:Option Value) (mN:Str->Option Value),
  h.get? C=some (excClassObj nm q C N bs (.ref P::bmV) true sn sub ab col dd k0 k1 k2 k3 k5 "ValueError.__new__")/\h.Ns N mN/\mN "__init__" = some (.ref f)/\OwnTail h bmV (.ref P::bmV)
def hV {K:Frag}{h:Heap}{N:Addr}{x:Str}{v:Value}(X:K.In h)(hok:nsOkIn K N=true)(e:nsIn K N x=some (some v)):h.nsMap N x=some v:=by
 have G:h.Ns N (h.nsMap N):=.of_isNs (isNs_of_in X hok);obtain ⟨o,es,ep,ho,hd,_,hf⟩:=G;unfold nsIn at e;split at e
 ·rename_i c d es' n' sl q
  have z:=X _ _ q;rw [ho] at z;cases z;cases hd;split at e
  ·rename_i en he
   cases e;rw [<- hf];unfold nsFind findBy;rw [<- Array.find?_toList,he];rfl
  ·split at e<;>cases e
 ·cases e
def jG {K:Frag}{h:Heap}{C P f:Addr}(X:K.In h)(q:xiIn K C P f=true):ClsI h C P f:=by
 unfold xiIn at q;split at q
 case h_2=>cases q
 case h_1 dd cd sl ho=>
  split at q
  case h_2=>cases q
  case h_1 C' P' bm k0 k1 k2 k3 n k5 hm hs=>
   simp only [Ce,beq_iff_eq,Bool.not_eq_true'] at q;obtain ⟨⟨⟨⟨⟨⟨⟨⟨e1,e0⟩,e2⟩,hdel⟩,hdi⟩,ht⟩,hok⟩,hni⟩,e3⟩:=q;cases e1;cases e0;cases e2;cases e3;obtain ⟨nm,bs,mro,ns,qn,hd,sn,sub,ab,col,del⟩:=cd;obtain ⟨sl⟩:=sl;dsimp only at hm hdel hok hni hs hdi;subst hm hdel hs hdi;exact ⟨nm,qn,ns,bs,sn,sub,ab,col,dd,k0,k1,k2,k3,k5,_,X _ _ ho,.of_isNs (isNs_of_in X hok),hV X hok hni,tail_of_in X ht⟩
section
variable {prog:Az}{w:World}{A:Around}{E:Value->Shared->Prop}{h:Heap}{g:Array GenState}{d:Drawn}{t:Nat}{os:OsState}{K:Frag}{C P f:Addr}
abbrev gC (h:Heap)(C:Addr)(rest:List Value):Heap:=(h.push { cls:=.type "tuple",data:=.seq rest.toArray }).push { cls:=.ref C,data:=.fields #[.ref h.objs.size,.none,.none,.none,.bool false,.none] }
def lQ {rest:List Value}(X:K.In h)(I:ClsI h C P f)(hf:typeIn K (.ref f)=some (.type "function"))(hrest:rest.length<=Ax)(hq:DR (model prog w) A (.call (.ref f) ⟨.ref (h.objs.size+1)::rest,[]⟩) (λr s'=>match r with
   |.ok (.ret v)=>v=.none/\Q (.done (.ret (.ref (h.objs.size+1)))) s'
   |.ok _=>False
   |.error e=>E e s') ⟨gC h C rest,g,d,t,os⟩) :
  wpAny (model prog w) A (AH.«type.__call__» ⟨.ref C::rest,[]⟩) Q E ⟨h,g,d,t,os⟩:=by
 obtain ⟨nm,q,N,bs,sn,sub,ab,col,dd,k0,k1,k2,k3,k5,mN,hC,hn,hni,T⟩:=I.ex;have F:=PySem.F.excBase_ValueError
 repeat (first|with_reducible refine Bi hC ?_|with_reducible refine wpAny_madeBy_exc hC ?_|wp_step)
 refine codeAny_call_builtin_code (DJ _ F.quiet) (wpAny_check_new_subU F F.hasB T hC ?_);refine codeAny_exc_new_subU F F.hasB F T hC ?_ hrest;show wpAny _ _ _ _ _ _;have keep:∀ b o,h.get? b=some o->(gC h C rest).get? b=some o:=λb o e=>Ac _ (Ac _ e);have hC1:=keep _ _ hC;have hn1:(gC h C rest).Ns N mN:=hn.keeps keep;have hget:(gC h C rest).get? (h.objs.size+1)=some { cls:=.ref C,data:=.fields #[.ref h.objs.size,.none,.none,.none,.bool false,.none] }:=by unfold gC;heap_get
 have hcC:(AD C::AD P::bmV).contains (.ref C)=true:=by simp
 have T1:=T.keeps keep;have B1:=bind_fn (M:=model prog w) (X.keeps keep) (.ref (h.objs.size+1)) hf;unfold isInstance
 repeat (first|with_reducible refine Bi hget ?_|(with_reducible refine wpAny_isSubtype_exc hC1 ?_;rw [hcC])|wp_step)
 show wpAny _ _ (typeLookup (.ref C) _) _ _ _;refine wpAny_typeLookup_tail hC1 hn1 T1 F.mroIs F.init.lookup ?_;rw [hni];refine Bw (Ab (B1.at ?_));refine Ab (ED (Ck hq λr s' z=>?_));cases r with
 |error e=>exact z
 |ok fl=>
  cases fl with
  |ret v=>
   obtain ⟨rfl,z⟩:=z;exact Af (Af z)
  |next=>exact z.elim
  |brk=>exact z.elim
  |cont=>exact z.elim
def aA1 {rest:List Value}(X:K.In h)(I:ClsI h C P f)(hf:typeIn K (.ref f)=some (.type "function"))(hrest:rest.length<=Ax)(hq:DR (model prog w) (A.under (.builtin "type.__call__" ⟨.ref C::rest,[]⟩)) (.call (.ref f) ⟨.ref (h.objs.size+1)::rest,[]⟩) (InitBack (h.objs.size+1) R) ⟨gC h C rest,g,d,t,os⟩) :
  DR (model prog w) A (.call (.ref C) ⟨rest,[]⟩) R ⟨h,g,d,t,os⟩:=by
 obtain ⟨nm,q,N,bs,sn,sub,ab,col,dd,k0,k1,k2,k3,k5,mN,hC,hn,hni,T⟩:=id I.ex;have f1:=tc_lookup;have f2:=tc_bind (.ref C);have hT:(⟨h,g,d,t,os⟩:Shared).TypeIs (.ref C) "type":=⟨_,hC,rfl⟩;refine Fy ?_;show wpAny _ _ (callAny (.ref C) _) _ _ _
 repeat (any_goals (first|assumption|with_reducible refine Bi hC ?_|wp_step))
 refine ⟨rfl,?_⟩;refine codeAny_call_builtin_at (DJ _ (by decide +kernel)) entry_typeCall (wpAny_check_type_call_sub hC (lQ X I hf hrest (Ck hq λr s' z=>?_)));cases r with
 |error e=>exact z
 |ok fl=>
  cases fl with
  |ret v=>exact z
  |next=>exact z.elim
  |brk=>exact z.elim
  |cont=>exact z.elim
end
def exN (a C:Addr)(dd:Option Addr):HO:=.ext λh=>∃ o t,(h.get? a=some o/\o.cls=.ref C/\o.dict=dd)/\o.data=.fields #[t,.none,.none,.none,.bool false,.none]
def rem (H:Hp)(a:Addr):Hp:=λb=>if b=a then none else H b
theorem mR (h:b≠a):rem H a b=H b:=by unfold rem;rw [if_neg h]
theorem lC :rem H a a=none:=by unfold rem;rw [if_pos rfl]
section
variable {X:Cx}{pins:List (Addr×Obj)}{σ:St}{H:Hp}{s:Shared}
def Inv.drop (I:Inv X pins σ H s){φ:Heap->Prop}(ha:H a=some (.ext φ)):Inv X pins σ (rem H a) s:=by
 have nn:∀ b,H b=none->rem H a b=none:=λb h=>by
  by_cases z:b=a
  ·rw [z];exact lC
  ·rw [mR z];exact h
 have oo:∀ b o,H b=some o->(∀ ψ,o≠.ext ψ)->rem H a b=some o:=λb o h n=>by
  by_cases z:b=a
  ·subst z;rw [h] at ha;cases ha;exact absurd rfl (n φ)
  ·rw [mR z];exact h
 refine ⟨I.ok,I.os,I.bare,⟨I.base.keep,I.base.slot,λb o e n hx=>nn b (I.base.free b o e n hx),I.base.there,λb xs e=>oo b _ (I.base.tups b xs e) (λ_ z=>by cases z),λb o x e=>oo b _ (I.base.frzs b o x e) (λ_ z=>by cases z),λb ps e=>?_⟩,I.loc,I.cell,nn _ I.free,λx c e=>nn _ (I.freeC x c e),λp hp=>?_,λb o e=>?_,I.len⟩
 ·obtain ⟨m,z⟩:=I.base.tbls b ps e
  exact ⟨m,oo b _ z (λ_ q=>by cases q)⟩
 ·obtain ⟨a1,a2,a3⟩:=I.pin p hp
  exact ⟨a1,nn _ a2,a3⟩
 ·by_cases z:b=a
  ·rw [z,lC] at e;cases e
  ·rw [mR z] at e
   exact (I.hok b o e).stay (λ_ _ _ q=>q) (λc q=>oo c _ q (λ_ z=>by cases z)) (λc xs q=>oo c _ q (λ_ z=>by cases z))
def Inv.exnew (I:Inv X pins σ H s)(C:Addr)(us:List Value):Inv X pins σ (upd H (s.heap.objs.size+1) (exN (s.heap.objs.size+1) C none)) { s with heap:=gC s.heap C us }:=by
 refine I.laid (a:=s.heap.objs.size+1) (t':=s.toks) (λb u e=>Ac _ (Ac _ e)) (Dm _) ?_;have hget:(gC s.heap C us).get? (s.heap.objs.size+1)=some { cls:=.ref C,data:=.fields #[.ref s.heap.objs.size,.none,.none,.none,.bool false,.none] }:=by unfold gC;heap_get
 exact ⟨⟨_,_,⟨hget,rfl,rfl⟩,rfl⟩,⟨_,hget⟩,λh1 h2 ⟨o,t,⟨e1,e2,e3⟩,e4⟩ k=>⟨o,t,⟨k o e1,e2,e3⟩,e4⟩⟩
def tF {M:Model}{A:Around}{E:Value->Shared->Prop}{env:Env}{x:Sem Value}{C:Addr}{K:Frag}{s:Shared}{Q:Flow->Shared->Prop}(hh:A.handled=none)(F:ExK K C)(hk:∃ oC,K.lookup C=some oC/\oC.cls=.type "type")
  (h:wpAny M A x (λv s₁=>K.In s₁.heap/\∃ e ob us,v=.ref e/\s₁.heap.get? e=some ob/\ob.cls=.ref C/\ob.data=.fields us/\us[1]?=some .none/\E (.ref e) s₁) E s):wpAny M A (raiseStmt env (some x) none) Q E s:=by
 unfold raiseStmt;refine Ab (BW h (λv s₁ h₁=>?_) λ_ _ x=>x);obtain ⟨KX,e,ob,us,rfl,he,hc,hd,h1,hE⟩:=h₁;obtain ⟨hp,g,d,tk,os⟩:=s₁;have L1:=looks_subIn (M:=M) KX F.sb;obtain ⟨⟨cC,dC,tC,sC⟩,hkC,hkc⟩:=hk;have hC:=KX _ _ hkC;dsimp only at hkc;subst hkc;obtain ⟨oc,od,odt,osl⟩:=ob;dsimp only at hc hd;subst hc hd;have h1':=h1
 repeat (first|with_reducible refine Bi he ?_|with_reducible refine Bi hC ?_|with_reducible refine L1.at ?_|wp_step)
 rw [h1];refine Af ?_;rw [if_neg (by decide)];exact Af (wpAny_raiseNew_none hh hE)
end
def yW {K:Frag}{C P f:Addr}(q:xiIn K C P f=true):∃ oC,K.lookup C=some oC/\oC.cls=.type "type":=by
 unfold xiIn at q;split at q
 ·rename_i ho
  exact ⟨_,ho,rfl⟩
 ·cases q
structure ExI (K:Frag)(C P f:Addr):Prop where
 xi:xiIn K C P f=true
 fn:typeIn K (.ref f)=some (.type "function")
 kp:keepIn K (.ref C)=true
 k:ExK K C
def aCj (C:Addr)(sp:Sp)(E:XK)(t:TA):TS:=λ_ σ H=>t σ H λvs H1=>vs.length<=Ax/\∀ e,H1 e=none ->
 sp (.ref e::vs) (upd H1 e (exN e C none)) (λv H2=>v=.non/\∃ dd,H2 e=some (exN e C dd)/\E (.ref C) dd (rem H2 e)) E0
section
variable {X:Cx}
def iR {x:Str}{C P f:Addr}{fd:Bf}{ps:List Str}{sp:Sp}{k:Nat}{e₀:Expr}{es:List Expr}{t:TA}{E:XK}{np cpos pos:Pos}(hex:X.ex=[])(hX:XeOk X E)(hc:X.calm=true)(hr:Room (k+1) X.A)(hg:Gl X x)(hm:X.mg x=some (.ref C))(hei:ExI X.K C P f)
  (F:FnOk X.prog X.w X.K X.mg X.base CX0 k f fd ps sp) (hb:Binds X.K fd ps []) (ha:PA X (e₀::es) t)
  (hdb:(x==("__debug__":Str))=false:=by decide) (he:AU (e₀::es) X.env=(false,eval e₀ X.env)::AU es X.env:=by rfl) (hpl:(backTo cpos (AU es X.env)).any (·.1)=false:=by rfl) :
  PS X (.Raise (some (.Call (.Name x np) (e₀::es) [] cpos)) none pos) (aCj C sp E t):=by
 intro pins s σ H D I h;rw [arm_exec_Raise];refine Ab (Fo (tF (C:=C) (K:=X.K) (I.ok.hd hc) hei.k (yW hei.xi) ?_));refine Ab (thn (Q:=λv s₁=>X.K.In s₁.heap/\∃ e ob us,v=AD e/\s₁.heap.get? e=some ob/\ob.cls=.ref C/\ob.data=.fields us/\us[1]?=some .none/\X.xe (.ref e) s₁) ?_ λv s1 q=>Ab (Fo (Af q)));refine Dr (fA I hg hm ?_ hdb);refine En (h₀:=X.base) I.ok.mod.kin hei.kp (thn (ha cpos pins s σ H _ I h) λus s1 ⟨vs,H1,I1,r,hl,q⟩=>⟨I1.kIn,?_⟩) he hpl;have hn:H1 (s1.heap.objs.size+1)=none:=I1.hok.fresh (Dm _);have hq:=q (s1.heap.objs.size+1) hn;have I2:=I1.exnew C us;have r2:Vals (V.ref (s1.heap.objs.size+1)::vs) (AD (s1.heap.objs.size+1)::us):=.cons rfl r;have hlen:(AD (s1.heap.objs.size+1)::us++[]).length=ps.length:=by
  have e:=r2.length;rw [F.len _ _ _ _ hq] at e;rw [Cb];exact e.symm
 have n0:X.s₀.heap.get? (s1.heap.objs.size+1)=none:=I1.absent0 hex (Heap.get?_none_of_le (Dm _));obtain ⟨hh,g,d,tk,os⟩:=s1;refine ED (aA1 (f:=f) (P:=P) I1.kIn (jG I1.kIn hei.xi) hei.fn (by show us.length<=Ax;rw [<- r.length];exact hl) (Ck (F.run _ X.stack _ _ ⟨AD (hh.objs.size+1)::us,[]⟩ (AD (hh.objs.size+1)::us) _ _ E0 (hr.make C us [])
  (I2.env0.make C us []) (by have z:=hb _ (AD (hh.objs.size+1)::us) I2.kIn hlen;rw [Cb] at z;exact z) r2 hq) λr s' hq'=>?_))
 cases r with
 |error e=>exact hq'.elim
 |ok fl=>
  cases fl with
  |ret u=>
   obtain ⟨v,H',I3,rv,ev,dd,hd,hE⟩:=I2.after hq';subst ev;refine ⟨rv,?_⟩;obtain ⟨⟨o,t',⟨o1,o2,o3⟩,o4⟩,_⟩:=I3.hok _ _ hd;exact ⟨I3.kIn,_,o,_,rfl,o1,o2,o4,rfl,hX pins σ _ s' _ C o _ (I3.drop hd) lC n0 o1 o2 o4 rfl (by rw [o3];exact hE)⟩
  |next=>exact hq'.elim
  |brk=>exact hq'.elim
  |cont=>exact hq'.elim
end
end L2
namespace L2
open PySem PySem.Spec PyProof.Rows PySem.W PySem.Builtin PySem.Builtin.ObjectAttr
theorem tE (self:Value):refuseLoop self "__setattr__" bmV=pure ():=by
 kernel_rfl
section
variable {prog:Az}{w:World}{A:Around}{E:Value->Shared->Prop}{h:Heap}{g:Array GenState}{d:Drawn}{t:Nat}{os:OsState}{K:Frag}{C P f a:Addr}{o:Obj}{name:Str}{v:Value}
def gW (X:K.In h)(I:ClsI h C P f)(F:ExK K C)(sa:findIn K (.ref C) "__setattr__" = some (some (.builtin "object.__setattr__")))(nn:findIn K (.ref C) name=some none)(O:ExAt h a o C)(hq:∀ A' tk,wpAny (model prog w) A' (storeInOwnDict (.ref a) (.ref C) (.str name tk) name v false) (λfin s'=>∃ u,fin=.done (.ret u)/\Q () s') (λ_ _=>False) ⟨h,g,d,t+1,os⟩) :
  wpAny (model prog w) A (setAttr (.ref a) name v) Q E ⟨h,g,d,t,os⟩:=by
 obtain ⟨nm,q,N,bs,sn,sub,ab,col,dd,k0,k1,k2,k3,k5,mN,hC,hn,hni,T⟩:=I.ex;have SF:=PySem.F.store_object;have L1:=O.type (M:=model prog w);have L2':=looks_findIn (M:=model prog w) X sa;have L3:=looks_findIn (M:=model prog w) X nn;have L4:Looks (model prog w) h (isInstance (.ref a) (.type "object")) true:=L1.andThen (looks_subIn X F.so);refine Ab (wpAny_mkText (Ab (Ab (Ab (L1 _ _ _ _ (λ_ _ e=>e) (L2' _ _ _ _ (λ_ _ e=>e) (Bw ?_)))))));rw [SF.slot.bind];refine Ab (Af (Ab (ED ?_)));refine Cv SF.slot.plain SF.entry (@check_slot (model prog w) _ _ _ "object.__setattr__" "object" "__setattr__" (.ref a) [.str name t,v] [] _ SF.kind SF.split L4 (SF.args (.ref a) (.str name t) v) ?_);show wpAny _ _ (AH.«object.__setattr__» ⟨[.ref a,.str name t,v],[]⟩) _ _ _;rw [osa_eq,refuse_eq];refine Ab (Ab (L1.here (Ab (wpAny_mroOf_exc hC ?_))));rw [refuseLoop_ref,refuseLoop_ref,tE];refine Af (Ab (L1.here (Ab (L3.here (Ab (Af ?_))))));refine BW (hq _ t) (λfin s' z=>?_) λ_ _ z=>z.elim;obtain ⟨u,rfl,z⟩:=z;exact Af (Af z)
def xI (I:ClsI h C P f)(O:ExAt h a o C)(hd:o.dict=none)(hf:o.data=.fields us)(hq:Q (some h.objs.size) ⟨(h.push { cls:=.type "dict",data:=.dict #[] }).update a λob=>{ ob with dict:=some h.objs.size },g,d,t,os⟩):wpAny (model prog w) A (instanceDict a true) Q E ⟨h,g,d,t,os⟩:=by
 obtain ⟨nm,q,N,bs,sn,sub,ab,col,dd,k0,k1,k2,k3,k5,mN,hC,hn,hni,T⟩:=I.ex;have hx:=O.at_;obtain ⟨oc,od,odt,osl⟩:=o;have hc:=O.cls;dsimp only at hd hf hc;subst hd hf hc;have hx1:(h.push { cls:=.type "dict",data:=.dict #[] }).get? a=some ⟨.ref C,none,.fields us,osl⟩:=Ac _ hx;unfold instanceDict
 repeat (first|with_reducible refine Bi hx ?_|with_reducible refine Bi hC ?_|wp_step)
 exact hq
def nN (I:ClsI h C P f)(O:ExAt h a o C)(hd:o.dict=some dx)(hq:Q (some dx) ⟨h,g,d,t,os⟩)(b:Bool):wpAny (model prog w) A (instanceDict a b) Q E ⟨h,g,d,t,os⟩:=by
 obtain ⟨nm,q,N,bs,sn,sub,ab,col,dd,k0,k1,k2,k3,k5,mN,hC,hn,hni,T⟩:=I.ex;have hx:=O.at_;obtain ⟨oc,od,odt,osl⟩:=o;have hc:=O.cls;dsimp only at hd hc;subst hd hc;unfold instanceDict
 repeat (first|with_reducible refine Bi hx ?_|with_reducible refine Bi hC ?_|wp_step)
 exact hq
def qJ {tk:Tok}(hn:h.Ns1 dx mA)(hw:Within mA ns)(hz:ns.length<=100)(hq:∀ h' tk',h'.Ns1 dx (λy=>if y=name then some v else mA y)->(∀ b ob,b≠dx->h.get? b=some ob->h'.get? b=some ob)->Q (.done (.ret .none)) ⟨h',g,d,tk',os⟩) :
  wpAny (model prog w) A (storeInDict dx (.str name tk) name v) Q E ⟨h,g,d,t,os⟩:=by
 unfold storeInDict newKeyGuard;refine Ab (Af (Ab (wpAny_nsSet1 hn λh' hn' hs=>?_)));obtain ⟨oD,esD,epD,hoD,hdD,hcD⟩:=hn'.count (Within.cons name v hw);refine Ab (wpAny_lookBehind hoD (by rw [hdD];exact pastItsLine_dict (Bh hcD (by rw [AI,sizeLine_eq];omega))) ?_);exact Af (hq h' _ hn' λb ob nb q=>(hs.2 b nb).trans q)
def pQ (X:K.In h)(I:ClsI h C P f)(F:ExK K C)(sa:findIn K (.ref C) "__setattr__" = some (some (.builtin "object.__setattr__")))(nn:findIn K (.ref C) name=some none)(O:ExAt h a o C)(hd:o.dict=none)(hf:o.data=.fields us)(hq:∀ h' tk,h'.Ns1 h.objs.size (λy=>if y=name then some v else none)->h'.get? a=some { o with dict:=some h.objs.size }->(∀ b ob,b≠a->h.get? b=some ob->h'.get? b=some ob)->Q () ⟨h',g,d,tk,os⟩) :
  wpAny (model prog w) A (setAttr (.ref a) name v) Q E ⟨h,g,d,t,os⟩:=by
 refine gW X I F sa nn O λA' tk=>?_;have hx:=O.at_;have ne:a≠h.objs.size:=Aw (Aq hx);have hx1:(h.push { cls:=.type "dict",data:=.dict #[] }).get? a=some o:=Ac _ hx;unfold storeInOwnDict;refine Ab (Af ?_);show wpAny _ _ (ownDictForStores (.ref a) >>= _) _ _ _;refine Ab (xI I O hd hf ?_);have hgd:((h.push { cls:=.type "dict",data:=.dict #[] }).update a λob=>{ ob with dict:=some h.objs.size }).get? h.objs.size=some { cls:=.type "dict",data:=.dict #[] }:=
  (AW _ _ ne).trans (Heap.get?_push_at rfl rfl)
 have hga:((h.push { cls:=.type "dict",data:=.dict #[] }).update a λob=>{ ob with dict:=some h.objs.size }).get? a=some { o with dict:=some h.objs.size }:=by
  refine BP _ hx1 ?_;obtain ⟨oc,od,odt,osl⟩:=o;dsimp only at hf;subst hf;rfl
 have hnd:((h.push { cls:=.type "dict",data:=.dict #[] }).update a λob=>{ ob with dict:=some h.objs.size }).Ns h.objs.size (λ_=>none):=⟨_,#[],_,hgd,rfl,λe he=>absurd he (by simp),λ_=>rfl⟩;refine qJ (Heap.Ns1.of_empty hnd) (ns:=[]) Within.nil (by decide) λh' tk' hn' hk=>⟨_,rfl,hq h' tk' hn' (hk a _ ne hga) λb ob nb q=>hk b ob (Aw (Aq q)) ?_⟩;exact (AW _ _ (AQ nb)).trans (Ac _ q)
def nQ (X:K.In h)(I:ClsI h C P f)(F:ExK K C)(sa:findIn K (.ref C) "__setattr__" = some (some (.builtin "object.__setattr__")))(nn:findIn K (.ref C) name=some none)(O:ExAt h a o C)(hd:o.dict=some dx)(hn:h.Ns1 dx mA)(hw:Within mA ns)(hz:ns.length<=100)(hq:∀ h' tk,h'.Ns1 dx (λy=>if y=name then some v else mA y)->(∀ b ob,b≠dx->h.get? b=some ob->h'.get? b=some ob)->Q () ⟨h',g,d,tk,os⟩) :
  wpAny (model prog w) A (setAttr (.ref a) name v) Q E ⟨h,g,d,t,os⟩:=by
 refine gW X I F sa nn O λA' tk=>?_;unfold storeInOwnDict;refine Ab (Af ?_);show wpAny _ _ (ownDictForStores (.ref a) >>= _) _ _ _;refine Ab (nN I O hd ?_ true);exact qJ hn hw hz λh' tk' hn' hk=>⟨_,rfl,hq h' tk' hn' hk⟩
def lR {tk:Tok}(X:K.In h)(I:ClsI h C P f)(nn:findIn K (.ref C) name=some none)(O:ExAt h a o C)(hd:o.dict=some dx)(hf:o.data=.fields us)(hn:h.Ns dx mA)(hv:mA name=some v)(hq:Q (.done (.ret v)) ⟨h,g,d,t,os⟩):wpAny (model prog w) A (AH.«object.__getattribute__» ⟨[.ref a,.str name tk],[]⟩) Q E ⟨h,g,d,t,os⟩:=by
 have L1:=O.type (M:=model prog w);have L3:=looks_findIn (M:=model prog w) X nn;have hx:=O.at_;have hc:=O.cls;refine Ab (Af (Ab (Af ?_)));refine Ab (L1.here (Ab ?_));unfold find;refine Ab (L3.here ?_);refine Ab (Af ?_);refine Ab (Af ?_);unfold ownThenClass inOwnDict ObjectAttr.ownDict;refine Ab (Ab ?_);refine Ab (Bi hx ?_);rw [hf];refine nN I O hd ?_ false;refine wpAny_nsGet hn ?_;rw [hv];exact Ab (Dp (Af (Af hq)))
def nR {tk:Tok}(X:K.In h)(I:ClsI h C P f)(F:ExK K C)(nn:findIn K (.ref C) name=some none)(O:ExAt h a o C)(hd:o.dict=some dx)(hf:o.data=.fields us)(hn:h.Ns dx mA)(hv:mA name=some v)(hq:R (.ok (.ret v)) ⟨h,g,d,t,os⟩):DR (model prog w) A (.call (.builtin "BaseException.__getattribute__") ⟨[.ref a,.str name tk],[]⟩) R ⟨h,g,d,t,os⟩:=
 Cv Eo.ga.plain PySem.F.entry_bexc_ga (gX X F O (lR X I nn O hd hf hn hv hq))
def tW {tk:Tok}{fill expr:Bool}(X:K.In h)(I:ClsI h C P f)(F:ExK K C)(nn:findIn K (.ref C) name=some none)(O:ExAt h a o C)(hd:o.dict=some dx)(hf:o.data=.fields us)(hn:h.Ns dx mA)(hv:mA name=some v)(hh:handedIn v=true)(hq:Q v ⟨h,g,d,t,os⟩):wpAny (model prog w) A (getAttrBy (.ref a) (.str name tk) fill expr) Q E ⟨h,g,d,t,os⟩:=by
 have f3:=Eo.ga.bind (.ref a);have hx0:(expr&&onTheHeap (CZ "BaseException.__getattribute__"))=false:=by cases expr<;>rfl
 have hx2:(CZ "BaseException.__getattribute__" == CZ "object.__getattribute__")=false:=by decide +kernel
 have hx1:(onTheHeap (AD C)&&CZ "BaseException.__getattribute__" == CZ "object.__getattribute__")=false:=by rw [hx2];rfl
 have L1:=looks_findIn (M:=model prog w) X F.ga;have L2':=looks_findIn (M:=model prog w) X F.gt;have hx:=O.at_;have hc:=O.cls
 repeat (any_goals (first|assumption|(with_reducible refine Bi hx ?_;rw [hc])|with_reducible refine L1.at ?_|with_reducible refine L2'.at ?_|wp_step))
 refine nR X I F nn O hd hf hn hv ?_
 repeat (any_goals (first|assumption|exact handed_on hh hq|wp_step))
end
structure ExF (K:Frag)(C P f:Addr)(x:Str):Prop where
 i:ExI K C P f
 sa:findIn K (.ref C) "__setattr__" = some (some (.builtin "object.__setattr__"))
 nn:findIn K (.ref C) x=some none
def xdE (a:Addr)(fs:List (Str×V)):HO:=.ext λh=>∃ mA,h.Ns1 a mA/\(∀ g,RelO (fs.lookup g) (mA g))/\Within mA (fs.map (·.1))
def aA8 {w:World}{fs:List (Str×V)}(n:h.Ns1 a mA)(r:∀ g,RelO (fs.lookup g) (mA g))(wi:Within mA (fs.map (·.1))):ObjOk P w H h a (xdE a fs):=by
 obtain ⟨o,es,ep,e,q⟩:=id n;exact ⟨⟨mA,n,r,wi⟩,⟨o,e⟩,λh1 h2 ⟨m,n1,r1,w1⟩ k=>⟨m,n1.at k,r1,w1⟩⟩
def aB0 {w:World}{dd:Option Addr}(e:h.get? a=some o)(c:o.cls=.ref C)(dq:o.dict=dd)(fd:o.data=.fields #[t,.none,.none,.none,.bool false,.none]):ObjOk P w H h a (exN a C dd):=
 ⟨⟨o,t,⟨e,c,dq⟩,fd⟩,⟨o,e⟩,λh1 h2 ⟨o,t,⟨e1,e2,e3⟩,e4⟩ k=>⟨o,t,⟨k o e1,e2,e3⟩,e4⟩⟩
section
variable {X:Cx}{pins:List (Addr×Obj)}{σ:St}{H:Hp}{s:Shared}{o e value:Expr}{x:Str}{pos pos':Pos}{ta tv:TE}{C P f:Addr}
def Inv.trackNew (I:Inv X pins σ H s)(I':Inv X pins σ H' s')(hex:X.ex=[])(n:s.heap.get? a=none)(hn:H' a=none)(ok:ObjOk X.prog X.w (upd H' a u) s'.heap a u):Inv X pins σ (upd H' a u) s':=by
 refine I'.track hn (I.absent0 hex n) (λz=>?_) (λy c q z=>?_) (λp q z=>?_) ok
 ·obtain ⟨m,⟨oL,_,_,hoL,_⟩,_⟩:=I.loc
  rw [<- z,n] at hoL;cases hoL
 ·obtain ⟨v,o,ho,_⟩:=I.cell y c q
  rw [z,n] at ho;cases ho
 ·have:=(I.pin p q).1
  rw [z,n] at this;cases this
def sExN (K:Frag)(C P f:Addr)(ta tv:TE)(x:Str):TS:=λD σ H=>tv σ H λy H1=>ta σ H1 λz H2=>∃ a,z=.ref a/\H2 a=some (exN a C none)/\ExF K C P f x /\
 ∀ dx,H2 dx=none->dx≠a->D.nx σ (upd (upd H2 a (exN a C (some dx))) dx (xdE dx [(x,y)]))
def vH (hex:X.ex=[])(ha:PE X o ta)(hv:PE X value tv)(hs:swapsWith value (some (.Attribute o x pos')) pos.line X.env=pure false):PS X (.Assign [.Attribute o x pos'] value pos) (sExN X.K C P f ta tv x):=by
 intro pins s σ H D I h;refine EX (thn (hv pins s σ H _ I h) λu s1 ⟨y,H1,I1,ry,q⟩=>thn (ha pins s1 σ H1 _ I1 q) λov s2 ⟨z,H2,I2,rx,a,ez,ea,F,q2⟩=>?_) hs;subst ez;obtain rfl:ov=AD a:=rx;obtain ⟨⟨ob,t',⟨o1,o2,o3⟩,o4⟩,_⟩:=I2.hok _ _ ea;have nz:s2.heap.get? s2.heap.objs.size=none:=Heap.get?_none_of_le (Ak _);have Hz:H2 s2.heap.objs.size=none:=I2.hok.fresh (Ak _);have ne:s2.heap.objs.size≠a:=Dz (Aq o1);obtain ⟨hh,g,d,tk,os⟩:=s2;refine pQ I2.kIn (jG I2.kIn F.i.xi) F.i.k F.sa F.nn ⟨o1,o2⟩ o3 o4 λh' tk' hn' ga ks=>?_;have J1:Inv X pins σ (upd H2 a (exN a C (some hh.objs.size))) ⟨h',g,d,tk',os⟩:=by
  refine I2.write (x:=a) (e:=a) (t':=tk') (by rw [ea];exact DF) (.inl rfl) ks ⟨_,ga⟩ ?_;exact aB0 ga o2 rfl o4
 have J2:=I2.trackNew J1 (a:=hh.objs.size) (u:=xdE hh.objs.size [(x,y)]) hex nz (by rw [aH ne];exact Hz) (aA8 hn' (λg=>?_) (λg hg=>?_))
 ·exact ⟨σ,_,J2,q2 _ Hz ne⟩
 ·by_cases z:g=x
  ·subst z
   simp only [DB,beq_self_eq_true,if_true];exact ry
  ·have:([(x,y)]:List (Str×V)).lookup g=none:=by
    simp only [DB];rw [beq_eq_false_iff_ne.mpr z]
   rw [this,if_neg z];exact DF
 ·by_cases z:g=x
  ·rw [z];simp
  ·rw [if_neg z] at hg
   exact absurd rfl hg
end
section
variable {prog:Az}{w:World}{A:Around}{E:Value->Shared->Prop}{h:Heap}{g:Array GenState}{d:Drawn}{t:Nat}{os:OsState}{K:Frag}{C P f a:Addr}{o:Obj}{v:Value}
def uB {rest:List Value}(I:ClsI h C P f)(O:ExAt h a o C)(hf:o.data=.fields us)(h0:us[0]?=some a0)(hz:rest.length<=Ax)(hq:Q .none ⟨(h.push { cls:=.type "tuple",data:=.seq rest.toArray }).update a (Ea (·.setIfInBounds 0 (.ref h.objs.size))),g,d,t,os⟩) :
  wpAny (model prog w) A (call (.builtin "ValueError.__init__") (.ref a::rest)) Q E ⟨h,g,d,t,os⟩:=by
 obtain ⟨nm,q,N,bs,sn,sub,ab,col,dd,k0,k1,k2,k3,k5,mN,hC,hn,hni,T⟩:=I.ex;have F:=PySem.F.excBase_ValueError;have z0:0<us.size:=(Cp.mp h0).1;have g1:=Ac (h:=h) { cls:=.type "tuple",data:=.seq rest.toArray } O.at_;refine ED (Cv F.init.plain F.initEntry (wpAny_check_init_subU F T hC O.at_ O.cls ?_));unfold AH.«BaseException.__init__»;dsimp only;rw [if_neg (by simp)];unfold newTuple AH.BaseException.bexcPut;refine Ab (AZ ?_ (by show rest.toArray.size<=Ax;rw [Ai];exact hz));refine Ab (Ab (BM g1 hf h0 (Ab (Fe g1 hf z0 ?_))));split
 ·refine wpAny_letGo ?_
  exact Af hq
 ·exact Af (Af hq)
end
structure BaseI (K:Frag)(P:Addr):Prop where
 rd:readsIn K P (.type "type")=true
 fc:findCls K (.ref P) (.type "type") "__init__" = some (.val (.builtin "ValueError.__init__"))
 ga:specialIn K (.ref P) "__getattribute__" = some (some (.builtin "type.__getattribute__"))
section
variable {X:Cx}{C P f:Addr}{x:Str}{p apos pos:Pos}{e₁ e₂:Expr}{t:TA}
def aE6 (K:Frag)(P:Addr)(t:TA):TE:=λσ H Q=>t σ H λvs H1=>∃ a C dd f txt,vs=[.ref a,.str txt]/\H1 a=some (exN a C dd)/\ExI K C P f/\Q .non H1
theorem aEu (h:H a=some o):upd H a o=H:=by
 funext b
 by_cases z:b=a
 ·rw [z,aB,h]
 ·rw [aH z]
def lD {pl:Sem Bool}(hg:Gl X x)(hm:X.mg x=some (.ref P))(B:BaseI X.K P)(ha:PA X [e₁,e₂] t)(hdb:(x==("__debug__":Str))=false:=by decide)
  (hst:AU [e₁,e₂] X.env=(false,eval e₁ X.env)::AU [e₂] X.env:=by rfl) (hpl:(backTo pos (AU [e₂] X.env)).any (·.1)=false:=by rfl)
  (ht:eval (.Call (.Attribute (.Name x p) "__init__" apos) [e₁,e₂] [] pos) X.env=(do
   let ov <- eval (.Name x p) X.env
   standAt apos.atName
   let (f,first) <- holding [ov] (getMethod ov "__init__" pl)
   callWith pos f first (backTo pos (AU [e₁,e₂] X.env)) (backToKw pos (keywordEach [] X.env))):=by rfl) :
  PE X (.Call (.Attribute (.Name x p) "__init__" apos) [e₁,e₂] [] pos) (aE6 X.K P t):=by
 intro pins s σ H Q I h;refine PySem.W.methodCall_KW (pl:=pl) (fA I hg hm ?_ hdb) ht;refine method_cls I.kIn B.ga (cls_value I.kIn B.rd B.fc rfl ?_);have I0:=I.tok (s.toks+1);have hA:=ha pos pins _ σ H _ I0 h;rw [hst] at hA ⊢;refine CV (by show (false||(backTo pos (AU [e₂] X.env)).any (·.1))=false;rw [hpl]<;>rfl) (EV (thn hA λus s2 ⟨vs,H2,I2,r2,a,C,dd,f,txt,e1,ea,F,q2⟩=>?_));subst e1;obtain ⟨u1,u2,rfl,ra,rt⟩:=r2.two;obtain rfl:u1=AD a:=ra;obtain ⟨⟨ob,t',⟨o1,o2,o3⟩,o4⟩,_⟩:=I2.hok _ _ ea;obtain ⟨hh,g,d,tk,os⟩:=s2;refine uB (jG I2.kIn F.xi) ⟨o1,o2⟩ o4 rfl zLn1 ?_;have g1:=Ac (h:=hh) { cls:=.type "tuple",data:=.seq [u2].toArray } o1;have d1:=EC o4 (·.setIfInBounds 0 (AD hh.objs.size));have g2:=BP (Ea (·.setIfInBounds 0 (AD hh.objs.size))) g1 (ES d1);have J:Inv X pins σ (upd H2 a (exN a C dd)) ⟨(hh.push { cls:=.type "tuple",data:=.seq [u2].toArray }).update a (Ea (·.setIfInBounds 0 (.ref hh.objs.size))),g,d,tk,os⟩:=by
  refine I2.write (x:=a) (e:=a) (t':=tk) (by rw [ea];exact DF) (.inl rfl) (λb u nb q=>?_) ⟨_,g2⟩ ?_
  ·exact (AW _ _ (AQ nb)).trans (Ac _ q)
  ·exact aB0 g2 ((Obj.cls_mapFields _ _).trans o2) ((xY _ _).trans o3) d1
 rw [aEu ea] at J;exact ⟨.non,H2,J,rfl,q2⟩
def tExF (K:Frag)(ta:TE)(x:Str):TE:=λσ H Q=>ta σ H λz H1=>∃ a C P f dx fs v,z=.ref a/\H1 a=some (excD a C (some dx))/\H1 dx=some (xdE dx fs)/\ExF K C P f x/\fs.lookup x=some v/\Q v H1
def jT {e:Expr}{ta:TE}(he:PE X e ta)(hb:Ej e x X.env (eval e X.env)=eval e X.env):PE X (.Attribute e x pos) (tExF X.K ta x):=by
 intro pins s σ H Q I h;refine yP hb (thn (he pins s σ H _ I h) λu s1 ⟨z,H1,I1,rx,a,C,P,f,dx,fs,v,ez,ea,ed,F,l,q⟩=>?_);subst ez;obtain rfl:u=AD a:=rx;obtain ⟨⟨ob,O,od,us,ou⟩,_⟩:=I1.hok _ _ ea;obtain ⟨⟨mA,n1,r1,_⟩,_⟩:=I1.hok _ _ ed;obtain ⟨w',hw,rw'⟩:=RelO.some_of (by rw [<- l];exact r1 x);unfold getAttr;refine Ab (wpAny_mkText ?_);have I2:=I1.tok (s1.toks+1);obtain ⟨hh,g,d,tk,os⟩:=s1;exact tW I1.kIn (jG I1.kIn F.i.xi) F.i.k F.nn O od ou n1.ns hw (nO rw') ⟨v,H1,I2,rw',q⟩
end
end L2
namespace L2
open PySem PySem.Spec PyProof.Rows PySem.W
def FmtV:V->Str->Prop
 |.int i,x=>i.natAbs.log2<1920/\x=(toString i:String)
 |.str y,x=>y.length<=Ax/\x=y
 |.non,x=>x = "None"
 |_,_=>False
def tFmt (ta:TE):TE:=λσ H Q=>ta σ H λv H1=>∃ x,FmtV v x/\Q (.str x) H1
abbrev TJ:=Str->St->Hp->(Str->Hp->Prop)->Prop
def PJ (X:Cx)(es:List Expr)(t:TJ):Prop:=
 ∀ (acc:Str) (pins:List (Addr×Obj)) (s:Shared) (σ:St) (H:Hp) (Q:Str->Hp->Prop),Inv X pins σ H s->t acc σ H Q->wpAny (model X.prog X.w) X.A (joinParts acc (evalEach es X.env)) (EP X pins σ λv H'=>∃ x,v=.str x/\Q x H') X.xe s
def jNil:TJ:=λacc _ H Q=>acc.length<=Ax/\Q acc H
def aH8 (te:TE)(tr:TJ):TJ:=λacc σ H Q=>te σ H λv H1=>∃ x,v=.str x/\(acc++x).length<=Ax/\tr (acc++x) σ H1 Q
def aHg (t:TJ):TE:=λσ H Q=>t Str.empty σ H λx H'=>Q (.str x) H'
section
variable {X:Cx}{value e e':Expr}{es:List Expr}{ta te:TE}{tr t:TJ}{pos:Pos}
def jS (ha:PE X value ta):PE X (.FormattedValue value (-1) none pos) (tFmt ta):=by
 intro pins s σ H Q I h;refine FormattedValue_plain (thn (ha pins s σ H _ I h) λu s1 ⟨v,H1,I1,rv,x,fx,q⟩=>?_);cases v with
 |int i=>
  obtain ⟨t,rfl⟩:=rv;obtain ⟨hl,rfl⟩:=fx;exact formatField_int_small hl ⟨.str _,H1,I1.tok _,⟨_,rfl⟩,q⟩
 |str y=>
  obtain ⟨t,rfl⟩:=rv;obtain ⟨hl,rfl⟩:=fx;exact formatField_str (λt' tk=>⟨.str x,H1,I1.tok _,⟨_,rfl⟩,q⟩) hl
 |non=>
  cases rv;cases fx;exact wpAny_formatField_none ⟨.str _,H1,I1.tok _,⟨_,rfl⟩,q⟩
 |bl _=>exact fx.elim
 |byt _=>exact fx.elim
 |flt _=>exact fx.elim
 |ref _=>exact fx.elim
 |ty _=>exact fx.elim
def vL:PJ X [] jNil:=λacc pins s σ H Q I h=>joinParts_nil ⟨.str acc,H,I.tok _,⟨_,rfl⟩,acc,rfl,h.2⟩ h.1
def dE (he:PE X e te)(hr:PJ X es tr):PJ X (e::es) (aH8 te tr):=by
 intro acc pins s σ H Q I h;show wpAny _ _ (joinParts acc (eval e X.env::evalEach es X.env)) _ _ _;refine joinParts_cons (thn (he pins s σ H _ I h) λu s1 ⟨v,H1,I1,rv,x,ev,hz,q⟩=>?_);subst ev;obtain ⟨t,rfl⟩:=rv;exact ⟨hz,hr _ pins s1 σ H1 Q I1 q⟩
def pE (h:PJ X (e::e'::es) t):PE X (.JoinedStr (e::e'::es) pos) (aHg t):=by
 intro pins s σ H Q I hw;refine JoinedStr_many (thn (h _ pins s σ H _ I hw) λu s1 ⟨v,H1,I1,rv,x,ev,q⟩=>?_);subst ev;exact ⟨.str x,H1,I1,rv,q⟩
end
def Its (x:Str):It:=⟨λi _=>∃ c,x.cps[i]?=some c,λi H v H'=>H'=H/\∃ c,x.cps[i]?=some c/\v=.str ⟨#[c]⟩,λi _=>x.cps[i]?=none⟩
def yX {P:Az}{w:World}{K:Frag}{tg:Expr}(x:Str)(t:Tok)(it:Addr)(b:Bool) :
  Turn P w K tg (Its x) [it] it (λi h=>h.IsStrIter it (if b then "str_ascii_iterator" else "str_iterator") x t i) where
 mem:=by simp
 obj:=λi h st a ha=>by
  have e:a=it:=by simpa using ha
  subst e;obtain ⟨o,e,c,d⟩:=st;exact ⟨o,e,λv z=>by rw [d] at z;cases z⟩
 keep:=λi h h' ⟨o,e,r⟩ k=>⟨o,k it (by simp) o e,r⟩
 item:=by
  intro X hP hw hK hc i pins s σ H E I hf st hg;subst hP hw hK;obtain ⟨c,hx⟩:=hg;obtain ⟨f0,f1,f2,f3,f4,f5⟩:=hf it (by simp);have go:∀ h',h'.IsStrIter it (if b then "str_ascii_iterator" else "str_iterator") x t (i+1)->Ci it s.heap h' ->
    ∃ u,(some (Value.str ⟨#[c]⟩ s.toks))=some u/\wpAny (model X.prog X.w) X.A (Fx tg (.ref it) u) (λ_ s2=>∃ v H',Inv X pins σ H' s2/\RelV v u/\(Its x).yld i H v H'/\s2.heap.IsStrIter it (if b then "str_ascii_iterator" else "str_iterator") x t (i+1)/\∀ b∈[it],H' b=none) E { s with heap:=h',toks:=s.toks+1 }:=by
   intro h' st' sb;have I1:Inv X pins σ H { s with heap:=h',toks:=s.toks+1 }:=I.turned (t':=s.toks+1) (λb o hb e=>(sb.2 b hb).trans e) f0 f1 f3 f4 f5;obtain ⟨o,e,cc,d⟩:=id st';exact ⟨_,rfl,xK (s:={ s with heap:=h',toks:=s.toks+1 }) e cc d (by cases b<;>decide) ⟨.str ⟨#[c]⟩,H,I1,⟨_,rfl⟩,⟨rfl,c,hx,rfl⟩,st',λb hb=>(hf b hb).1⟩⟩
  cases b with
  |true=>exact wpAny_pyNext_ascii_item st hx go
  |false=>exact wpAny_pyNext_wide_item st hx go
 done:=by
  intro X hP hw hK hc i pins s σ H E I hf st hg;subst hP hw hK;obtain ⟨f0,f1,f2,f3,f4,f5⟩:=hf it (by simp);cases b with
  |true=>exact wpAny_pyNext_ascii_end (I.ok.hd hc) st hg λh' eb=>⟨rfl,I.turned (t':=s.toks) (λb o hb e=>eb b o hb e) f0 f1 f3 f4 f5⟩
  |false=>exact wpAny_pyNext_wide_end (I.ok.hd hc) st hg λh' eb=>⟨rfl,I.turned (t':=s.toks) (λb o hb e=>eb b o hb e) f0 f1 f3 f4 f5⟩
 self:=λ_ _ _ _ _ st h=>by
  cases b with
  |true=>exact wpAny_pyIter_striter_ascii st h
  |false=>exact wpAny_pyIter_striter_wide st h
def iStr (tl:TE):TI:=λσ H R=>tl σ H λv H1=>∃ x,v=.str x/\R (Its x) H1
section
variable {X:Cx}
def aBn {tg l:Expr}{tl:TE}(hl:PE X l tl):PI X tg l (iStr tl):=by
 intro pins s σ H R I h;refine thn (hl pins s σ H _ I h) λv s1 ⟨y,H1,I1,r1,x,ey,q⟩=>?_;subst ey;obtain ⟨t,rfl⟩:=r1;have fin:∀ b:Bool,PIE X pins σ tg R (.ref s1.heap.objs.size) { s1 with heap:=s1.heap.push { cls:=.type (if b then "str_ascii_iterator" else "str_iterator"),data:=.fields #[.str x t,.int 0 0] } }:=by
  intro b;refine ⟨s1.heap.objs.size,[s1.heap.objs.size],_,_,H1,rfl,I1.kept (t':=s1.toks) λb o e=>Ac _ e,yX x t _ b,⟨_,Ah _ rfl,rfl,rfl⟩,λb hb=>?_,q⟩;have e:b=s1.heap.objs.size:=by simpa using hb
  subst e;exact I1.fpOk (Ak _) (I1.hok.fresh (Ak _))
 cases ha:x.cps.all (·<128) with
 |true=>exact wpAny_pyIter_ascii ha (fin true)
 |false=>exact wpAny_pyIter_wide ha (fin false)
end
def rPart:V->List V->Hp->VK->Prop:=λz vs H Q=>∃ x y,z=.str x/\vs=[.str y]/\(y.length==0)=false/\x.length<=Ax/\∀ p,H p=none->Q (.ref p) (upd H p (.tup [.str (Txt.partition x y).1,.str (Txt.partition x y).2.1,.str (Txt.partition x y).2.2]))
def rSplit:V->List V->Hp->VK->Prop:=λz vs H Q=>∃ x y,z=.str x/\vs=[.str y]/\(y.length==0)=false/\x.length+2<=Ax/\∀ p,H p=none->Q (.ref p) (upd H p (.lst ((Txt.split x y).map V.str)))
section
variable {X:Cx}
end
section
variable {X:Cx}
def yY {w:World}{b:Bool}(h:Q b s):wpAny (model prog w) A (truthy (.bool b)) Q E s:=by
 cases b<;>exact Af h
def range_any {bs:List Bool}:(Be bs.length).any (λi=>bs.getD i false)=bs.any id:=by
 rw [DQ];simp only [List.any_eq_true,Dj,id];constructor
 ·rintro ⟨i,hi,h⟩
  exact ⟨bs[i],DE hi,by simpa [List.getD,hi] using h⟩
 ·rintro ⟨b,hb,h⟩
  obtain ⟨i,hi,rfl⟩:=List.getElem_of_mem hb;exact ⟨i,hi,by simpa [List.getD,hi] using h⟩
theorem range_all {bs:List Bool}:(Be bs.length).all (λi=>bs.getD i false)=bs.all id:=by
 rw [DQ];simp only [CJ,Dj,id];constructor
 ·intro h b hb
  obtain ⟨i,hi,rfl⟩:=List.getElem_of_mem hb
  simpa [List.getD,hi] using h i hi
 ·intro h i hi
  simpa [List.getD,hi] using h bs[i] (DE hi)
def sP {σ:St}(I:Inv X pins σ H s)(hc:X.calm=true){p:Addr}{bs:List Bool}(hq:SqL X.K H p (bs.map V.bl)){E:Value->Shared->Prop}{k:(Nat->Bool)->Nat->Bool}(q:Q (.bl (k (λi=>bs.getD i false) bs.length)) H) :
  wpAny (model X.prog X.w) X.A.in1 (pyIter (.ref p)) (λit s₂=>∃ J fp wr n P St tr,it=.ref J/\Walks X.prog X.w X.A.in1 J fp wr n P St/\St 0 s₂.heap/\TruthOf X.prog X.w X.A.in1 P tr /\
   ∀ h' tk,(∀ b o,b∉wr->s₂.heap.get? b=some o->h'.get? b=some o)->EP X pins σ Q (.bool (k tr n)) { s₂ with heap:=h',toks:=tk }) E s:=by
 obtain ⟨its,rv,pl,hz⟩:=I.list hq;have hl:=rv.length;rw [Ag] at hl;have ne:p≠s.heap.objs.size:=by
  obtain ⟨o,n,e,_⟩:=pl;exact Aw (Aq e)
 refine wpAny_pyIter_list pl.isList ?_;have keep:∀ b o,s.heap.get? b=some o->(s.heap.push { cls:=.type "list_iterator",data:=.fields #[.ref p,.int 0 0] }).get? b=some o:=λb o e=>Ac _ e;refine ⟨s.heap.objs.size,_,_,_,_,_,λi=>bs.getD i false,rfl,Walks.list (A:=X.A.in1) (show X.A.in1.handled=none from I.ok.hd hc) s.heap.objs.size p ne its.toArray,⟨⟨_,Ah _ rfl,rfl,rfl⟩,pl.isList.at λo e=>keep p o e⟩,?_,?_⟩
 ·intro i v s' Q' E' hv hQ
  have hv':its[i]?=some v:=by simpa using hv
  have hi:i<bs.length:=by rw [hl];exact (Ae.mp hv').1
  obtain ⟨u,hu,ru⟩:=rv.get (show (bs.map V.bl)[i]?=some (.bl bs[i]) by simp [hi]);rw [hv'] at hu;cases hu;cases ru;have e:bs.getD i false=bs[i]:=by simp [List.getD,hi]
  dsimp only at hQ;rw [e] at hQ;exact yY hQ
 ·intro h' tk kp
  have J:Inv X pins σ H { s with heap:=h',toks:=tk }:=I.kept (t':=tk) λb o e=>kp b o (by
   have lt:=Aq e;intro z;have z':b=s.heap.objs.size:=by simpa using z
   rw [z'] at lt;exact CB _ lt) (keep b o e)
  have es:its.toArray.size=bs.length:=by rw [Ai];omega
  rw [es];exact ⟨.bl _,H,J,rfl,q⟩
def oE (hc:X.calm=true):eU X (.builtin "all") (λxs H Q=>∃ p,∃ bs:List Bool,xs=[.ref p]/\SqL X.K H p (bs.map V.bl)/\Q (.bl (bs.all id)) H):=by
 intro pins s σ H xs us Q I r h;obtain ⟨p,bs,rfl,hq,q⟩:=h;obtain ⟨u,rfl,rx⟩:=vals1 r;cases rx;exact call_all_walk (sP I hc hq (k:=λtr n=>(Be n).all tr) (by rw [range_all];exact q))
end
end L2
namespace TM
open PySem PySem.NumText
def dg (n:Nat):List Nat:=(Nat.toDigits 10 n).map Char.toNat
def aGx {n:Nat}(h:n<10^60):(dg n).length<=60:=by
 unfold dg;rw [Ag];exact PyProof.Rows.digits10_le (by decide) h
structure Fig (cs:List Nat):Prop where
 ne:cs≠[]
 len:cs.length<=60
 all:AllDigits cs
 no:cs.head?=some 48->cs.length=1
def Reads (L:List Nat)(t b:Nat):Prop:=
 (Fig L/\t=digitsVal L/\b=1)\/∃ p q,L=p++47::q/\Fig p/\Fig q/\t=digitsVal p/\b=digitsVal q/\2<=b/\Nat.gcd t b=1
def showL (t b:Nat):List Nat:=if b=1 then dg t else dg t++47::dg b
end TM
namespace TM
open PySem PySem.StrLaws PySem.Builtin PySem.Builtin.Str
abbrev cps (x:Str):List Nat:=x.cps.toList
abbrev sl:Str:=⟨#[47]⟩
def ext (h:cps x=cps y):x=y:=by
 obtain ⟨⟨a⟩⟩:=x;obtain ⟨⟨b⟩⟩:=y;have h':a=b:=h;rw [h']
theorem dY (x y:Str):cps (x++y)=cps x++cps y:=by
 show (x.cps++y.cps).toList=_;rw [Array.toList_append]
end TM
namespace L2
open PySem PySem.Spec PyProof.Rows PySem.W
def rCount:V->List V->Hp->VK->Prop:=λx vs H Q=>∃ l xs y,x=.ref l/\vs=[y]/\H l=some (.lst xs)/\eR y=true/\xs.all eR=true/\Q (.int ((xs.countP λz=>eqV z y:Nat):Int)) H
def rIndex:V->List V->Hp->VK->Prop:=λx vs H Q=>∃ l xs y,∃ j:Nat,∃ z,x=.ref l/\vs=[y]/\H l=some (.lst xs)/\eR y=true/\xs.all eR=true/\xs[j]?=some z/\eqV z y=true /\
 (∀ m z,m<j->xs[m]?=some z->eqV z y=false)/\Q (.int (j:Int)) H
section
variable {X:Cx}
end
def aG1:Cd "ValueError" = some (.type "ValueError"):=by decide +kernel
def Nx (n i:Nat)(P:Prop):Prop:=∃ m',m'<n-i/\m'=n-(i+1)/\i+1<=n/\P
def Nx.mk {n i:Nat}{P:Prop}(h:i<n)(p:P):Nx n i P:=⟨n-(i+1),by omega,rfl,h,p⟩
def oH {σ:St}:BlkN X N' scope cl σ (CO N'.length none):=by
 refine ⟨by simp,λi x v h1 h2=>?_⟩;rw [Ex] at h2;split at h2<;>cases h2
def aA5 {D:Addr}{x:Str}{g:TG}{tt:TT}{te:TE}{σ0:St}{QD:Hp->Prop}{H1:Hp}(Pv:Nat->List V->Hp->Prop)(h0:Pv 0 [] (upd H1 D (.lst [])))
  (hl:∀ i ys H,i<=x.cps.toList.length->Pv i ys H->H D=some (.lst ys)/\ys.length<Ax)
  (hs:∀ i c ys H,x.cps.toList[i]?=some c->Pv i ys H->g (.str ⟨#[c]⟩) σ0 H λσ2 H2=>Keep σ0 σ2/\tt σ2 H2 λb H3=>if b=true then te σ2 H3 λy H4=>H4 D=some (.lst ys)/\Nx x.cps.toList.length i (Pv (i+1) (ys++[y]) (upd H4 D (.lst (ys++[y])))) else Nx x.cps.toList.length i (Pv (i+1) ys H3))
  (hd:∀ ys H,Pv x.cps.toList.length ys H->QD H) :
  ∃ W:Nat->Nat->List V->Hp->Prop,(∃ m,W 0 m [] (upd H1 D (.lst []))) /\
   ∀ i m ys H,W i m ys H->H D=some (.lst ys)/\ys.length<Ax /\
    (((Its x).stop i H/\QD H)\/((Its x).go i H/\∀ v H',(Its x).yld i H v H'->g v σ0 H' λσ2 H2=>Keep σ0 σ2/\tt σ2 H2 λb H3=>
     if b=true then te σ2 H3 λy H4=>H4 D=some (.lst ys)/\∃ m',m'<m/\W (i+1) m' (ys++[y]) (upd H4 D (.lst (ys++[y]))) else ∃ m',m'<m/\W (i+1) m' ys H3)):=by
 refine ⟨λi m ys H=>m=x.cps.toList.length-i/\i<=x.cps.toList.length/\Pv i ys H,⟨x.cps.toList.length,by simp,BK _,h0⟩,?_⟩
 rintro i m ys H ⟨rfl,hi,p⟩
 obtain ⟨hD,hz⟩:=hl i ys H hi p;refine ⟨hD,hz,?_⟩
 by_cases hlt:i<x.cps.toList.length
 ·have e:x.cps[i]?=some x.cps.toList[i]:=by rw [<- Bq];exact Ad hlt
  refine .inr ⟨⟨_,e⟩,λv H' y=>?_⟩;obtain ⟨rfl,c,hc,rfl⟩:=y;exact hs i c ys _ (by rw [Bq];exact hc) p
 ·have e:i=x.cps.toList.length:=by omega
  subst e;refine .inl ⟨?_,hd ys H p⟩;show x.cps[x.cps.toList.length]?=none;rw [<- Bq];exact Bu (Ak _)
end L2
namespace L2
open PySem PySem.Spec PyProof.Rows
def dcE (a:Addr):HO:=.ext λh=>∃ o,h.get? a=some o/\o.cls=.type "dict"
def tDict0:TE:=λ_ H Q=>∀ p,H p=none->Q (.ref p) (upd H p (dcE p))
section
variable {X:Cx}{pos:Pos}
def IsiD (K:Aa)(H:Hp)(v:V)(T:String)(b:Bool):Prop:=Isi K H v T b\/∃ a,v=.ref a/\H a=some (dcE a)/\T = "str" /\ b=false
def yK:eU X (.builtin "isinstance") (λxs H Q=>∃ x T b,xs=[x,.ty T]/\IsiD X.K H x T b/\Q (.bl b) H):=by
 intro pins s σ H xs us Q I r h;obtain ⟨x,T,b,rfl,hi|⟨a,rfl,hH,rfl,rfl⟩,q⟩:=h
 ·exact eF pins s σ H _ us Q I r ⟨x,T,b,rfl,hi,q⟩
 ·obtain ⟨u,w',rfl,rx,ry⟩:=vals2 r
  cases ry;cases rx;obtain ⟨⟨o,e,c⟩,_⟩:=I.hok a _ hH;exact IsiPair.dict_str e c ⟨.bl false,H,I.tok _,rfl,q⟩
end
def rEqL (K:Aa):R2:=λx y H Q=>∃ a b xs ys,∃ e:Nat->Bool,x=.ref a/\y=.ref b/\SqL K H a xs/\SqL K H b ys/\(∀ (j:Nat) x y,xs[j]?=some x->ys[j]?=some y->DEq K H 40 x y (e j)) /\
 Q (.bl ((Be (min xs.length ys.length)).all e&&xs.length==ys.length)) H
def rNeL (K:Aa):R2:=λx y H Q=>∃ a b xs ys,∃ e:Nat->Bool,x=.ref a/\y=.ref b/\SqL K H a xs/\SqL K H b ys/\(∀ (j:Nat) x y,xs[j]?=some x->ys[j]?=some y->DEq K H 40 x y (e j)) /\
 Q (.bl (!((Be (min xs.length ys.length)).all e&&xs.length==ys.length))) H
section
variable {X:Cx}
def aD4 {σ:St}(I:Inv X pins σ H s)(hx:SqL X.K H a xs)(hy:SqL X.K H b ys)(hu:A.units<cLine)(hd:∀ (j:Nat) x y u v,xs[j]?=some x->ys[j]?=some y->RelV x u->RelV y v->Bm A.in1 s u v (e j)) :
  SeqAt.RcNeAt A s (.ref a) (.ref b) (!((Be (min xs.length ys.length)).all e&&xs.length==ys.length)):=by
 obtain ⟨its,r,tx,_⟩:=I.list hx;obtain ⟨its',r',ty,_⟩:=I.list hy;have l1:=r.length;have l2:=r'.length
 by_cases hl:xs.length=ys.length
 ·have q:=SeqAt.RcNeAt.lists (A:=A) (e:=e) (eB tx) (eB ty) (by rw [Ai,Ai];omega) hu (λj h1 h2=>?_)
  ·rw [Ai,<- l1] at q
   have e1:((Be (min xs.length ys.length)).all e&&xs.length==ys.length)=(Be xs.length).all e:=by
    rw [<- hl,Nat.min_self,beq_self_eq_true,Bool.and_true]
   rw [e1];exact q
  ·rw [Ai] at h1 h2
   obtain ⟨x,hxj⟩:∃ x,xs[j]?=some x:=⟨_,Ad (by omega)⟩;obtain ⟨y,hyj⟩:∃ y,ys[j]?=some y:=⟨_,Ad (by omega)⟩;obtain ⟨u1,hu1,ru1⟩:=r.get hxj;obtain ⟨u2,hu2,ru2⟩:=r'.get hyj;have e1:its.toArray[j]=u1:=by
    have:=(Ae.mp hu1).2
    simpa using this
   have e2:its'.toArray[j]=u2:=by
    have:=(Ae.mp hu2).2
    simpa using this
   rw [e1,e2];exact hd j x y u1 u2 hxj hyj ru1 ru2
 ·have q:=SeqAt.RcNeAt.lists_lengths (A:=A) (eB tx) (eB ty) (by rw [Ai,Ai,<- l1,<- l2,bne_iff_ne];exact hl) hu
  have e1:((Be (min xs.length ys.length)).all e&&xs.length==ys.length)=false:=by
   rw [beq_eq_false_iff_ne.mpr hl,Bool.and_false]
  rw [e1];exact q
def aBo (hu:X.A.units+64<cLine):OpR X (BN .NotEq) (rNeL X.K):=by
 intro pins s σ H x y v u Q I rx ry h;obtain ⟨a,b,xs,ys,e,rfl,rfl,hx,hy,hd,q⟩:=h;cases rx;cases ry;exact aD4 I hx hy (by omega) (λj x y u v h1 h2 r1 r2=>(hd j x y h1 h2).at I (by show X.A.units+1+40<cLine;omega) r1 r2) X.prog X.w X.xe _ ⟨.bl _,H,I,rfl,q⟩
end
def Sf (v:V):Prop:=eR v=true\/∃ a,v=.ref a
theorem aA2 (h:eR v=true):eqV v v=true:=by
 cases v<;>simp_all [eR,eqV]
def DEq.self {K:Aa}{H:Hp}{n:Nat}{v:V}(h:Sf v):DEq K H n v v true:=by
 rcases h with h|⟨a,rfl⟩
 ·have:=DEq.flat (K:=K) (H:=H) (n:=n) h h
  rwa [aA2 h] at this
 ·exact .same
theorem all_true (n:Nat)(m:Nat)(h:n=m):((Be (min n m)).all (λ_=>true)&&n==m)=true:=by
 subst h;rw [beq_self_eq_true,Bool.and_true,CJ];exact λ_ _=>rfl
def aHu (K:Aa):R2:=λx y H Q=>∃ a b xs,x=.ref a/\y=.ref b/\SqL K H a xs/\SqL K H b xs/\(∀ v∈xs,Sf v)/\Q (.bl false) H
def aDj (hu:X.A.units+64<cLine):OpR X (BN .NotEq) (aHu X.K):=by
 intro pins s σ H x y v u Q I rx ry h;obtain ⟨a,b,xs,rfl,rfl,hx,hy,hd,q⟩:=h;refine aBo hu pins s σ H _ _ v u Q I rx ry ⟨a,b,xs,xs,λ_=>true,rfl,rfl,hx,hy,λj x y h1 h2=>?_,?_⟩
 ·rw [h1] at h2
  cases h2;exact DEq.self (hd _ (Av h1))
 ·rw [all_true _ _ rfl]
  exact q
def eO:Cd "list" = some (.type "list"):=by decide +kernel
def Tk (H H':Hp):Prop:=∀ b ys,H b=some (.tup ys)->H' b=some (.tup ys)
def Same.tk (s:Same H H'):Tk H H':=λb ys e=>s b _ e
theorem Tk.trans (h:Tk H H1)(k:Tk H1 H2):Tk H H2:=λb ys e=>k b ys (h b ys e)
theorem Tk.lst {l:Addr}(h:H l=some (.lst xs)):Tk H (upd H l o):=λb ys e=>by
 have ne:b≠l:=λz=>by rw [z,h] at e;cases e
 rw [aH ne];exact e
def bO {n:Nat}(h:n<=1000):n<=Ax:=Bh h (by decide)
def qK:Expr->Bool
 |.Starred ..=>false
 |_=>true
def uP (h:qK e=true):AU (e::es) env=(false,eval e env)::AU es env:=by
 cases e<;>first|rfl|cases h
def pa_c (h:PE X e te)(hr:PA X es t)(hf:qK e=true:=by rfl):PA X (e::es) (aE4 te t):=aA h hr (uP hf)
inductive Dt where
 |i (n:Int)
 |s (x:Str)
 |b (k:Bool)
 |n
 |t (l:List Dt)
def SqZ (K:Aa)(H:Hp)(a:Addr)(xs:List V):Prop:=H a=some (.tup xs)\/∃ (o:Obj) (its:Array Value) (n:Nat),K.lookup a=some o/\o.cls=.type "tuple" /\ o.data=.seq its n/\its.size<=Ax/\Vals xs its.toList
def SqZ.of {K:Aa}{H:Hp}{a:Addr}{xs:List V}(h:H a=some (.tup xs)):SqZ K H a xs:=.inl h
def SqZ.sq {K:Aa}{H:Hp}{a:Addr}{xs:List V}(h:SqZ K H a xs):SqT K H a xs:=by
 rcases h with h|h
 ·exact .inl (.inl h)
 ·exact .inr h
inductive Dv (K:Aa)(H:Hp):Nat->V->Dt->Prop where
 |i {n m}:Dv K H n (.int m) (.i m)
 |s {n x}:Dv K H n (.str x) (.s x)
 |b {n k}:Dv K H n (.bl k) (.b k)
 |n {n}:Dv K H n .non .n
 |t {n a xs ds}:SqZ K H a xs->xs.length=ds.length->(∀ (j:Nat) x d,xs[j]?=some x->ds[j]?=some d->Dv K H n x d)->Dv K H (n+1) (.ref a) (.t ds)
def Dv.up {K:Aa}{H:Hp}{n:Nat}{v:V}{d:Dt}(h:Dv K H n v d):Dv K H (n+1) v d:=by
 induction h with
 |i=>exact .i
 |s=>exact .s
 |b=>exact .b
 |n=>exact .n
 |t h1 h2 _ ih=>exact .t h1 h2 ih
def Dv.mono {K:Aa}{H:Hp}{n m:Nat}{v:V}{d:Dt}(h:Dv K H n v d)(hm:n<=m):Dv K H m v d:=by
 induction hm with
 |refl=>exact h
 |step _ ih=>exact ih.up
theorem Dv.eq {K:Aa}{H:Hp}{n:Nat}{x:V}{d:Dt}(h:Dv K H n x d):∀ {m:Nat} {y:V},Dv K H m y d->DEq K H n x y true:=by
 induction h with
 |i=>intro m y k;cases k;exact DEq.self (.inl rfl)
 |s=>intro m y k;cases k;exact DEq.self (.inl rfl)
 |b=>intro m y k;cases k;exact DEq.self (.inl rfl)
 |n=>intro m y k;cases k;exact DEq.self (.inl rfl)
 |@t n a xs ds h1 h2 h3 ih=>
  intro m y k;cases k with
  |@t m b ys _ k1 k2 k3=>
   by_cases e:a=b
   ·subst e
    exact .same
   ·have q:=DEq.tup (n:=n) (e:=λ_=>true) e h1.sq k1.sq λj x y hx hy=>?_
    ·rwa [all_true _ _ (h2.trans k2.symm)] at q
    ·obtain ⟨d,hd⟩:∃ d,ds[j]?=some d:=⟨_,Ad (by have:=(Ae.mp hx).1;omega)⟩
     exact ih j x d hx hd (k3 j y d hy hd)
def DL (K:Aa)(H:Hp)(n:Nat)(xs:List V)(ds:List Dt):Prop:=xs.length=ds.length/\∀ (j:Nat) x d,xs[j]?=some x->ds[j]?=some d->Dv K H n x d
def DL.nil {K:Aa}{H:Hp}{n:Nat}:DL K H n [] []:=⟨rfl,λj x d h=>by simp at h⟩
def DL.cons {K:Aa}{H:Hp}{n:Nat}{x:V}{d:Dt}{xs:List V}{ds:List Dt}(h:Dv K H n x d)(k:DL K H n xs ds):DL K H n (x::xs) (d::ds):=by
 refine ⟨by rw [AI,AI,k.1],λj y e hy he=>?_⟩;cases j with
 |zero=>
  simp at hy he;subst hy he;exact h
 |succ j=>exact k.2 j y e (by simpa using hy) (by simpa using he)
def Dv.tup {K:Aa}{H:Hp}{n:Nat}{a:Addr}{xs:List V}{ds:List Dt}(h:SqZ K H a xs)(k:DL K H n xs ds):Dv K H (n+1) (.ref a) (.t ds):=.t h k.1 k.2
def Dv.two {K:Aa}{H:Hp}{n:Nat}{a:Addr}{x y:V}{d e:Dt}(h:SqZ K H a [x,y])(h1:Dv K H n x d)(h2:Dv K H n y e):Dv K H (n+1) (.ref a) (.t [d,e]):=.tup h (.cons h1 (.cons h2 .nil))
def rEqDL (K:Aa):R2:=λx y H Q=>∃ a b xs ys ds,x=.ref a/\y=.ref b/\SqL K H a xs/\SqL K H b ys/\DL K H 40 xs ds/\DL K H 40 ys ds/\Q (.bl true) H
def aHv (K:Aa):R2:=λx y H Q=>∃ a b xs ys ds,x=.ref a/\y=.ref b/\SqL K H a xs/\SqL K H b ys/\DL K H 40 xs ds/\DL K H 40 ys ds/\Q (.bl false) H
def aHw (K:Aa):R2:=λx y H Q=>∃ a b xs ys ds,x=.ref a/\y=.ref b/\SqT K H a xs/\SqT K H b ys/\DL K H 40 xs ds/\DL K H 40 ys ds/\Q (.bl true) H
def rNeDT (K:Aa):R2:=λx y H Q=>∃ a b xs ys ds,x=.ref a/\y=.ref b/\SqT K H a xs/\SqT K H b ys/\DL K H 40 xs ds/\DL K H 40 ys ds/\Q (.bl false) H
def DL.deq {K:Aa}{H:Hp}{n m:Nat}{xs ys:List V}{ds:List Dt}(h:DL K H n xs ds)(k:DL K H m ys ds):∀ (j:Nat) x y,xs[j]?=some x->ys[j]?=some y->DEq K H n x y true:=λj x y hx hy=>by
 obtain ⟨d,hd⟩:∃ d,ds[j]?=some d:=⟨_,Ad (by have:=(Ae.mp hx).1;have:=h.1;omega)⟩;exact (h.2 j x d hx hd).eq (k.2 j y d hy hd)
section
variable {X:Cx}
def pG (hu:X.A.units+64<cLine):OpR X (BN .NotEq) (aHv X.K):=by
 intro pins s σ H x y v u Q I rx ry h;obtain ⟨a,b,xs,ys,ds,rfl,rfl,hx,hy,k1,k2,q⟩:=h;refine aBo hu pins s σ H _ _ v u Q I rx ry ⟨a,b,xs,ys,λ_=>true,rfl,rfl,hx,hy,k1.deq k2,?_⟩;rw [all_true _ _ (k1.1.trans k2.1.symm)];exact q
def aDn (hu:X.A.units+64<cLine):OpR X (BN .Eq) (aHw X.K):=by
 intro pins s σ H x y v u Q I rx ry h;obtain ⟨a,b,xs,ys,ds,rfl,rfl,hx,hy,k1,k2,q⟩:=h;refine aBr hu pins s σ H _ _ v u Q I rx ry ⟨a,b,xs,ys,λ_=>true,rfl,rfl,hx,hy,k1.deq k2,?_⟩;rw [all_true _ _ (k1.1.trans k2.1.symm)];exact q
end
theorem gP :∀ (names:List (Str×Bj)) (acc:List (Str×Addr)),(∀ y∈names,y.2=AX->∃ c,env.cells.lookup y.1=some c)->(∀ x c,acc.lookup x=some c->env.cells.lookup x=some c) ->
  ∃ cl,(forIn (m:=Sem) names acc (λx r=>do if (x.2==AX)=true then do let c <- cellOf env x.1;pure (Dh ((x.1,c)::r)) else pure (Dh r)))=pure cl /\
   (∀ x c,cl.lookup x=some c->env.cells.lookup x=some c)/\(∀ y∈names,y.2=AX->∃ c,cl.lookup y.1=some c)/\∀ x,(∃ c,acc.lookup x=some c)->∃ c,cl.lookup x=some c
 |[],acc,_,h2=>⟨acc,rfl,h2,(λy hy=>by simp at hy),λ_ h=>h⟩
 |y::r,acc,h1,h2=>by
  by_cases e:y.2=AX
  ·obtain ⟨c,hc⟩:=h1 y Au e
   obtain ⟨cl,e1,e2,e3,e4⟩:=gP r ((y.1,c)::acc) (λz hz=>h1 z (Aj _ hz)) (λx d hx=>by
    rw [Da] at hx;split at hx
    ·rename_i hb
     have:x=y.1:=Es hb;rw [this,hc];exact hx
    ·exact h2 x d hx)
   refine ⟨cl,?_,e2,λz hz ez=>?_,λx hx=>e4 x ?_⟩
   ·rw [List.forIn_cons,if_pos (by rw [e];rfl)]
    unfold cellOf;rw [hc];simp only [pure_bind];exact e1
   ·rcases AE.mp hz with rfl|hz
    ·exact e4 z.1 ⟨c,by rw [Da,beq_self_eq_true]⟩
    ·exact e3 z hz ez
   ·obtain ⟨d,hd⟩:=hx
    rw [Da];split
    ·exact ⟨c,rfl⟩
    ·exact ⟨d,hd⟩
  ·obtain ⟨cl,e1,e2,e3,e4⟩:=gP r acc (λz hz=>h1 z (Aj _ hz)) h2
   refine ⟨cl,?_,e2,λz hz ez=>?_,e4⟩
   ·rw [List.forIn_cons,if_neg (by intro z;exact e (Es z))]
    simp only [pure_bind];exact e1
   ·rcases AE.mp hz with rfl|hz
    ·exact absurd ez e
    ·exact e3 z hz ez
def tY (h:∀ y∈scope.names,y.2=AX->∃ c,env.cells.lookup y.1=some c) :
  ∃ cl,closureFor scope env=pure cl/\(∀ x c,cl.lookup x=some c->env.cells.lookup x=some c)/\∀ y∈scope.names,y.2=AX->∃ c,cl.lookup y.1=some c:=by
 obtain ⟨cl,e1,e2,e3,_⟩:=gP (env:=env) scope.names [] h (λx c e=>by simp at e);refine ⟨cl,?_,e2,e3⟩;simp only [closureFor];rw [show (forIn (m:=Sem) scope.names [] λx r=>if (x.2==AX)=true then (do let c <- cellOf env x.1;pure (Dh ((x.1,c)::r))) else pure (Dh r))=pure cl from e1];rfl
def mS (hc:∀ y∈scope.names,y.2≠CI)(h:(relabel scope env).names.lookup x=some .cell\/(relabel scope env).names.lookup x=some .free):∃ y∈scope.names,y.1=x/\y.2=AX:=by
 have e':∃ k,(k=CI\/k=AX)/\(relabel scope env).names.lookup x=some k:=by
  rcases h with e|e
  ·exact ⟨_,.inl rfl,e⟩
  ·exact ⟨_,.inr rfl,e⟩
 obtain ⟨k,hk,e⟩:=e';have hm:=CS e;obtain ⟨y,hy,hy2⟩:=AS.mp hm;obtain ⟨n,kk⟩:=y;have hn:=hc _ hy;simp only at hy2 hn;split at hy2
 ·rename_i hf
  injection hy2 with a1 a2;subst a1;simp only [Ce] at hf;exact ⟨(n,kk),hy,rfl,Es hf.1.1⟩
 ·injection hy2 with a1 a2
  subst a1 a2
  rcases hk with rfl|rfl
  ·exact absurd rfl hn
  ·exact ⟨_,hy,rfl,rfl⟩
def aEk (ok:X.Ok)(hc:∀ y∈scope.names,y.2≠CI)(h:∀ y∈scope.names,y.2=AX->X.env.kindOf y.1=some .cell\/X.env.kindOf y.1=some .free):∃ cl,ClOk X scope cl:=by
 obtain ⟨cl,e1,e2,e3⟩:=tY (scope:=scope) (env:=X.env) λy hy ey=>ok.has y.1 (h y hy ey);refine ⟨cl,e1,e2,λx hx=>?_⟩;obtain ⟨y,hy,rfl,ey⟩:=mS hc hx;exact e3 y hy ey
def iB (σf:St->St)(hc:X.calm=true)(hkind:scope.kind=.function)(hcell:∀ y∈scope.names,y.2≠.cell)(hnames:∀ y∈scope.names,y.2=.local->scope.names.lookup y.1=some .local)(hk:∀ y∈scope.names,y.2=AX->X.env.kindOf y.1=some .cell\/X.env.kindOf y.1=some .free)(hN:∀ cl (σ:St),σ.length=X.N.length->BlkN X N' scope cl σ (σf σ))(hi:PI X tg iter wi)(hg:∀ cl C s₀ H₀ ex pn,PG (blk X N' scope cl C s₀ H₀ ex pn) tg g)(ht:∀ cl C s₀ H₀ ex pn,PIfs (blk X N' scope cl C s₀ H₀ ex pn) ifs tt)(he:∀ cl C s₀ H₀ ex pn,PE (blk X N' scope cl C s₀ H₀ ex pn) elt te)(hs:∀ x,foldedSetIterable iter X.env x=pure x:=by intro _;rfl):PE X (.ListComp elt [⟨tg,iter,ifs,0⟩] scope pos) (aCl σf wi g tt te):=by
 intro pins s σ H Q I h;obtain ⟨cl,hcl⟩:=aEk I.ok hcell hk;exact vW σf hc hkind hcell hnames hcl (hN cl) hi (hg cl) (ht cl) (he cl) hs pins s σ H Q I h
def aAu {X:Cx}{scope sc:Scope}(hs:X.env.scope=sc)(h:(scope.names.all λy=>y.2 != AX||sc.names.lookup y.1==some CI||sc.names.lookup y.1==some AX)=true) :
  ∀ y∈scope.names,y.2=AX->X.env.kindOf y.1=some .cell\/X.env.kindOf y.1=some .free:=λy hy ey=>by
 have q:=CJ.mp h y hy;unfold Env.kindOf;rw [hs];rw [ey] at q;simp only [bne_self_eq_false,Bool.false_or,Bool.or_eq_true] at q
 rcases q with q|q
 ·exact .inl (Es q)
 ·exact .inr (Es q)
theorem eJ {env:Env}{x:Str}(hk:env.scope.kind=.function)(hx:env.kindOf x=some .cell):∀ {names:List (Str×Bj)},names.lookup x=some .free ->
    (names.map λ(n,k)=>if (k==AX&&env.scope.kind==.function&&env.kindOf n==some .cell) then (n,CI) else (n,k)).lookup x=some .cell
  |[],h=>by simp at h
  |(n,k)::r,h=>by
    rw [Al];rw [Da] at h
    by_cases e:(x==n)=true
    · rw [e] at h;have e':x=n:=Es e;subst e';have hf:k=AX:=AK h;subst hf;have c:(AX==AX&&env.scope.kind==.function&&env.kindOf x==some .cell)=true:=by rw [hk,hx];rfl
      rw [show (match ((x,AX):Str×Bj) with|(n,k)=>if (k==AX&&env.scope.kind==.function&&env.kindOf n==some .cell)=true then (n,CI) else (n,k))=(x,CI) from if_pos c];rw [Da,beq_self_eq_true]
    · have e0:(x==n)=false:=by simpa using e
      rw [e0] at h;have ih:=eJ hk hx h;have en:∀ q:Str×Bj,q.1=n->(q::(r.map λ(n,k)=>if (k==AX&&env.scope.kind==.function&&env.kindOf n==some .cell) then (n,CI) else (n,k))).lookup x=some .cell:=λq hq=>by
        obtain ⟨q1,q2⟩:=q;simp only at hq;subst hq;rw [Da,e0];exact ih
      refine en _ ?_;show (if _ then (n,CI) else (n,k)).1=n;split<;>rfl
def lX {X:Cx}{N' N:List Str}{scope sc:Scope}{cl:List (Str×Addr)}{σ:St}(ts:List (Option Nat))(hN:X.N=N)(hsc:X.env.scope=sc)(hl:ts.length=N'.length)(hk:sc.kind=.function)
  (h:((ts.zip N').all λp=>match p.1 with|none=>true|some j=>N[j]?==some p.2&&sc.names.lookup p.2==some CI&&scope.names.lookup p.2==some AX)=true) :
  BlkN X N' scope cl σ (ts.map λt=>t.bind λj=>(σ[j]?).join):=by
 refine ⟨by rw [Ag,hl],λi x v h1 h2=>?_⟩;rw [As] at h2;cases ht:ts[i]? with
 |none=>rw [ht] at h2;cases h2
 |some t=>
  rw [ht] at h2;have h2':(t.bind λj=>(σ[j]?).join)=some v:=AK h2;cases t with
  |none=>cases h2'
  |some j=>
   have hm:(some j,x)∈ts.zip N':=Av (by rw [Fu];exact ⟨ht,h1⟩:(ts.zip N')[i]?=some (some j,x));have q:=CJ.mp h _ hm;simp only [Ce] at q;obtain ⟨⟨q1,q2⟩,q3⟩:=q;have q1':=Es q1;have q2':=Es q2;have q3':=Es q3;have kd:X.env.kindOf x=some .cell:=by
    unfold Env.kindOf;rw [hsc];exact q2'
   refine ⟨j,by rw [hN];exact q1',?_,by rw [hsc];exact .inr (.inl q2'),(by rw [kd];decide),.inl (eJ (by rw [hsc];exact hk) kd q3')⟩;have h3:(σ[j]?).join=some v:=h2';cases hj:σ[j]? with
   |none=>rw [hj] at h3;cases h3
   |some o=>rw [hj] at h3;cases o with
    |none=>cases h3
    |some u=>cases h3;rfl
def aC9 {iy:Nat}(σf:St->St)(hc:X.calm=true)(hkind:scope.kind=.function)(hcell:∀ y∈scope.names,y.2≠.cell)(hnames:∀ y∈scope.names,y.2=.local->scope.names.lookup y.1=some .local)(hcl:ClOk X scope cl)(hN:∀ σ:St,σ.length=X.N.length->BlkN X N' scope cl σ (σf σ))(hi:PI X tg iter wi)(hg:∀ C s₀ H₀ ex pn,PG (blk X N' scope cl C s₀ H₀ ex pn) tg g)(ht:∀ C s₀ H₀ ex pn,PIfs (blk X N' scope cl C s₀ H₀ ex pn) ifs tt)(he:∀ C s₀ H₀ ex pn,PE (blk X N' scope cl C s₀ H₀ ex pn) elt te)(hnd:X.N.Nodup)(hiy:X.N[iy]?=some y)(hy:Loc X.env.scope y)(hfy:X.fn y=true\/X.env.scope.names.lookup y=some .local)(hsw:swapsWith (.ListComp elt [⟨tg,iter,ifs,0⟩] scope pos) (some (.Name y py)) spos.line X.env=pure true)(hs:∀ x,foldedSetIterable iter X.env x=pure x:=by intro _;rfl):PS X (.Assign [.Name y py] (.ListComp elt [⟨tg,iter,ifs,0⟩] scope pos) spos) (tAsg (aCl σf wi g tt te) (gName iy)):=by
 intro pins s σ H Dn I h;rw [exec_Assign_Name_used _ _ _ _ hsw];refine Ab (Fo (Ab ?_));show wpAny _ X.A (do let _ <- comprehension (.ListComp elt [⟨tg,iter,ifs,0⟩] scope pos) scope X.env _ (newList []) false (eval iter X.env) (some (assign (.Name y py) X.env))) _ _ s;refine Ab (BW (wpAny_comprehension_free (use:=some (assign (.Name y py) X.env)) (Q:=λ_ s'=>SP X pins Dn .next s') rfl hs hcl.run hkind hnames
  (thn (hi pins s σ H _ I h) λv s1 h1=>thn h1 λitv s2 h2=>?_)) (λ_ s' hq=>Af (Af hq)) λ_ _ e=>e)
 obtain ⟨it,fp,tn,J,H2,rfl,I2,T,st2,f2,q⟩:=h2;refine AZ (wpAny_newFunctionEnv hcell (by intro y hy;simp at hy) (λh₁ hns₁ hsb₁=>?_) hkind);dsimp only at hns₁ hsb₁ ⊢;have hfo:∀ b∈fp,b<s2.heap.objs.size:=λb hb=>by
  obtain ⟨o,e,_⟩:=T.obj _ _ st2 b hb;exact Aq e
 have hDf:H2 s2.heap.objs.size=none:=I2.hok.fresh (Ak _);obtain ⟨W,⟨m0,w0⟩,turn⟩:=q s2.heap.objs.size hDf;have I3:Inv X pins σ (upd H2 s2.heap.objs.size (.lst [])) { s2 with heap:=s2.heap.push { cls:=.type "list",data:=.seq ([]:List Value).toArray } }:=I2.lnew (its:=[]) (t':=s2.toks) .nil (BK _);have f3:∀ b∈fp,FpOk X pins (upd H2 s2.heap.objs.size (.lst [])) b:=λb hb=>⟨by rw [aH (Aw (hfo b hb))];exact (f2 b hb).1,(f2 b hb).2⟩;generalize hD:s2.heap.objs.size=D at *
 generalize hs3:({ s2 with heap:=s2.heap.push { cls:=.type "list",data:=.seq ([]:List Value).toArray } }:Shared)=s3 at *
 have hh3:s3.heap=s2.heap.push { cls:=.type "list",data:=.seq ([]:List Value).toArray }:=by rw [<- hs3]
 have hsz3:s2.heap.objs.size<s3.heap.objs.size:=by rw [hh3,BJ];exact Cn _
 have e3:∀ h t,({ s2 with heap:=h,toks:=t }:Shared)={ s3 with heap:=h,toks:=t }:=λh t=>by rw [<- hs3]
 rw [<- hh3] at hns₁ hsb₁ ⊢;have hk3:∀ b o,s3.heap.get? b=some o->h₁.get? b=some o:=λb o e=>hsb₁.extBut b o (Aw (Aq e)) (Ac _ e);have I4:=oG (t':=s3.toks) I3 hkind hcl (hN σ I.len) f3 (λb hb=>CG (hfo b hb) (hD▸hsz3)) (hns:=by simpa using hns₁) hk3;generalize hB:blk X N' scope cl s3.heap.objs.size s3 (upd H2 D (.lst [])) fp (X.pn++pins)=B at *
 have hBp:B.prog=X.prog:=by rw [<- hB];rfl
 have hBw:B.w=X.w:=by rw [<- hB];rfl
 have hBK:B.K=X.K:=by rw [<- hB];rfl
 have hBA:B.A=X.A:=by rw [<- hB];rfl
 have hBc:B.calm=true:=by rw [<- hB];exact hc
 have hBe:B.env=compEnvC scope cl s3.heap.objs.size X.env:=by rw [<- hB];rfl
 have hBx:B.xe=λ_ _=>False:=by rw [<- hB];rfl
 have hGB:PG B tg g:=hB▸hg _ _ _ _ _;have hTB:PIfs B ifs tt:=hB▸ht _ _ _ _ _;have hEB:PE B elt te:=hB▸he _ _ _ _ _;have stat:∀ {H':Hp},(∀ b∈fp,H' b=none)->∀ b∈fp,FpOk B [] H' b:=λ{H'} hn b hb=>by
  obtain ⟨f0,f1,f2',f3',f4,f5⟩:=f3 b hb;rw [<- hB];refine ⟨hn b hb,Aw (CG (hfo b hb) (hD▸hsz3)),λz=>?_,.inl hb,λx c e=>f4 x c (hcl.sub x c e),λp hp=>?_⟩
  ·rcases AE.mp (I.stkSub b z) with z|z
   ·exact f1 z
   ·exact f2' z
  ·rw [show (blk X N' scope cl s3.heap.objs.size s3 (upd H2 D (.lst [])) fp (X.pn++pins)).pn=X.pn++pins from rfl,Cb] at hp
   exact f5 p hp
 have loop:∀ s4:Shared,Inv B [] (σf σ) (upd H2 D (.lst [])) s4->tn 0 s4.heap ->
   DR (model X.prog X.w) X.A (.compLoop (.ListComp elt [⟨tg,iter,ifs,0⟩] scope pos) 0 (.ref it) (.ref D) (compEnvC scope cl s3.heap.objs.size X.env)) (compPost (model X.prog X.w) X.A X.xe (some (assign (.Name y py) X.env)) (λ_ s'=>SP X pins Dn .next s') (.ref D) s3.heap.objs.size) s4:=by
  intro s4 I4 st4;refine gY (I:=λn s'=>∃ i ys H',Inv B [] (σf σ) H' s'/\tn i s'.heap/\(∀ b∈fp,H' b=none)/\W i n ys H') ?_ m0 ⟨0,[],_,I4,st4,λb hb=>(f3 b hb).1,w0⟩
  rintro n s5 ⟨i,ys,H5,I5,st5,fr5,w5⟩
  obtain ⟨hD5,hlen5,alt⟩:=turn i n ys H5 w5
  rcases alt with ⟨stop,qn⟩|⟨go,step⟩
  ·have z:=T.done B hBp hBw hBK hBc i [] s5 (σf σ) H5 (λ_ _=>False) I5 (stat fr5) st5 stop
   rw [hBA] at z;refine thn z λr s6 ⟨hr,I6⟩=>?_;subst hr;obtain ⟨m6,hn6,_⟩:=I6.loc;rw [hBe] at hn6;subst hB;have I6x:Inv X pins σ H5 s6:=yO I3 f3 I6 (h'':=s6.heap) ⟨rfl,λ_ _=>rfl⟩;have fC:FpOk X pins H5 s3.heap.objs.size:=I3.fpOk (Ak _) I6.free;obtain ⟨g0,g1,g2,g3,g4,g5⟩:=id fC;obtain ⟨oC,es,ep,hoC,hdC,rest⟩:=hn6;have I6p:=I6x.pinned (fp:=[s3.heap.objs.size]) (λb hb=>by rw [AB.mp hb];exact fC) (λb hb=>⟨oC,by rw [AB.mp hb];exact hoC,λv e=>by rw [hdC] at e;cases e⟩);show wpAny (model X.prog X.w) X.A (assign (.Name y py) X.env (.ref D)) _ X.xe s6;refine thn (bA (i:=iy) (pos:=py) hnd hiy hy hfy _ s6 σ H5 (.ref D) (.ref D) (λσ' H'=>Dn.nx σ' H') I6p rfl qn) λ_ s7 ⟨σ7,H7,I7,q7⟩=>?_;have pc:=I7.pin (s3.heap.objs.size,oC) (AM _ (AM _ (dX (by simp) hoC)));refine ⟨m6,⟨oC,es,ep,pc.1,hdC,rest⟩,λh' hs'=>⟨σ7,H7,?_,q7⟩⟩;exact I7.unpinned.turned (t':=s7.toks) (λb o hb e=>hs'.extBut b o hb e) pc.2.1 g1 g3 g4 g5
  ·have z:=T.item B hBp hBw hBK hBc i [] s5 (σf σ) H5 (λ_ _=>False) I5 (stat fr5) st5 go
   rw [hBA] at z;refine thn z λr s6 ⟨u,hr,h6⟩=>?_;subst hr;refine thn h6 λ_ s7 ⟨x,H7,I7,r7,y7,st7,fr7⟩=>?_;have I7':=I7.pinned (stat fr7) (T.obj _ _ st7);have z8:=hGB _ s7 (σf σ) H7 x u _ I7' r7 (step x H7 y7);rw [hBp,hBw,hBA,hBe,hBx] at z8;refine thn z8 λ_ s8 ⟨σ8,H8,I8,k8,q8⟩=>?_;have z9:=hTB _ s8 σ8 H8 _ I8 q8;rw [hBp,hBw,hBA,hBe,hBx] at z9;refine thn z9 λok s9 ⟨H9,I9,q9⟩=>?_;have again:∀ {ys':List V} {H':Hp} {s':Shared},Inv B ([]++jQ fp s7.heap) σ8 H' s'->(∃ m',m'<n/\W (i+1) m' ys' H')->∃ m,m<n/\∃ i ys H',Inv B [] (σf σ) H' s'/\tn i s'.heap/\(∀ b∈fp,H' b=none)/\W i m ys H':=λ{ys' H' s'} J ⟨m',hm,w'⟩=>by
    refine ⟨m',hm,i+1,ys',H',J.unpinned.weak k8.len.symm k8.at',T.keep _ _ _ st7 λb hb o e=>(J.pin (b,o) (AM _ (AM _ (dX hb e)))).1,λb hb=>?_,w'⟩;obtain ⟨o,e,d⟩:=T.obj _ _ st7 b hb;exact (J.pin (b,o) (AM _ (AM _ (dX hb e)))).2.1
   cases ok with
   |false=>exact again I9 q9
   |true=>
    have z10:=hEB _ s9 σ8 H9 _ I9 q9;rw [hBp,hBw,hBA,hBe,hBx] at z10;refine thn z10 λy10 s10 ⟨y,H10,I10,r10,hD10,q10⟩=>?_;have z11:=bY (X:=B) _ s10 σ8 H10 (.ref D) [y] (.ref D) [y10] (λ_ H'=>∃ m',m'<n/\W (i+1) m' (ys++[y]) H') I10 rfl (.cons r10 .nil) ⟨D,ys,y,rfl,rfl,hD10,hlen5,q10⟩;rw [hBp,hBw,hBA,hBx] at z11;refine thn z11 λ_ s11 ⟨_,H11,I11,_,q11⟩=>again I11 q11
 have st4:tn 0 ({ s3 with heap:=h₁,toks:=s3.toks }:Shared).heap:=T.keep _ _ _ st2 λb hb o e=>hk3 b o (by rw [hh3];exact Ac _ e);have L4:=loop _ I4 st4;subst hs3;exact codeAny_compStart_list L4 (T.self _ 0 _ _ _ st4 L4)
structure Ys (J:It)(xs:List V)(H1:Hp):Prop where
 go:∀ i H,Same H1 H->i<xs.length->J.go i H
 yld:∀ i H x H',Same H1 H->i<xs.length->J.yld i H x H'->H'=H/\xs[i]?=some x
 stop:∀ i H,Same H1 H->xs.length<=i->J.stop i H
def Ys.list {K:Aa}{a:Addr}{xs:List V}{H1:Hp}(h:SqL K H1 a xs):Ys (Itl K a) xs H1 where
 go:=λi H s hi=>⟨xs,xs[i],s.seq h,Ad hi⟩
 yld:=λi H x H' s _ y=>⟨y.1,y.2 xs (s.seq h)⟩
 stop:=λi H s hi=>⟨xs,s.seq h,hi⟩
def Ys.tup {K:Aa}{a:Addr}{xs:List V}{H1:Hp}(h:SqT K H1 a xs):Ys (Itt K a) xs H1 where
 go:=λi H s hi=>⟨xs,xs[i],s.tup h,Ad hi⟩
 yld:=λi H x H' s _ y=>⟨y.1,y.2 xs (s.tup h)⟩
 stop:=λi H s hi=>⟨xs,s.tup h,hi⟩
def rngV (lo:Int)(n:Nat):List V:=(Be n).map λ(i:Nat)=>V.int (lo+(i:Int))
theorem fT (lo:Int)(n:Nat):(rngV lo n).length=n:=by unfold rngV;rw [Ag,List.length_range]
def zJ {lo:Int}{n i:Nat}(h:(rngV lo n)[i]?=some x):i<n/\x=.int (lo+i):=by
 have hi:i<n:=by rw [<- fT lo n];exact (Ae.mp h).1
 unfold rngV at h;rw [As,List.getElem?_range hi] at h;exact ⟨hi,(AK h).symm⟩
def Ys.rng {lo:Int}{n:Nat}:Ys (Itr lo n) (rngV lo n) H1 where
 go:=λi H _ hi=>by rw [fT] at hi;exact hi
 yld:=λi H x H' _ hi y=>⟨y.1,by
  obtain ⟨_,rfl⟩:=y;rw [fT] at hi;unfold rngV;rw [As,List.getElem?_range hi];rfl⟩
 stop:=λi H _ hi=>by rw [fT] at hi;exact hi
def hZ {α:Type}{ys:List α}{y z:α}{j:Nat}(h:(ys++[y])[j]?=some z):(j<ys.length/\ys[j]?=some z)\/(j=ys.length/\z=y):=by
 by_cases hj:j<ys.length
 ·rw [Dk hj] at h
  exact .inl ⟨hj,h⟩
 ·rw [Cu (by omega)] at h
  have e0:j-ys.length=0:=by
   cases hz:j-ys.length with
   |zero=>rfl
   |succ n=>rw [hz] at h;simp at h
  rw [e0] at h;exact .inr ⟨by omega,by simpa using h.symm⟩
def lV {J:It}{xs:List V}{D:Addr}{g:TG}{te:TE}{σ0:St}{QD:Hp->Prop}{H1:Hp}(Y:Ys J xs H1)(Pr:Nat->V->V->Hp->Prop)(hP:∀ i x y H H',Pr i x y H->Tk H H'->Pr i x y H')(hD:H1 D=none)(hl:xs.length<=1000)
  (hs:∀ i x H' (R:VK),xs[i]?=some x->Same H1 H'->(∀ y H4,Same H' H4->Pr i x y H4->R y H4)->g x σ0 H' λσ2 H2=>Keep σ0 σ2/\te σ2 H2 R)
  (hd:∀ ys H',Same H1 H'->H' D=some (.lst ys)->ys.length=xs.length->(∀ i x y,xs[i]?=some x->ys[i]?=some y->Pr i x y H')->QD H') :
  ∃ W:Nat->Nat->List V->Hp->Prop,(∃ m,W 0 m [] (upd H1 D (.lst [])))/\∀ i m ys H,W i m ys H->H D=some (.lst ys)/\ys.length<Ax /\
   ((J.stop i H/\QD H)\/(J.go i H/\∀ x H',J.yld i H x H'->g x σ0 H' λσ2 H2=>Keep σ0 σ2/\zA σ2 H2 λb H3=>
    if b=true then te σ2 H3 λy H4=>H4 D=some (.lst ys)/\∃ m',m'<m/\W (i+1) m' (ys++[y]) (upd H4 D (.lst (ys++[y]))) else ∃ m',m'<m/\W (i+1) m' ys H3)):=by
 refine ⟨λi m ys H=>m=xs.length-i/\i<=xs.length/\Same H1 H/\H D=some (.lst ys)/\ys.length=i/\∀ j x y,xs[j]?=some x->ys[j]?=some y->Pr j x y H,
  ⟨_,rfl,BK _,Same.upd hD,aB,rfl,λj x y _ h=>by simp at h⟩,?_⟩
 rintro i m ys H ⟨rfl,hi,sm,hDH,yl,pr⟩
 refine ⟨hDH,bP (by omega),?_⟩
 by_cases hlt:i<xs.length
 ·refine .inr ⟨Y.go i H sm hlt,λx H' y=>?_⟩
  obtain ⟨rfl,hx⟩:=Y.yld i H x H' sm hlt y;refine hs i x H' _ hx sm λy H4 s4 py=>?_;have hD4:=s4 _ _ hDH;have tk:Tk H4 (upd H4 D (.lst (ys++[y]))):=Tk.lst hD4;refine ⟨hD4,xs.length-(i+1),by omega,rfl,hlt,λb o hb=>?_,aB,by rw [AF,yl];rfl,λj x' y' hx' hy'=>?_⟩
  ·rw [aH (bE hb hD)]
   exact s4 _ _ (sm _ _ hb)
  ·rcases hZ hy' with ⟨_,hy'⟩|⟨e,e'⟩
   ·exact hP _ _ _ _ _ (hP _ _ _ _ _ (pr j x' y' hx' hy') (Same.tk s4)) tk
   ·subst e'
    have:j=i:=by omega
    subst this;rw [hx] at hx';cases hx';exact hP _ _ _ _ _ py tk
 ·have e:i=xs.length:=by omega
  subst e;exact .inl ⟨Y.stop _ H sm (Ak _),hd ys H sm hDH yl pr⟩
def yG {J:It}{xs:List V}{D:Addr}{g:TG}{tt:TT}{te:TE}{σ0:St}{QD:Hp->Prop}{H1:Hp}(Y:Ys J xs H1)(p:V->Bool)(Pr:V->V->Hp->Prop)(hP:∀ x y H H',Pr x y H->Tk H H'->Pr x y H')(hD:H1 D=none)(hl:xs.length<=1000)
  (hs:∀ (i:Nat) x H' (R1:VK) (R2:Hp->Prop),xs[i]?=some x->Same H1 H'->(p x=true->∀ y H4,Same H' H4->Pr x y H4->R1 y H4)->(p x=false->∀ H4,Same H' H4->R2 H4)->g x σ0 H' λσ2 H2=>Keep σ0 σ2/\tt σ2 H2 λb H3=>if b=true then te σ2 H3 R1 else R2 H3)
  (hd:∀ ys H',Same H1 H'->H' D=some (.lst ys)->ys.length=(xs.filter p).length->(∀ (i:Nat) x y,(xs.filter p)[i]?=some x->ys[i]?=some y->Pr x y H')->QD H') :
  ∃ W:Nat->Nat->List V->Hp->Prop,(∃ m,W 0 m [] (upd H1 D (.lst [])))/\∀ i m ys H,W i m ys H->H D=some (.lst ys)/\ys.length<Ax /\
   ((J.stop i H/\QD H)\/(J.go i H/\∀ x H',J.yld i H x H'->g x σ0 H' λσ2 H2=>Keep σ0 σ2/\tt σ2 H2 λb H3=>
    if b=true then te σ2 H3 λy H4=>H4 D=some (.lst ys)/\∃ m',m'<m/\W (i+1) m' (ys++[y]) (upd H4 D (.lst (ys++[y]))) else ∃ m',m'<m/\W (i+1) m' ys H3)):=by
 refine ⟨λi m ys H=>m=xs.length-i/\i<=xs.length/\Same H1 H/\H D=some (.lst ys)/\ys.length=((xs.take i).filter p).length/\∀ (j:Nat) x y,((xs.take i).filter p)[j]?=some x->ys[j]?=some y->Pr x y H,
  ⟨_,rfl,BK _,Same.upd hD,aB,rfl,λj x y _ h=>by simp at h⟩,?_⟩
 rintro i m ys H ⟨rfl,hi,sm,hDH,yl,pr⟩
 have yl':ys.length<=xs.length:=by
  rw [yl];exact Bh (List.length_filter_le _ _) (by rw [El];omega)
 refine ⟨hDH,bP (by omega),?_⟩
 by_cases hlt:i<xs.length
 ·refine .inr ⟨Y.go i H sm hlt,λx H' y=>?_⟩
  obtain ⟨rfl,hx⟩:=Y.yld i H x H' sm hlt y;have et:xs.take (i+1)=xs.take i++[x]:=by rw [CQ,hx];rfl
  refine hs i x H' _ _ hx sm (λpx y H4 s4 py=>?_) (λpx H4 s4=>?_)
  ·have hD4:=s4 _ _ hDH
   have tk:Tk H4 (upd H4 D (.lst (ys++[y]))):=Tk.lst hD4;refine ⟨hD4,xs.length-(i+1),by omega,rfl,hlt,λb o hb=>?_,aB,?_,λj x' y' hx' hy'=>?_⟩
   ·rw [aH (bE hb hD)]
    exact s4 _ _ (sm _ _ hb)
   ·rw [et,DI,AF,AF,yl,Ey px]
    rfl
   ·rw [et,DI,Ey px] at hx'
    rcases hZ hx' with ⟨h1,hx'⟩|⟨h1,hx'⟩
    ·rcases hZ hy' with ⟨_,hy'⟩|⟨e,_⟩
     ·exact hP _ _ _ _ (hP _ _ _ _ (pr j x' y' hx' hy') (Same.tk s4)) tk
     ·omega
    ·rcases hZ hy' with ⟨h2,_⟩|⟨_,hy'⟩
     ·omega
     ·subst hx' hy'
      exact hP _ _ _ _ py tk
  ·refine ⟨xs.length-(i+1),by omega,rfl,hlt,sm.trans s4,s4 _ _ hDH,?_,λj x' y' hx' hy'=>?_⟩
   ·rw [et,DI,Ez (by rw [px];exact AC),List.filter_nil,Cb,yl]
   ·rw [et,DI,Ez (by rw [px];exact AC),List.filter_nil,Cb] at hx'
    exact hP _ _ _ _ (pr j x' y' hx' hy') (Same.tk s4)
 ·have e:i=xs.length:=by omega
  subst e;rw [BH] at yl pr;exact .inl ⟨Y.stop _ H sm (Ak _),hd ys H sm hDH yl pr⟩
section
variable {prog:Az}{w:World}{A:Around}{E:Value->Shared->Prop}{s:Shared}
def aCi {i:Nat}(st:s.heap.IsTupleIter it t i)(hl:s.heap.IsTuple t its)(hx:its[i]?=some x)(q:∀ g,g.IsTupleIter it t (i+1)->Ci it s.heap g->Q x { s with heap:=g }):wpAny (model prog w) A (Bo (.ref it)) Q E s:=by
 obtain ⟨ob,e1,e2,e3⟩:=id st;obtain ⟨ot,e4,_,m,e5⟩:=hl;unfold Bo;refine Ab (Bz (name:=CP "__next__") st.typeIs Eg (Bv Eg st.typeIs F.entry_tuple_iterator_next ?_ (F.args_tuple_iterator_next_1 _)));refine Ab (m:=field (.ref it) 0) (BM e1 e3 (x:=.ref t) rfl ?_);show wpAny _ _ (if (AD t==BR)=true then _ else (field (.ref it) 1 >>= _)) _ _ s;rw [if_neg (show ¬ (AD t==BR)=true from (λz=>nomatch z))];refine Ab (BM e1 e3 (x:=.int i 0) rfl (Ab (m:=seqItems? (.ref t)) (CW e4 e5 ?_)));simp only [Cz,hx];refine Ab (Fe e1 e3 (by simp) (Af ⟨x,rfl,Af (q _ ⟨_,BP _ e1 (ES (EC e3 _)),(Obj.cls_mapFields ..).trans e2,?_⟩ (EH ..))⟩));rw [EC e3];simp [rawInt]
def aCh {i:Nat}(hh:A.handled=none)(st:s.heap.IsTupleIter it t i)(hl:s.heap.IsTuple t its)(hx:its[i]?=none)(q:∀ g e,Heap.ExtBut it s.heap g->(∃ o,g.get? e=some o/\o.cls=.type "StopIteration")->E (.ref e) { s with heap:=g }):wpAny (model prog w) A (Bo (.ref it)) Q E s:=by
 obtain ⟨ob,e1,e2,e3⟩:=id st;obtain ⟨ot,e4,_,m,e5⟩:=hl;unfold Bo;refine Ab (Bz (name:=CP "__next__") st.typeIs Eg (Bv Eg st.typeIs F.entry_tuple_iterator_next ?_ (F.args_tuple_iterator_next_1 _)));refine Ab (m:=field (.ref it) 0) (BM e1 e3 (x:=.ref t) rfl ?_);show wpAny _ _ (if (AD t==BR)=true then _ else (field (.ref it) 1 >>= _)) _ _ s;rw [if_neg (show ¬ (AD t==BR)=true from (λz=>nomatch z))];refine Ab (BM e1 e3 (x:=.int i 0) rfl (Ab (m:=seqItems? (.ref t)) (CW e4 e5 ?_)));simp only [Cz,hx];refine Ab (Dp (Ab (Fe e1 e3 (by simp) (Ab (m:=newExc (.type "StopIteration") []) ?_))));simp only [newExc,newTuple];refine Ab (AZ (Ab (m:=firstArgMember _ _) (EB (a:=BR) (by first|rfl|(simp only [firstArgMember];rfl)) (AZ ?_ (by size_fits)))) (by size_fits));simp only [raiseNew];refine Ab (wpAny_handled ?_)
 first|rw [show A.in1.handled=none from hh]|rw [hh]
 exact Ab (Af (wpAny_throw (q _ _ (((EH ..).extBut.push _).push _) ⟨_,Ah _ rfl,rfl⟩)))
def iG (hh:A.handled=none)(it t:Addr)(hne:t≠it)(its:Array Value) :
  Draws prog w A it [it,t] its.size (λi v=>its[i]?=some v) (λi h=>h.IsTupleIter it t i/\h.IsTuple t its) where
 live:=λ_ _ z=>let ⟨o,e,_⟩:=z.1;⟨o,e⟩
 frame:=λ_ _ _ z k=>⟨z.1.at λo e=>k it (by simp) o e,z.2.at λo e=>k t (by simp) o e⟩
 item:=λi s Q E hi z k=>aCi z.1 z.2 (x:=its[i]) (by simp [hi]) λg z' sb=>k _ g s.toks (by simp [hi]) ⟨z',z.2.extBut sb.extBut hne⟩ sb
 done:=λs Q E z k=>aCh hh z.1 z.2 (by simp) k
structure Ap (z TI TO i1 i2:Addr)(f1 f2:List Addr):Prop where
 a1:∀ b∈f1,b≠z/\b≠TO/\b≠i2
 a2:∀ b∈f2,b≠z/\b≠TO/\b≠i1
 m1:i1∈f1
 m2:i2∈f2
 tz:TI≠z
 tO:TI≠TO
 t1:TI≠i1
 t2:TI≠i2
 oz:TO≠z
section
variable {z TI TO i1 i2:Addr}{f1 f2:List Addr}{n1 n2 k:Nat}{P1 P2:Nat->Value->Prop}{S1 S2:Nat->Heap->Prop}{a b:Value}
def aCe {Q:Value->Shared->Prop}(D1:Draws prog w A i1 f1 n1 P1 S1)(D2:Draws prog w A i2 f2 n2 P2 S2)(ap:Ap z TI TO i1 i2 f1 f2)(hz:IsZip s.heap z TI TO .none)(hI:IsPair s.heap TI (.ref i1) (.ref i2))(hO:IsPair s.heap TO a b)
  (h1:S1 k s.heap) (h2:S2 k s.heap) (l1:k<n1) (l2:k<n2)
  (q:∀ x y T g t',P1 k x->P2 k y->T=s.heap.objs.size->IsZip g z TI TO (rawInt T)->IsPair g TO x y->S1 (k+1) g->S2 (k+1) g->IsPair g T x y->(∀ c o,c≠z->c≠TO->c≠i1->c≠i2->s.heap.get? c=some o->g.get? c=some o)->Q (.ref T) { s with heap:=g,toks:=t' }) :
  wpAny (model prog w) A (AH.«zip.__next__» ⟨[.ref z],[]⟩) (λfin s'=>∃ v,fin=.done (.ret v)/\Q v s') E s:=by
 have z1:=ap.a1 i1 ap.m1;have z2:=ap.a2 i2 ap.m2;refine Ab (m:=field (.ref z) 2) (BM hz rfl (x:=.bool false) rfl (Ab (m:=field (.ref z) 3) (BM hz rfl (x:=.ref TI) rfl (Ab (CW hI rfl (Ab (m:=CA (.ref z)) ?_))))));unfold CA;refine Ab (BM hz rfl (x:=.none) rfl (Af ?_));simp only [if_true];refine Ab (Dp (Ab (BM hz rfl (x:=.ref TO) rfl (Ab (Cq hz (by simp) λga ca sa=>Ab ?_)))));replace ca:IsZip ga z TI TO .ellipsis:=ca;have ka:∀ c o,c≠z->s.heap.get? c=some o->ga.get? c=some o:=λc o n e=>sa.extBut _ _ n e;simp only [List.zipIdx_cons,List.zipIdx_nil,List.forIn_cons,List.forIn_nil];refine Ab (Ab (wpAny_onRaise (Ab (m:=Bo (.ref i1)) (D1.item k _ _ _ l1 (D1.frame _ _ _ h1 λc hc o e=>ka c o (ap.a1 c hc).1 e) λx gb tb px sb cb=>Af ?_))));have kb:∀ c o,c≠z->c≠i1->s.heap.get? c=some o->gb.get? c=some o:=λc o n n' e=>cb.extBut _ _ n' (ka c o n e);have hOb:IsPair gb TO a b:=kb _ _ ap.oz (λe=>z1.2.1 e.symm) hO;refine Ab (CW hOb rfl (Ab (wpAny_updateSeq_pair hOb λgc hOc cc=>Ab (wpAny_letGo (Af ?_)))));replace hOc:IsPair gc TO x b:=hOc;have kc:∀ c o,c≠z->c≠i1->c≠TO->s.heap.get? c=some o->gc.get? c=some o:=λc o n n' n2 e=>cc.extBut _ _ n2 (kb c o n n' e);have sc1:S1 (k+1) gc:=D1.frame _ _ _ sb λc hc o e=>cc.extBut _ _ (ap.a1 c hc).2.1 e;refine Ab (Ab (wpAny_onRaise (Ab (m:=Bo (.ref i2)) (D2.item k _ _ _ l2 (D2.frame _ _ _ h2 λc hc o e=>kc c o (ap.a2 c hc).1 (ap.a2 c hc).2.2 (ap.a2 c hc).2.1 e) λy gd td py sd cd=>Af ?_))));have hOd:IsPair gd TO x b:=cd.extBut _ _ (λe=>z2.2.1 e.symm) hOc;refine Ab (CW hOd rfl (Ab (wpAny_updateSeq_pair hOd λge hOe ce=>Ab (wpAny_letGo (Af (Af ?_))))));replace hOe:IsPair ge TO x y:=hOe;have ke:∀ c o,c≠z->c≠TO->c≠i1->c≠i2->s.heap.get? c=some o->ge.get? c=some o:=λc o n n1 n2 n3 e=>ce.extBut _ _ n1 (cd.extBut _ _ n3 (kc c o n n2 n1 e));have hze:IsZip ge z TI TO .ellipsis:=ce.extBut _ _ (AQ ap.oz) (cd.extBut _ _ (AQ z2.1) (cc.extBut _ _ (AQ ap.oz) (cb.extBut _ _ (AQ z1.1) ca)));have se1:S1 (k+1) ge:=D1.frame _ _ _ sc1 λc hc o e=>ce.extBut _ _ (ap.a1 c hc).2.1 (cd.extBut _ _ (ap.a1 c hc).2.2 e);have se2:S2 (k+1) ge:=D2.frame _ _ _ sd λc hc o e=>ce.extBut _ _ (ap.a2 c hc).2.1 e;have szs:s.heap.objs.size=ge.objs.size:=by rw [ce.1,cd.1,cc.1,cb.1,sa.1]
 refine Ab (CW hOe rfl (Ab (wpAny_newTuple (Ab (m:=Fm (.ref z) (.ref ge.objs.size)) ?_))));unfold Fm;have zl:z<ge.objs.size:=Aq hze;refine Ab (Cq (show IsZip (ge.push { cls:=.type "tuple",data:=.seq #[x,y] }) z TI TO .ellipsis from Ac _ hze) (by simp) λgf cf sf=>?_);replace cf:IsZip gf z TI TO (rawInt ge.objs.size):=cf;refine Cq cf (by simp) λgg cg sg=>Af ⟨_,rfl,?_⟩;replace cg:IsZip gg z TI TO (rawInt ge.objs.size):=cg;have up:∀ c o,c≠z->ge.get? c=some o->gg.get? c=some o:=λc o n e=>sg.extBut _ _ n (sf.extBut _ _ n (Ac _ e));have hT:IsPair gg ge.objs.size x y:=sg.extBut _ _ (Dz zl) (sf.extBut _ _ (Dz zl) (Ah _ rfl));exact q x y ge.objs.size gg _ px py szs.symm cg (up _ _ ap.oz hOe) (D1.frame _ _ _ se1 λc hc o e=>up c o (ap.a1 c hc).1 e) (D2.frame _ _ _ se2 λc hc o e=>up c o (ap.a2 c hc).1 e) hT λc o n n1 n2 n3 e=>up c o n (ke c o n n1 n2 n3 e)
def aCd (D1:Draws prog w A i1 f1 n1 P1 S1)(D2:Draws prog w A i2 f2 n2 P2 S2)(ap:Ap z TI TO i1 i2 f1 f2)(hz:IsZip s.heap z TI TO .none)(hI:IsPair s.heap TI (.ref i1) (.ref i2))(hO:IsPair s.heap TO a b)(h1:S1 k s.heap)(h2:S2 k s.heap)(hk:k=n1\/(k<n1/\k=n2))(q:∀ g e t',(∀ c o,c≠z->c≠TO->c≠i1->c≠i2->s.heap.get? c=some o->g.get? c=some o)->(∃ o,g.get? e=some o/\o.cls=.type "StopIteration")->E (.ref e) { s with heap:=g,toks:=t' }) :
  wpAny (model prog w) A (AH.«zip.__next__» ⟨[.ref z],[]⟩) Q E s:=by
 have z1:=ap.a1 i1 ap.m1;have z2:=ap.a2 i2 ap.m2;refine Ab (m:=field (.ref z) 2) (BM hz rfl (x:=.bool false) rfl (Ab (m:=field (.ref z) 3) (BM hz rfl (x:=.ref TI) rfl (Ab (CW hI rfl (Ab (m:=CA (.ref z)) ?_))))));unfold CA;refine Ab (BM hz rfl (x:=.none) rfl (Af ?_));simp only [if_true];refine Ab (Dp (Ab (BM hz rfl (x:=.ref TO) rfl (Ab (Cq hz (by simp) λga ca sa=>Ab ?_)))));replace ca:IsZip ga z TI TO .ellipsis:=ca;have ka:∀ c o,c≠z->s.heap.get? c=some o->ga.get? c=some o:=λc o n e=>sa.extBut _ _ n e;simp only [List.zipIdx_cons,List.zipIdx_nil,List.forIn_cons,List.forIn_nil]
 rcases hk with e|⟨l1,e⟩
 ·subst e
  refine Ab (Ab (wpAny_onRaise (Ab (m:=Bo (.ref i1)) (D1.done _ _ _ (D1.frame _ _ _ h1 λc hc o e=>ka c o (ap.a1 c hc).1 e) λgb e cb he=>?_))));obtain ⟨oe,h3,h4⟩:=he;have hzb:IsZip gb z TI TO .ellipsis:=cb _ _ (AQ z1.1) ca;have hez:e≠z:=λx=>by rw [x,hzb] at h3;cases h3;simp at h4
  exact Cq hzb (by simp) λgc _ cc=>q gc e s.toks (λc o n _ n2 _ x=>cc.extBut _ _ n (cb _ _ n2 (ka c o n x))) ⟨oe,cc.extBut _ _ hez h3,h4⟩
 ·subst e
  refine Ab (Ab (wpAny_onRaise (Ab (m:=Bo (.ref i1)) (D1.item k _ _ _ l1 (D1.frame _ _ _ h1 λc hc o e=>ka c o (ap.a1 c hc).1 e) λx gb tb px sb cb=>Af ?_))));have kb:∀ c o,c≠z->c≠i1->s.heap.get? c=some o->gb.get? c=some o:=λc o n n' e=>cb.extBut _ _ n' (ka c o n e);have hOb:IsPair gb TO a b:=kb _ _ ap.oz (λe=>z1.2.1 e.symm) hO;refine Ab (CW hOb rfl (Ab (wpAny_updateSeq_pair hOb λgc hOc cc=>Ab (wpAny_letGo (Af ?_)))));have kc:∀ c o,c≠z->c≠i1->c≠TO->s.heap.get? c=some o->gc.get? c=some o:=λc o n n' n2 e=>cc.extBut _ _ n2 (kb c o n n' e);refine Ab (Ab (wpAny_onRaise (Ab (m:=Bo (.ref i2)) (D2.done _ _ _ (D2.frame _ _ _ h2 λc hc o e=>kc c o (ap.a2 c hc).1 (ap.a2 c hc).2.2 (ap.a2 c hc).2.1 e) λgd e cd he=>?_))));obtain ⟨oe,h3,h4⟩:=he;have hzd:IsZip gd z TI TO .ellipsis:=cd _ _ (AQ z2.1) (cc.extBut _ _ (AQ ap.oz) (cb.extBut _ _ (AQ z1.1) ca));have hez:e≠z:=λx=>by rw [x,hzd] at h3;cases h3;simp at h4
  exact Cq hzd (by simp) λge _ ce=>q ge e tb (λc o n n1 n2 n3 x=>ce.extBut _ _ n (cd _ _ n3 (kc c o n n2 n1 x))) ⟨oe,ce.extBut _ _ hez h3,h4⟩
def aG6 {Q:Option Value->Shared->Prop}(D1:Draws prog w A.in1 i1 f1 n1 P1 S1)(D2:Draws prog w A.in1 i2 f2 n2 P2 S2)(ap:Ap z TI TO i1 i2 f1 f2)(hz:IsZip s.heap z TI TO .none)(hI:IsPair s.heap TI (.ref i1) (.ref i2))(hO:IsPair s.heap TO a b)
  (h1:S1 k s.heap) (h2:S2 k s.heap) (l1:k<n1) (l2:k<n2)
  (q:∀ x y T g t',P1 k x->P2 k y->T=s.heap.objs.size->IsZip g z TI TO (rawInt T)->IsPair g TO x y->S1 (k+1) g->S2 (k+1) g->IsPair g T x y->(∀ c o,c≠z->c≠TO->c≠i1->c≠i2->s.heap.get? c=some o->g.get? c=some o)->Q (some (.ref T)) { s with heap:=g,toks:=t' }) :
  wpAny (model prog w) A (pyNext (.ref z)) Q E s:=by
 have ty:s.TypeIs (.ref z) "zip":=⟨_,hz,rfl⟩;unfold pyNext;exact Ab (DG (Bz (name:=CP "__next__") ty F.slot_zip_next (Bv F.slot_zip_next ty F.entry_zip_next (aCe D1 D2 ap hz hI hO h1 h2 l1 l2 λx y T g t' c1 c2 c3 c4 c5 c6 c7 c8 c9=>Af (q x y T g t' c1 c2 c3 c4 c5 c6 c7 c8 c9)) (F.args_zip_next_1 _))))
def uF (D1:Draws prog w A.in1 i1 f1 n1 P1 S1)(D2:Draws prog w A.in1 i2 f2 n2 P2 S2)(ap:Ap z TI TO i1 i2 f1 f2)(hz:IsZip s.heap z TI TO .none)(hI:IsPair s.heap TI (.ref i1) (.ref i2))(hO:IsPair s.heap TO a b)(h1:S1 k s.heap)(h2:S2 k s.heap)(hk:k=n1\/(k<n1/\k=n2))(q:∀ g t',(∀ c o,c≠z->c≠TO->c≠i1->c≠i2->s.heap.get? c=some o->g.get? c=some o)->Q none { s with heap:=g,toks:=t' }):wpAny (model prog w) A (pyNext (.ref z)) Q E s:=by
 have ty:s.TypeIs (.ref z) "zip":=⟨_,hz,rfl⟩;unfold pyNext;refine Ab (DG (Bz (name:=CP "__next__") ty F.slot_zip_next (Bv F.slot_zip_next ty F.entry_zip_next (aCd D1 D2 ap hz hI hO h1 h2 hk λg e t' kp he=>?_) (F.args_zip_next_1 _))));obtain ⟨o,h3,h4⟩:=he;exact Ab (Fj (T:="StopIteration") (b:=true) ⟨o,h3,h4⟩ isSubtype_stop (Af (q _ _ kp)))
end
end
def Itz (K:Aa)(a b:Addr):It:=
  ⟨λi H=>∃ xs ys,SqT K H a xs/\SqL K H b ys/\i<xs.length/\i<ys.length,
   λi H v H'=>∃ T,H T=none/\v=.ref T/\∀ xs ys,SqT K H a xs->SqL K H b ys->∃ x y,xs[i]?=some x/\ys[i]?=some y/\H'=upd H T (.tup [x,y]),
   λi H=>∃ xs ys,SqT K H a xs/\SqL K H b ys/\(i=xs.length\/(i<xs.length/\i=ys.length))⟩
def Inv.turnedL {X:Cx}{pins:List (Addr×Obj)}{σ:St}{H:Hp}{s:Shared}{h':Heap}{t':Nat}{ch:List Addr}(I:Inv X pins σ H s)(k:∀ b o,b∉ch->s.heap.get? b=some o->h'.get? b=some o)(hf:∀ b∈ch,FpOk X pins H b):Inv X pins σ H { s with heap:=h',toks:=t' }:=by
 have nit:∀ b u,H b=some u->b∉ch:=λb u e z=>by rw [(hf b z).1] at e;cases e
 refine I.step (g':=s.gens) (d':=s.drawn) (ch:=ch) (λb hb=>⟨(hf b hb).2.2.2.1,(hf b hb).2.1,(hf b hb).2.2.2.2.1,(hf b hb).2.2.2.2.2⟩) (λb o _ _ hc e _=>k b o hc e) (λb o _ _ hc e _=>⟨o.slots,k b o hc e⟩) (λ_ _ _ _ n=>n)
  (λb o hc e=>⟨o,k b o hc e⟩) (λ_ _ e=>e) (λ_ _ _ e=>e) (λb ps e=>⟨#[],by rw [e];simp⟩) (λm hm=>?_) (λb u e=>?_) I.bare
 ·obtain ⟨o,es,ep,ho,r⟩:=hm
  exact ⟨o,es,ep,k _ o (λz=>(hf _ z).2.1 rfl) ho,r⟩
 ·refine (I.hok b u e).stay (λc v hc q=>k c v ?_ q) (λ_ q=>q) λ_ _ q=>q
  rcases hc with z|z
  ·rw [z];exact nit b u e
  ·exact nit c _ z
def ZipSt (n a b:Nat)(i:Nat)(h:Heap):Prop:=IsZip h (n+4) (n+2) (n+3) .none/\IsPair h (n+2) (.ref n) (.ref (n+1))/\(∃ x y,IsPair h (n+3) x y)/\h.IsTupleIter n a i/\h.IsListIter (n+1) b i
def aCa {n a b:Nat}(ha:a<n)(hb:b<n):Ap (n+4) (n+2) (n+3) n (n+1) [n,a] [n+1,b] where
 a1:=λc hc=>by
  have hc':c=n\/c=a:=by simpa using hc
  rcases hc' with e|e<;>(subst e;exact ⟨by show (_:Nat)≠_;omega,by show (_:Nat)≠_;omega,by show (_:Nat)≠_;omega⟩)
 a2:=λc hc=>by
  have hc':c=n+1\/c=b:=by simpa using hc
  rcases hc' with e|e<;>(subst e;exact ⟨by show (_:Nat)≠_;omega,by show (_:Nat)≠_;omega,by show (_:Nat)≠_;omega⟩)
 m1:=by simp
 m2:=by simp
 tz:=by show (_:Nat)≠_;omega
 tO:=by show (_:Nat)≠_;omega
 t1:=by show (_:Nat)≠_;omega
 t2:=by show (_:Nat)≠_;omega
 oz:=by show (_:Nat)≠_;omega
abbrev zo1 (h:Heap)(a:Addr):Heap:=h.push { cls:=.type "tuple_iterator",data:=.fields #[.ref a,.int 0 0] }
abbrev zo2 (h:Heap)(a b:Addr):Heap:=(zo1 h a).push { cls:=.type "list_iterator",data:=.fields #[.ref b,.int 0 0] }
abbrev zo3 (h:Heap)(a b:Addr):Heap:=(zo2 h a b).push { cls:=.type "tuple",data:=.seq #[.ref h.objs.size,.ref (zo1 h a).objs.size] }
abbrev zo4 (h:Heap)(a b:Addr):Heap:=(zo3 h a b).push { cls:=.type "tuple",data:=.seq #[.none,.none] }
abbrev zo5 (h:Heap)(a b:Addr):Heap:=(zo4 h a b).push { cls:=.type "zip",data:=.fields #[.none,.bool false,.bool false,.ref (zo2 h a b).objs.size,.ref (zo3 h a b).objs.size] }
def iZip (K:Aa)(ta:TA):TI:=λσ H R=>ta σ H λvs H1=>∃ a b,vs=[.ref a,.ref b]/\(∃ xs,SqT K H1 a xs)/\(∃ ys,SqL K H1 b ys)/\R (Itz K a b) H1
def aG0:Cd "zip" = some (.type "zip"):=by decide +kernel
def aDk {X:Cx}{K:Aa}(h:X.K=K)(hu:X.A.units+64<cLine):OpR X (BN .NotEq) (rNeI K):=h▸vZ hu
section
variable {κ:Type}[DecidableEq κ]
def valV (kvs:List (κ×V))(k:κ):Option V:=(kvs.find? λkv=>decide (kv.1=k)).map (·.2)
def putK (kvs:List (κ×V))(k:κ)(v:V):List (κ×V):=
 if (kvs.any λkv=>decide (kv.1=k))=true then kvs.map (λkv=>if kv.1=k then (kv.1,v) else kv) else kvs++[(k,v)]
def aEi (kvs:List (κ×V))(k:κ):List (κ×V):=kvs.filter λkv=>decide (kv.1≠k)
theorem dI {p:κ×V}{r:List (κ×V)}{k:κ}(e:p.1=k):valV (p::r) k=some p.2:=by simp [valV,Ds,e]
theorem dJ {p:κ×V}{r:List (κ×V)}{k:κ}(e:¬ p.1=k):valV (p::r) k=valV r k:=by simp [valV,Ds,e]
theorem eS (k:κ):∀ kvs:List (κ×V),(kvs.any λkv=>decide (kv.1=k))=(valV kvs k).isSome
 |[]=>rfl
 |p::r=>by
  rw [List.any_cons]
  by_cases e:p.1=k
  ·simp only [dI e,decide_eq_true e,Bool.true_or,Option.isSome_some]
  ·rw [dJ e,decide_eq_false e,Bool.false_or];exact eS k r
theorem qC (k j:κ)(y:V):∀ kvs:List (κ×V),valV (kvs.map λkv=>if kv.1=k then (kv.1,y) else kv) j=(valV kvs j).map λx=>if j=k then y else x
 |[]=>rfl
 |p::r=>by
  have ih:=qC k j y r;rw [Al]
  by_cases h:p.1=k
  ·rw [if_pos h]
   by_cases e:p.1=j
   ·rw [dI (p:=(p.1,y)) e,dI e,Dq,if_pos (e.symm.trans h)]
   ·rw [dJ (p:=(p.1,y)) e,dJ e,ih]
  ·rw [if_neg h]
   by_cases e:p.1=j
   ·rw [dI (p:=p) e,dI e,Dq,if_neg (λz=>h (e.trans z))]
   ·rw [dJ (p:=p) e,dJ e,ih]
theorem mF (k j:κ)(y:V):∀ kvs:List (κ×V),valV kvs k=none->valV (kvs++[(k,y)]) j=if j=k then some y else valV kvs j
 |[],_=>by
  by_cases e:k=j
  ·rw [if_pos e.symm];exact dI (p:=(k,y)) e
  ·rw [if_neg (λz=>e z.symm)];exact dJ (p:=(k,y)) e
 |p::r,hn=>by
  rw [List.cons_append];have hk:¬ p.1=k:=λz=>by rw [dI z] at hn;cases hn
  rw [dJ hk] at hn;have ih:=mF k j y r hn
  by_cases e:p.1=j
  ·rw [dI e,dI e,if_neg (λz=>hk (e.trans z))]
  ·rw [dJ e,dJ e,ih]
theorem qB (kvs:List (κ×V))(k j:κ)(y:V):valV (putK kvs k y) j=if j=k then some y else valV kvs j:=by
 unfold putK
 by_cases a:(kvs.any λkv=>decide (kv.1=k))=true
 ·rw [if_pos a,qC]
  rw [eS] at a
  by_cases e:j=k
  ·obtain ⟨x,hx⟩:=Option.isSome_iff_exists.mp a
   rw [if_pos e,e,hx,Dq,if_pos rfl]
  ·rw [if_neg e]
   cases valV kvs j with
   |none=>rfl
   |some x=>rw [Dq,if_neg e]
 ·rw [if_neg a]
  refine mF k j y kvs ?_;rw [eS] at a;cases q:valV kvs k with
  |none=>rfl
  |some x=>rw [q] at a;exact (a rfl).elim
def fM (kvs:List (κ×V))(k:κ)(v:V):(putK kvs k v).length<=kvs.length+1:=by
 unfold putK;split
 ·rw [Ag];omega
 ·rw [AF,AI,List.length_nil];omega
theorem RelO.isSome_eq (r:RelO o u):o.isSome=u.isSome:=by
 cases o with
 |none=>cases u with
  |none=>rfl
  |some _=>exact (show False from r).elim
 |some _=>cases u with
  |none=>exact (show False from r).elim
  |some _=>rfl
theorem RelO.getD (r:RelO o u)(rd:RelV d d'):RelV (o.getD d) (u.getD d'):=by
 cases o with
 |none=>cases u with
  |none=>exact rd
  |some _=>exact (show False from r).elim
 |some _=>cases u with
  |none=>exact (show False from r).elim
  |some _=>exact r
theorem KV.val (r:KV kvs vs)(k:κ):RelO (valV kvs k) (valueAt vs k):=by
 unfold KV at r
 induction r with
 |nil=>exact DF
 |@cons p q ps qs h t ih=>
  obtain ⟨h1,h2⟩:=h
  by_cases e:p.1=k
  ·have e':q.1=k:=h1.symm.trans e
   have b:valueAt (q::qs) k=some q.2:=by simp [valueAt,Ds,e']
   rw [dI e,b];exact h2
  ·have e':¬ q.1=k:=λz=>e (h1.trans z)
   have b:valueAt (q::qs) k=valueAt qs k:=by simp [valueAt,Ds,e']
   rw [dJ e,b];exact ih
theorem KV.any (r:KV kvs vs)(k:κ):(kvs.any λkv=>decide (kv.1=k))=vs.any λkv=>decide (kv.1=k):=by
 unfold KV at r
 induction r with
 |nil=>rfl
 |cons h t ih=>rw [List.any_cons,List.any_cons,ih,h.1]
def KV.repl (r:KV kvs vs)(k:κ)(ry:RelV y u) :
  KV (kvs.map λkv=>if kv.1=k then (kv.1,y) else kv) (vs.map λkv=>if kv.1=k then (kv.1,u) else kv):=by
 unfold KV at r ⊢
 induction r with
 |nil=>exact .nil
 |@cons p q ps qs h t ih=>
  rw [Al,Al];refine .cons ?_ ih;obtain ⟨h1,h2⟩:=h
  by_cases e:p.1=k
  ·rw [if_pos e,if_pos (h1.symm.trans e)];exact ⟨h1,ry⟩
  ·rw [if_neg e,if_neg (λz=>e (h1.trans z))];exact ⟨h1,h2⟩
def KV.put (r:KV kvs vs)(k:κ)(ry:RelV y u):KV (putK kvs k y) (stored vs k u):=by
 unfold putK stored;rw [r.any k]
 by_cases e:(vs.any λkv=>decide (kv.1=k))=true
 ·rw [if_pos e,if_pos e];exact r.repl k ry
 ·rw [if_neg e,if_neg e];exact Paired.snoc r ⟨rfl,ry⟩
theorem KV.keys {kvs:List (κ×V)}{vs:List (κ×Value)}(r:KV kvs vs):kvs.map (·.1)=vs.map (·.1):=by
 unfold KV at r
 induction r with
 |nil=>rfl
 |cons h t ih=>rw [Al,Al,ih,h.1]
theorem KV.length (r:KV kvs vs):kvs.length=vs.length:=Paired.length r
end
def tR {w:World}{k:Key}(r:RelV (kV k) u):(bI P w).is k u=true:=by
 cases k with
 |inl i=>obtain ⟨t,e⟩:=(show ∃ t,u=Value.int i t from r);subst e;exact pK P w i t
 |inr x=>obtain ⟨t,e⟩:=(show ∃ t,u=Value.str x t from r);subst e;exact pJ P w x t
theorem nM {w:World}:∀ {ks:List Key} {us:List Value},Vals (ks.map kV) us->ItemsAre (bI P w) ks us
 |[],_,r=>by rw [List.map_nil] at r;cases r;exact .nil
 |k::ks,_,r=>by
  rw [Al] at r;cases r with
  |cons h t=>exact .cons (tR h) (nM t)
abbrev KT (H:Hp):List (List Key×V)->List (List Key×Addr×Value)->Prop:=Paired λp q=>p.1=q.1/\H q.2.1=some (.tup (p.1.map kV))/\RelV p.2 q.2.2
theorem KT.val (r:KT H kvs xs)(k:List Key):RelO (valV kvs k) ((atKey xs k).map (·.2)):=by
 induction r with
 |nil=>exact DF
 |@cons p q ps qs h t ih=>
  obtain ⟨h1,_,h2⟩:=h
  by_cases e:p.1=k
  ·have e':q.1=k:=h1.symm.trans e
   have b:atKey (q::qs) k=some q.2:=by simp [atKey,Ds,e']
   rw [dI e,b];exact h2
  ·have e':¬ q.1=k:=λz=>e (h1.trans z)
   have b:atKey (q::qs) k=atKey qs k:=by simp [atKey,Ds,e']
   rw [dJ e,b];exact ih
def KT.repl (r:KT H kvs xs)(k:List Key)(ry:RelV y u) :
  KT H (kvs.map λkv=>if kv.1=k then (kv.1,y) else kv) (xs.map (putAt k u)):=by
 induction r with
 |nil=>exact .nil
 |@cons p q ps qs h t ih=>
  rw [Al,Al];refine .cons ?_ ih;obtain ⟨h1,h2,h3⟩:=h;unfold putAt
  by_cases e:p.1=k
  ·rw [if_pos e,if_pos (h1.symm.trans e)];exact ⟨h1,h2,ry⟩
  ·rw [if_neg e,if_neg (λz=>e (h1.trans z))];exact ⟨h1,h2,h3⟩
def KT.put (r:KT H kvs xs)(k:List Key)(hb:H b=some (.tup (k.map kV)))(ry:RelV y u) :
  KT H (putK kvs k y) (storedH xs k b u):=by
 have e:(kvs.any λkv=>decide (kv.1=k))=(atKey xs k).isSome:=by
  rw [eS,(r.val k).isSome_eq,Option.isSome_map]
 unfold putK storedH;rw [e]
 by_cases q:(atKey xs k).isSome=true
 ·rw [if_pos q,if_pos q];exact r.repl k ry
 ·rw [if_neg q,if_neg q];exact Paired.snoc r ⟨rfl,hb,ry⟩
def KT.keeps (r:KT H kvs xs)(ht:∀ b ys,H b=some (.tup ys)->H' b=some (.tup ys)):KT H' kvs xs:=
 Paired.mapP r λ_ _ z=>⟨z.1,ht _ _ z.2.1,z.2.2⟩
section
variable {P:Az}{w:World}{H:Hp}{h:Heap}{a:Addr}
def aFm (ok:HOk P w H h)(e:Rd H a u):ObjOk P w H h a u:=e.ok ok
def xX (ok:HOk P w H h)(e:Rd H a (.dK kvs)):kvs.length<=Ax/\(a==DO)=false/\∃ vs,KV kvs vs/\h.DictOf (bI P w) a vs:=
 show ObjOk P w H h a (.dK kvs) from aFm ok e
def tX (ok:HOk P w H h)(e:H a=some (.dK kvs)):kvs.length<=Ax/\(a==DO)=false/\∃ vs,KV kvs vs/\h.DictOf (bI P w) a vs:=xX ok (.inl e)
def rN (ok:HOk P w H h)(e:H a=some (.tup (ks.map kV))):(tupleKind (bI P w)).is h ks a:=by
 obtain ⟨_,its,r,o,h1,h2,n,h3⟩:=(show ObjOk P w H h a (.tup (ks.map kV)) from ok a _ e);exact ⟨o,its.toArray,n,h1,h2,h3,by simpa using nM r⟩
def xT (ok:HOk P w H h)(e:Rd H a (.dT kvs)):kvs.length<=Ax/\(a==DO)=false /\
  ∃ xs,KT H kvs xs/\h.DictOfH (tupleKind (bI P w)) a xs:=by
 obtain ⟨z,y,xs,r,o,es,ep,h1,h2,h3,h4,h5⟩:=(show ObjOk P w H h a (.dT kvs) from aFm ok e);refine ⟨z,y,xs,r,o,es,ep,h1,h2,h3,h4,λx hx=>?_,h5⟩;have all:∀ {l:List (List Key×V)} {m:List (List Key×Addr×Value)},KT H l m->∀ x∈m,(tupleKind (bI P w)).is h x.1 x.2.1:=by
  intro l m q
  induction q with
  |nil=>intro x hx;exact nomatch hx
  |@cons p q ps qs hq t ih=>
   intro x hx
   rcases AE.mp hx with e|hx
   ·subst e
    exact rN ok (by rw [<- hq.1];exact hq.2.1)
   ·exact ih x hx
 exact all r x hx
def aIi (ok:HOk P w H h)(e:H a=some (.dT kvs)):kvs.length<=Ax/\(a==DO)=false /\
  ∃ xs,KT H kvs xs/\h.DictOfH (tupleKind (bI P w)) a xs:=xT ok (.inl e)
end
def DGet (H:Hp)(a:Addr)(y:V)(r:Option V):Prop:=
 (∃ kvs k,Rd H a (.dK kvs)/\y=kV k/\r=valV kvs k)\/∃ kvs k b,Rd H a (.dT kvs)/\y=.ref b/\H b=some (.tup (k.map kV))/\r=valV kvs k
def DPut (H:Hp)(a:Addr)(y v:V)(H':Hp):Prop:=
 (∃ kvs k,H a=some (.dK kvs)/\y=kV k/\kvs.length<Ax/\H'=upd H a (.dK (putK kvs k v))) \/
 ∃ kvs k b,H a=some (.dT kvs)/\y=.ref b/\H b=some (.tup (k.map kV))/\kvs.length<Ax/\H'=upd H a (.dT (putK kvs k v))
theorem DGet.k {k:Key}(e:H a=some (.dK kvs)):DGet H a (kV k) (valV kvs k):=.inl ⟨kvs,k,.inl e,rfl,rfl⟩
theorem DPut.k {k:Key}(e:H a=some (.dK kvs))(hl:kvs.length<Ax):DPut H a (kV k) v (upd H a (.dK (putK kvs k v))):=.inl ⟨kvs,k,e,rfl,hl,rfl⟩
section
variable {X:Cx}{pins:List (Addr×Obj)}{σ:St}{H:Hp}{s:Shared}{a:Addr}{y v:V}{u r:Value}{o:Option V}{A:Around}{E:Value->Shared->Prop}
def Inv.big (I:Inv X pins σ H s):DO<s.heap.objs.size:=by
 have h:An<s.heap.objs.size:=(I.mod.glob.keeps I.bk).lt;exact CG (by decide) h
def yD (hu:A.units+1<cLine)(I:Inv X pins σ H s)(g:DGet H a y (some v))(ry:RelV y u)(h:∀ w' s',Inv X pins σ H s'->RelV v w'->Q w' s') :
  wpAny (model X.prog X.w) A (getItem (.ref a) u) Q E s:=by
 rcases g with ⟨kvs,k,e,ey,l⟩|⟨kvs,k,b,e,ey,eb,l⟩
 ·subst ey
  obtain ⟨z,hd,vs,rel,dd⟩:=xX I.hok e;obtain ⟨w',hw,rw'⟩:=RelO.some_of (v:=v) (o:=valueAt vs k) (by rw [l];exact rel.val k);exact wpAny_getItem_of (tR ry) dd.mapOf hw (h w' _ (I.tok _) rw')
 ·subst ey
  cases (show u=AD b from ry);obtain ⟨z,hd,xs,rel,dd⟩:=xT I.hok e;obtain ⟨w',hw,rw'⟩:=RelO.some_of (v:=v) (o:=(atKey xs k).map (·.2)) (by rw [l];exact rel.val k);obtain ⟨p,hp,hp2⟩:=BB.mp hw;refine wpAny_getItem_heap (tupleKind_room_in1 hu) (rN I.hok eb) dd hp ?_;rw [hp2];exact h w' _ (I.tok _) rw'
def pT {t':Nat}(I:Inv X pins σ H s)(mu:Mut (H a))(hs:Ci a s.heap h')(he:∃ q,h'.get? a=some q)(new:ObjOk X.prog X.w (upd H a ob) h' a ob) :
  Inv X pins σ (upd H a ob) { s with heap:=h',toks:=t' }:=
 I.write (x:=a) (e:=a) mu (.inl rfl) (λb q hb z=>(hs.2 b hb).trans z) he new
def aB5 {w:World}(z:kvs.length<=Ax)(hd:(a==DO)=false)(rel:KV kvs vs)(dd:h'.DictOf (bI P w) a vs) :
  ObjOk P w H' h' a (.dK kvs):=⟨z,hd,vs,rel,dd⟩
def yC (hu:A.units+1<cLine)(I:Inv X pins σ H s)(g:DPut H a y v H')(ry:RelV y u)(rv:RelV v r)(h:∀ s',Inv X pins σ H' s'->Q () s') :
  wpAny (model X.prog X.w) A (setItem (.ref a) u r) Q E s:=by
 rcases g with ⟨kvs,k,e,ey,l,eH⟩|⟨kvs,k,b,e,ey,eb,l,eH⟩
 ·subst ey eH
  obtain ⟨z,hd,vs,rel,dd⟩:=tX I.hok e;have hz:vs.length<=Ax:=by rw [<- rel.length];exact z
  have hl:(putK kvs k v).length<=Ax:=by have:=fM kvs k v;omega
  refine wpAny_setItem_pairs (hsz:=hz) (tR ry) dd λh' dd' hs=>h _ ?_;have he:∃ q,h'.get? a=some q:=let ⟨q,_,_,hq,_⟩:=dd';⟨q,hq⟩;exact pT I (by rw [e];exact DF) hs he (aB5 hl hd (rel.put k rv) dd')
 ·subst ey eH
  cases (show u=AD b from ry);obtain ⟨z,hd,xs,rel,dd⟩:=aIi I.hok e;have hz:xs.length<=Ax:=by rw [<- Paired.length rel];exact z
  have hl:(putK kvs k v).length<=Ax:=by have:=fM kvs k v;omega
  refine wpAny_setItem_heap (hsz:=hz) (tupleKind_room_in1 hu) (rN I.hok eb) dd λh' dd' hs=>h _ ?_;obtain ⟨q,es,ep,hq,h2,h3,h4,_,h5⟩:=dd';refine pT I (by rw [e];exact DF) hs ⟨q,hq⟩ ⟨hl,hd,_,(rel.put k eb rv).keeps λc ys ec=>?_,q,es,ep,hq,h2,h3,h4,h5⟩;rw [aH (aH6 ec e (λz=>nomatch z))];exact ec
end
section
variable {X:Cx}{pins:List (Addr×Obj)}{σ:St}{H:Hp}{s:Shared}{a:Addr}{kvs:List (Key×V)}{k:Key}{u:Value}{A:Around}{E:Value->Shared->Prop}
end
def NoSl (i:Expr):Prop:=∀ ov iv,subscripted i false ov iv=operate [ov,iv] (getItem ov iv)
def aCn {prog:Az}{w:World}{A:Around}{E:Value->Shared->Prop}{s:Shared}{env:Env}{value slice:Expr}{pos:Pos}{T id:String}{Q:Value->Shared->Prop}
  (hl:typeLookup (.type T) "__getitem__" = pure (some (.builtin id))) (hs:NoSl slice)
  (h:wpAny (model prog w) A (eval value env) (λo s₁=>wpAny (model prog w) A (eval slice env) (λi s₂=>s₂.TypeIs o T/\wpAny (model prog w) A (getItem o i) Q E s₂) E s₁) E s) :
  wpAny (model prog w) A (eval (.Subscript value slice pos) env) Q E s:=by
 refine Subscript_ (BW h (λo s₁ h₁=>BW h₁ (λi s₂ h₂=>?_) λ_ _ x=>x) λ_ _ x=>x);obtain ⟨hT,h₂⟩:=h₂;unfold subscriptTail;refine Ab ?_;rw [getitemInPython_of_ne hT.not_modules];refine Ab (wpAny_specialOf hT hl ?_);have fin:wpAny (model prog w) A (subscripted slice false o i) (λr s₃=>wpAny (model prog w) A (letTemporaryGo value o r >>= λ_=>pure r) Q E s₃) E s₂:=by
  rw [hs o i];exact wpAny_operating (BW h₂ (λr s₃ h₃=>Ab (wpAny_letTemporaryGo (Af h₃))) λ_ _ x=>x)
 first
  |exact Af (Ab fin)
  |exact Ab (Af (Ab fin))
  |exact Ab fin
def pS {σ:St}(I:Inv X pins σ H s)(g:DGet H a y o):s.TypeIs (.ref a) "dict":=by
 rcases g with ⟨kvs,k,e,_,_⟩|⟨kvs,k,b,e,_,_,_⟩
 ·obtain ⟨_,_,vs,_,dd⟩:=xX I.hok e
  exact dd.typeIs
 ·obtain ⟨_,_,xs,_,dd⟩:=xT I.hok e
  exact dd.typeIs
def aHk (td ty:TE):TE:=λσ H Q=>td σ H λx H1=>ty σ H1 λy H2=>∃ a v,x=.ref a/\DGet H2 a y (some v)/\Q v H2
def tDIn (ty td:TE):TE:=λσ H Q=>ty σ H λy H1=>td σ H1 λx H2=>∃ a o,x=.ref a/\DGet H2 a y o/\Q (.bl o.isSome) H2
def tDNotIn (ty td:TE):TE:=λσ H Q=>ty σ H λy H1=>td σ H1 λx H2=>∃ a o,x=.ref a/\DGet H2 a y o/\Q (.bl (!o.isSome)) H2
def aHp (td ty tv:TE):TS:=λD σ H=>tv σ H λv H1=>td σ H1 λx H2=>ty σ H2 λy H3=>∃ a H4,x=.ref a/\DPut H3 a y v H4/\D.nx σ H4
def sDAug (td ty tv:TE)(rd:V->V->Hp->VK->Prop):TS:=λD σ H=>td σ H λx H1=>ty σ H1 λy H2=>∃ a v,x=.ref a/\DGet H2 a y (some v) /\
 tv σ H2 λy2 H3=>rd v y2 H3 λz H4=>∃ H5,DPut H4 a y z H5/\D.nx σ H5
def sDDel (td ty:TE):TS:=λD σ H=>td σ H λx H1=>ty σ H1 λy H2=>∃ a kvs k,x=.ref a/\H2 a=some (.dK kvs)/\y=kV k/\(valV kvs k).isSome=true/\D.nx σ (upd H2 a (.dK (aEi kvs k)))
section
variable {X:Cx}{o i e value:Expr}{pos pos' tpos:Pos}{td ty tv:TE}
def iU (hu:X.A.units+1<cLine)(ho:PE X o td)(hi:PE X i ty)(hs:NoSl i):PE X (.Subscript o i pos) (aHk td ty):=by
 intro pins s σ H Q I h;refine aCn PySem.F.slot_dict_getitem.lookup hs (thn (ho pins s σ H _ I h) λu s1 ⟨x,H1,I1,rx,q1⟩=>thn (hi pins s1 σ H1 _ I1 q1) λiv s2 ⟨y,H2,I2,ry,a,v,ex,g,q2⟩=>?_);subst ex;obtain rfl:u=AD a:=rx;exact ⟨pS I2 g,yD hu I2 g ry λw' s3 I3 rw'=>⟨v,H2,I3,rw',q2⟩⟩
def pD (hu:X.A.units+1<cLine)(ho:PE X o td)(hi:PE X i ty)(hv:PE X value tv)(hs:swapsWith value (some (.Subscript o i pos')) pos.line X.env=pure false) :
  PS X (.Assign [.Subscript o i pos'] value pos) (aHp td ty tv):=by
 intro pins s σ H D I h;refine wpAny_Assign_Subscript (thn (hv pins s σ H _ I h) λr s1 ⟨v,H1,I1,rv,q1⟩=>thn (ho pins s1 σ H1 _ I1 q1) λu s2 ⟨x,H2,I2,rx,q2⟩=>thn (hi pins s2 σ H2 _ I2 q2) λiv s3 ⟨y,H3,I3,ry,a,H4,ex,g,q3⟩=>?_) hs;subst ex;obtain rfl:u=AD a:=rx;exact yC hu I3 g ry rv λs4 I4=>⟨σ,H4,I4,q3⟩
end
def rT {w:World}(h:Heap)(hb:DO<h.objs.size):ObjOk P w H (h.push { cls:=.type "dict",data:=.dict #[] }) h.objs.size (.dK []):=
 ⟨BK _,beq_eq_false_iff_ne.mpr (AQ (Aw hb)),[],.nil,Heap.DictOf.new h⟩
def aE2:TE:=λ_ H Q=>∀ p,H p=none->Q (.ref p) (upd H p (.dK []))
def tDNewT:TE:=λ_ H Q=>∀ p,H p=none->Q (.ref p) (upd H p (.dT []))
section
variable {X:Cx}{pos:Pos}
def qZ:PE X (.Dict [] [] pos) aE2:=λpins s σ H Q I h=>
 wpAny_Dict_empty ⟨.ref s.heap.objs.size,_,I.laid (a:=s.heap.objs.size) (o:=.dK []) (t':=s.toks) (λ_ _ q=>Ac _ q) (Ak _) (rT s.heap I.big),rfl,h _ (I.hok.fresh (Ak _))⟩
end
def uL:List (TE×TE)->St->Hp->(List (V×V)->Hp->Prop)->Prop
  |[],_,H,Q=>Q [] H
  |(tk,tv)::r,σ,H,Q=>tk σ H λx H1=>tv σ H1 λy H2=>uL r σ H2 λps H3=>Q ((x,y)::ps) H3
abbrev VV:List (V×V)->List (Value×Value)->Prop:=Paired λp q=>RelV p.1 q.1/\RelV p.2 q.2
def PPs (X:Cx)(pos:Pos)(keys:List (Option Expr))(values:List Expr)(trs:List (TE×TE)):Prop:=
 ∀ (pins:List (Addr×Obj)) (s:Shared) (σ:St) (H:Hp) (Q:List (V×V)->Hp->Prop),Inv X pins σ H s->uL trs σ H Q ->
  wpAny (model X.prog X.w) X.A (evalPairs (pairTrees keys values X.env pos)) (λvs s'=>∃ ps H',Inv X pins σ H' s'/\VV ps vs/\Q ps H') X.xe s
def vJ :PPs X pos [] [] []:=λpins s σ H Q I h=>pairTrees_nil_walk ⟨[],H,I,.nil,h⟩
def qY {k v:Expr}{tk tv:TE}(hk:PE X k tk)(hv:PE X v tv)(hr:PPs X pos ks vs trs) :
  PPs X pos (some k::ks) (v::vs) ((tk,tv)::trs):=λpins s σ H Q I h=>
 pairTrees_cons_walk (thn (hk pins s σ H _ I h) λu s1 ⟨x,H1,I1,rx,q1⟩=>thn (hv pins s1 σ H1 _ I1 q1) λw2 s2 ⟨y,H2,I2,ry,q2⟩=>
  thn (hr pins s2 σ H2 _ I2 q2) λws s3 ⟨ps,H3,I3,rel,q3⟩=>⟨(x,y)::ps,H3,I3,.cons ⟨rx,ry⟩ rel,q3⟩)
def jU (kvs more:List (Key×V)):List (Key×V):=more.foldl (λacc kv=>putK acc kv.1 kv.2) kvs
def KV.merge:∀ {more:List (Key×V)} {rs:List (Key×Value)} {kvs:List (Key×V)} {vs:List (Key×Value)},KV more rs->KV kvs vs->KV (jU kvs more) (merged vs rs):=by
 intro more rs kvs vs r;unfold KV at r
 induction r generalizing kvs vs with
 |nil=>intro q;exact q
 |@cons p q ps qs h t ih=>
  intro r0;have e:KV (putK kvs p.1 p.2) (stored vs q.1 q.2):=by
   have:=r0.put p.1 h.2;rw [<- h.1];exact this
  exact ih e
theorem gB:∀ (more kvs:List (Key×V)),(jU kvs more).length<=kvs.length+more.length
 |[],kvs=>by show kvs.length<=kvs.length+0;omega
 |p::r,kvs=>by
  have h1:=gB r (putK kvs p.1 p.2);have h2:=fM kvs p.1 p.2;show (jU (putK kvs p.1 p.2) r).length<=_;rw [AI];omega
theorem kA {w:World}:∀ {kvs:List (Key×V)} {ws:List (Value×Value)},VV (kvs.map λkv=>(kV kv.1,kv.2)) ws->∃ rs,Carries (bI P w) ws rs/\KV kvs rs
 |[],_,r=>by rw [List.map_nil] at r;cases r;exact ⟨[],DF,.nil⟩
 |p::kvs,_,r=>by
  rw [Al] at r;cases r with
  |@cons a b as bs h t=>
   obtain ⟨rs,c,q⟩:=kA (P:=P) (w:=w) t;obtain ⟨b1,b2⟩:=b;exact ⟨(p.1,b2)::rs,⟨tR h.1,rfl,c⟩,.cons ⟨rfl,h.2⟩ q⟩
def aHj (trs:List (TE×TE)):TE:=λσ H Q=>∀ p,H p=none->uL trs σ (upd H p (.dK [])) λps H2=>H2 p=some (.dK [])/\∃ kvs:List (Key×V),ps=kvs.map (λkv=>(kV kv.1,kv.2))/\kvs.length<=15/\Q (.ref p) (upd H2 p (.dK (jU [] kvs)))
def vV {keys:List (Option Expr)}(h:PPs X pos keys values trs)(hall:keys.all (·.isSome)=true)(hl:keys.length=values.length)(h0:keys≠[])(h15:keys.length<=15):PE X (.Dict keys values pos) (aHj trs):=by
 intro pins s σ H Q I q;have hn:=I.hok.fresh (Ak s.heap.objs.size);have I1:=I.laid (a:=s.heap.objs.size) (o:=.dK []) (h':=s.heap.push { cls:=.type "dict",data:=.dict #[] }) (t':=s.toks) (λ_ _ q=>Ac _ q) (Ak _) (rT s.heap I.big);refine wpAny_Dict_walk (knd:=bI X.prog X.w) hall hl h0 h15 (thn (h pins _ σ _ _ I1 (q _ hn)) λws s2 ⟨ps,H2,I2,rel,e,kvs,ep,lk,q2⟩=>?_);subst ep;obtain ⟨rs,c,rk⟩:=kA (P:=X.prog) (w:=X.w) rel;obtain ⟨z,hd,vs0,r0,dd⟩:=tX I2.hok e;cases r0;refine ⟨rs,c,dd,λh' dd' hs=>⟨.ref s.heap.objs.size,_,?_,rfl,q2⟩⟩;have hz:(jU [] kvs).length<=Ax:=by
  have h1:=gB kvs [];rw [List.length_nil] at h1;rw [sizeLine_eq];omega
 have he:∃ q,h'.get? s.heap.objs.size=some q:=let ⟨q,_,_,hq,_⟩:=dd';⟨q,hq⟩;exact pT I2 (by rw [e];exact DF) hs he (aB5 hz hd (rk.merge .nil) dd')
structure M1 (X:Cx)(o:Expr)(m:Str)(apos:Pos)(e:Expr)(cpos:Pos):Prop where
 base:Ej o m X.env (eval o X.env)=eval o X.env
 few:((backTo cpos (AU [e] X.env)).all (λx=>!x.1)&&(backToKw cpos (keywordEach [] X.env)).all (λx=>x.1.isSome)
  && decide (([e]:List Expr).length+([]:List Keyword).length+(if ([]:List Keyword).isEmpty then 0 else 1)<30))=true
 line:(apos.endLine==cpos.line)=true
 trees:backTo cpos (AU [e] X.env)=[(false,eval e X.env)]
structure M2 (X:Cx)(o:Expr)(m:Str)(apos:Pos)(e f:Expr)(cpos:Pos):Prop where
 base:Ej o m X.env (eval o X.env)=eval o X.env
 few:((backTo cpos (AU [e,f] X.env)).all (λx=>!x.1)&&(backToKw cpos (keywordEach [] X.env)).all (λx=>x.1.isSome)
  && decide (([e,f]:List Expr).length+([]:List Keyword).length+(if ([]:List Keyword).isEmpty then 0 else 1)<30))=true
 line:(apos.endLine==cpos.line)=true
 trees:backTo cpos (AU [e,f] X.env)=[(false,eval e X.env),(false,eval f X.env)]
def IsD (H:Hp)(a:Addr):Prop:=(∃ kvs,Rd H a (.dK kvs))\/∃ kvs,Rd H a (.dT kvs)
def aBx {σ:St}(I:Inv X pins σ H s)(d:IsD H a) :
  s.TypeIs (.ref a) "dict" /\ (∀ b,AD a=.ref b->∃ ob,s.heap.get? b=some ob/\ob.dict=none)/\(a==DO)=false:=by
 rcases d with ⟨kvs,e⟩|⟨kvs,e⟩
 ·obtain ⟨_,hd,vs,_,dd⟩:=xX I.hok e
  refine ⟨dd.typeIs,λb q=>?_,hd⟩;cases q;obtain ⟨ob,_,_,h1,h2,_⟩:=dd;exact ⟨ob,h1,h2.2.1⟩
 ·obtain ⟨_,hd,xs,_,dd⟩:=xT I.hok e
  refine ⟨dd.typeIs,λb q=>?_,hd⟩;cases q;obtain ⟨ob,_,_,h1,h2,_⟩:=dd;exact ⟨ob,h1,h2.2.1⟩
section
variable {X:Cx}{pins:List (Addr×Obj)}{σ:St}{H:Hp}{s:Shared}{a:Addr}{y d:V}{u r:Value}{o:Option V}{A:Around}{E:Value->Shared->Prop}
def aGz (hu:A.units+1<cLine)(I:Inv X pins σ H s)(g:DGet H a y o)(ry:RelV y u)(rd:RelV d r)(h:∀ w' s',Inv X pins σ H s'->RelV (o.getD d) w'->Q w' s') :
  wpAny (model X.prog X.w) A (call (.builtin "dict.get") [.ref a,u,r]) Q E s:=by
 rcases g with ⟨kvs,k,e,ey,l⟩|⟨kvs,k,b,e,ey,eb,l⟩
 ·subst ey
  obtain ⟨z,hd,vs,rel,dd⟩:=xX I.hok e;refine call_meetsIn DH dd.typeIs PySem.F.entry_dict_get (PySem.F.args_dict_get_3 _ _ _) (meets_dict_get_default (bI X.prog X.w) a (tR ry) hd r) ⟨_,dd.mapOf,h _ _ (I.tok _) ?_⟩;rw [l];exact (rel.val k).getD rd
 ·subst ey
  cases (show u=AD b from ry);obtain ⟨z,hd,xs,rel,dd⟩:=xT I.hok e;refine call_meetsIn DH dd.typeIs PySem.F.entry_dict_get (PySem.F.args_dict_get_3 _ _ _) (meetsH_dict_get_default (tupleKind (bI X.prog X.w)) a b hd r) ⟨tupleKind_room_in1 hu,k,xs,rN I.hok eb,dd,h _ _ (I.tok _) ?_⟩;rw [l];exact (rel.val k).getD rd
end
def tDGet1 (td ty:TE):TE:=λσ H Q=>td σ H λx H1=>∃ a,x=.ref a/\IsD H1 a/\ty σ H1 λy H2=>∃ o,DGet H2 a y o/\Q (o.getD .non) H2
def aE3 (td ty tx:TE):TE:=λσ H Q=>td σ H λx H1=>∃ a,x=.ref a/\IsD H1 a/\ty σ H1 λy H2=>tx σ H2 λz H3=>∃ o,DGet H3 a y o/\Q (o.getD z) H3
def tDPop1 (td ty:TE):TE:=λσ H Q=>td σ H λx H1=>∃ a,x=.ref a/\IsD H1 a/\ty σ H1 λy H2=>∃ kvs k v,H2 a=some (.dK kvs)/\y=kV k/\valV kvs k=some v/\Q v (upd H2 a (.dK (aEi kvs k)))
def tDPop2 (td ty tx:TE):TE:=λσ H Q=>td σ H λx H1=>∃ a,x=.ref a/\IsD H1 a/\ty σ H1 λy H2=>tx σ H2 λz H3=>∃ kvs k,H3 a=some (.dK kvs)/\y=kV k /\
 (∀ v,valV kvs k=some v->Q v (upd H3 a (.dK (aEi kvs k))))/\(valV kvs k=none->Q z H3)
section
variable {X:Cx}{o e f:Expr}{apos cpos:Pos}{td ty tx:TE}
def rA (hu:X.A.units+1<cLine)(ho:PE X o td)(he:PE X e ty)(hf:PE X f tx)(m:M2 X o "get" apos e f cpos):PE X (.Call (.Attribute o "get" apos) [e,f] [] cpos) (aE3 td ty tx):=by
 intro pins s σ H Q I h;refine wpAny_Call_method m.base m.few m.line FA DH PySem.F.type_dict_get (thn (ho pins s σ H _ I h) λu s1 ⟨x,H1,I1,rx,a,ex,d,q1⟩=>?_);subst ex;obtain rfl:u=AD a:=rx;obtain ⟨t1,t2,_⟩:=aBx I1 d;refine ⟨t1,t2,?_⟩;rw [m.trees];refine CV rfl (EV (Et (thn (he pins s1 σ H1 _ I1 q1) λiv s2 ⟨y,H2,I2,ry,q2⟩=>
  Et (thn (hf pins s2 σ H2 _ I2 q2) λfv s3 ⟨z,H3,I3,rz,ov,g,q3⟩=>Calls.spliced_nil ?_))))
 exact aGz hu I3 g ry rz λw' s4 I4 rw'=>⟨_,H3,I4,rw',q3⟩
end
section
variable {X:Cx}{pins:List (Addr×Obj)}{σ:St}{H:Hp}{s:Shared}{a:Addr}{kvs:List (Key×V)}{A:Around}{E:Value->Shared->Prop}
end
section
variable {X:Cx}{pins:List (Addr×Obj)}{σ:St}{H:Hp}{s:Shared}{a:Addr}{y:V}{u:Value}{A:Around}{E:Value->Shared->Prop}
end
def gG :∀ {us:List Value},Vals (ss.map V.str) us->EN us ss:=by
 induction ss with
 |nil=>intro us r;rw [List.map_nil] at r;cases r;exact .nil
 |cons n ns ih=>
  intro us r;rw [Al] at r;cases r with
  |cons r1 r2=>
   obtain ⟨t,rfl⟩:=r1;exact .cons _ _ (ih r2)
theorem eL:∀ {us:List Value} {ss:List Str},EN us ss->Vals (ss.map V.str) us
 |_,_,.nil=>.nil
 |_,_,.cons _ _ h=>.cons ⟨_,rfl⟩ (eL h)
def rL {w:World}{e:Nat}(hv:Vals xs its)(hz:xs.length<=Ax)(ho:h.get? a=some (seqObj "list" its.toArray e)):ObjOk P w H h a (.lst xs):=⟨hz,its,e,hv,ho⟩
section
variable {X:Cx}
def aFp (K:Aa):List V->Hp->VK->Prop:=λxs H Q=>∃ a,∃ ss:List Str,xs=[.ref a]/\SqL K H a (ss.map V.str)/\ss.length<64/\∀ (p:Addr) (ss':List Str),ss'.Perm ss->sortedS ss'=true->H p=none->Q (.ref p) (upd H p (.lst (ss'.map V.str)))
def kC:eU X (.builtin "sorted") (aFp X.K):=by
 intro pins s σ H xs us Q I r h;obtain ⟨a,ss,rfl,hq,h64,q⟩:=h;obtain ⟨u,rfl,rx⟩:=vals1 r;cases rx;obtain ⟨its,r',pl,hz⟩:=I.list hq;have hl:=r'.length;rw [Ag] at hl;refine sorted_strs (pl.isList) (gG r') (by omega) λout ss' a1 a2 a3=>?_;obtain ⟨e,he⟩:=sortedAll_at s.heap its out;refine ⟨.ref (s.heap.objs.size+1),_,I.laid (a:=s.heap.objs.size+1) (o:=.lst (ss'.map V.str)) (t':=s.toks) (λ_ _=>sortedAll_old) (Dm _) (rL (its:=out.toList) (e:=e) (eL a1) ?_ (by rw [EW];exact he)),rfl,q _ ss' a2 a3 (I.hok.fresh (Dm _))⟩;rw [Ag,a2.length_eq];exact bO (by omega)
def rSortI (K:Aa):List V->Hp->VK->Prop:=λxs H Q=>∃ a,∃ ns:List Int,xs=[.ref a]/\SqL K H a (ns.map V.int)/\ns.length<64/\∀ (p:Addr) (ns':List Int),ns'.Perm ns->ns'.Pairwise (·<=·)->H p=none->Q (.ref p) (upd H p (.lst (ns'.map V.int)))
theorem nI {w:World}:∀ {ss:List Str} {vs:List (Key×Value)} {acc:List Value},vs.map (·.1)=ss.map AN->acc.length=vs.length->(∀ (j:Nat) (v:Value),acc[j]?=some v->∃ k x,vs[j]?=some (k,x)/\(bI P w).is k v=true)->EN acc ss
 |[],[],[],_,_,_=>.nil
 |[],_::_,_,e,_,_=>by simp at e
 |_::_,[],_,e,_,_=>by simp at e
 |[],[],_::_,_,l,_=>by simp at l
 |_::_,_::_,[],_,l,_=>by simp at l
 |x::ss,(k,y)::vs,v::acc,e,l,h=>by
  simp only [Al,List.cons.injEq] at e;obtain ⟨e1,e2⟩:=e;obtain ⟨k',x',h1,h2⟩:=h 0 v rfl;simp at h1;obtain ⟨rfl,rfl⟩:=h1;subst e1;obtain ⟨t,rfl⟩:=Dx (x:=x) (v:=v) h2;exact .cons _ _ (nI e2 (by simpa using l) λj v hv=>h (j+1) v (by simpa using hv))
def pA {σ:St}(hh:A.handled=none)(I:Inv X pins σ H s)(hH:H a=some (.dK kvs))(h:∀ (h':Heap) (tk:Nat) (acc:List Value) (vs:List (Key×Value)),KV kvs vs->acc.length=vs.length->(∀ (j:Nat) (v:Value),acc[j]?=some v->∃ k x,vs[j]?=some (k,x)/\(bI X.prog X.w).is k v=true)->(∀ b o,s.heap.get? b=some o->h'.get? b=some o) ->
   wpAny (model X.prog X.w) A.in1 (call (.builtin "list.sort") [.ref h'.objs.size]) (λ_ s'=>Q (.ref h'.objs.size) s') E { s with heap:=h'.push (seqObj "list" acc.toArray 0),toks:=tk }) :
  wpAny (model X.prog X.w) A (call (.builtin "sorted") [.ref a]) Q E s:=by
 obtain ⟨z,lo,vs,rel,dd⟩:=tX I.hok hH;obtain ⟨ep,hat⟩:=dd.dictAt;have hlen:=rel.length;refine Fq kind_sorted plain_sorted entry_sorted (args_sorted1 _) ?_;unfold AH.«sorted»;refine Ab (m:=checkCount "sorted" 1 1 _) (Af ?_);refine Ab (PySem.W.kdu_collect (A:=A.in1) (PySem.W.kdl_dict (knd:=bI X.prog X.w) (kvs:=vs) (ep:=ep) lo) hh hat (by rw [<- hlen];exact z) λh' tk acc hk hacc=>?_);have hl:acc.toList.length=vs.length:=by rw [BE];exact hacc.1
 refine Ab (wpAny_newList ?_ (by rw [hl,<- hlen];exact z));have hg:=h h' tk acc.toList vs rel hl (λj v e=>hacc.2 j v (by rw [<- Bq];exact e)) hk;refine Ab (Bw (BW hg (λ_ s' x=>?_) λ_ _ e=>e));exact Af ⟨_,rfl,x⟩
def aC5:List V->Hp->VK->Prop:=λxs H Q=>∃ a kvs,∃ ss:List Str,xs=[.ref a]/\H a=some (.dK kvs)/\kvs.map (·.1)=ss.map AN/\kvs.length<64/\∀ (p:Addr) (ss':List Str),ss'.Perm ss->sortedS ss'=true->H p=none->Q (.ref p) (upd H p (.lst (ss'.map V.str)))
def pW (hc:X.calm=true):eU X (.builtin "sorted") aC5:=by
 intro pins s σ H xs us Q I r h;obtain ⟨a,kvs,ss,rfl,hH,hk,h64,q⟩:=h;obtain ⟨u,rfl,rx⟩:=vals1 r;cases rx;refine pA (I.ok.hd hc) I hH λh' tk acc vs rel hl hacc keep=>?_;have hS:=nI (ss:=ss) (by rw [<- rel.keys];exact hk) hl hacc;have hlen:=rel.length;have hssl:ss.length=kvs.length:=by
  have:=congrArg List.length hk;rw [Ag,Ag] at this;exact this.symm
 have hoL:(h'.push (seqObj "list" acc.toArray 0)).get? h'.objs.size=some (seqObj "list" acc.toArray 0):=Ah _ rfl;refine Bv slot_list_sort ⟨_,hoL,rfl⟩ entry_list_sort (list_sort_treeK strKind_oneLt hoL hS.keysOf (λv₁ v₂ rest e=>keyKind_strs (by rw [<- e];exact hS)) (by omega) λst' hp hs=>⟨_,rfl,?_⟩) (args_list_sort _);obtain ⟨ss',a1,a2,a3⟩:=sorted_out_str hS hp hs;obtain ⟨e,he⟩:∃ e,(sortedHeap (h'.push (seqObj "list" acc.toArray 0)) h'.objs.size acc ((arrOf st').map (·.2))).get? h'.objs.size=some (seqObj "list" ((arrOf st').map (·.2)) e):=sortedHeap_at hoL;have I1:=I.kept (t':=tk) keep;refine ⟨.ref h'.objs.size,_,I1.laid (a:=h'.objs.size) (o:=.lst (ss'.map V.str)) (t':=tk) (λb o hb'=>?_) (Ak _) (rL (its:=((arrOf st').map (·.2)).toList) (e:=e) (eL a1) ?_ (by rw [EW];exact he)),rfl,q _ ss' a2 a3 (I1.hok.fresh (Ak _))⟩
 ·have lt:=Aq hb'
  rw [sortedHeap_old (Aw lt) (by rw [BJ];exact Cj lt)];exact Ac _ hb'
 ·rw [Ag,a2.length_eq]
  exact bO (by omega)
def rSortDI:List V->Hp->VK->Prop:=λxs H Q=>∃ a kvs,∃ ns:List Int,xs=[.ref a]/\H a=some (.dK kvs)/\kvs.map (·.1)=ns.map Sum.inl/\kvs.length<64/\∀ (p:Addr) (ns':List Int),ns'.Perm ns->ns'.Pairwise (·<=·)->H p=none->Q (.ref p) (upd H p (.lst (ns'.map V.int)))
end
variable {X:Cx}
def tRev (K:Aa)(te:TE)(tk:TO):TE:=λσ H Q=>te σ H λx H1=>tk σ H1 λst H2=>st=some (-1)/\∃ a xs,x=.ref a/\SqL K H2 a xs/\∀ p,H2 p=none->Q (.ref p) (upd H2 p (.lst xs.reverse))
def tListRng (ta:TA):TE:=λσ H Q=>ta σ H λvs H1=>∃ i j:Int,vs=[.int i,.int j]/\(-(2^62)<=i/\i<2^62/\-(2^62)<=j/\j<2^62)/\(j-i).toNat<=1000/\∀ p,H1 p=none->Q (.ref p) (upd H1 p (.lst (rngV i (j-i).toNat)))
def tListVals (td:TE):TE:=λσ H Q=>td σ H λx H1=>∃ a kvs,x=.ref a/\H1 a=some (.dK kvs)/\∀ p,H1 p=none->Q (.ref p) (upd H1 p (.lst (kvs.map (·.2))))
def Itz2 (K:Aa)(a b:Addr):It:=
  ⟨λi H=>∃ xs ys,SqT K H a xs/\SqT K H b ys/\i<xs.length/\i<ys.length,
   λi H v H'=>∃ T,H T=none/\v=.ref T/\∀ xs ys,SqT K H a xs->SqT K H b ys->∃ x y,xs[i]?=some x/\ys[i]?=some y/\H'=upd H T (.tup [x,y]),
   λi H=>∃ xs ys,SqT K H a xs/\SqT K H b ys/\(i=xs.length\/(i<xs.length/\i=ys.length))⟩
def aCb (n a b:Nat)(i:Nat)(h:Heap):Prop:=IsZip h (n+4) (n+2) (n+3) .none/\IsPair h (n+2) (.ref n) (.ref (n+1))/\(∃ x y,IsPair h (n+3) x y)/\h.IsTupleIter n a i/\h.IsTupleIter (n+1) b i
def uH {P:Az}{w:World}{K:Aa}{es:List Expr}{k1:Nat}{p1:Pos}{n a b:Nat}(ha:a<n)(hb:b<n) :
  Turn P w K (.Tuple es k1 p1) (Itz2 K a b) [n+4,n+2,n+3,n,n+1] (n+4) (aCb n a b) where
 mem:=by simp
 obj:=λi h st c hc=>by
  obtain ⟨c1,c2,⟨x,y,c3⟩,⟨o4,d4,_,f4⟩,⟨o5,d5,_,f5⟩⟩:=st;have hc':c=n+4\/c=n+2\/c=n+3\/c=n\/c=n+1:=by simpa using hc
  rcases hc' with e|e|e|e|e
  ·subst e;exact ⟨_,c1,λv z=>by cases z⟩
  ·subst e;exact ⟨_,c2,λv z=>by cases z⟩
  ·subst e;exact ⟨_,c3,λv z=>by cases z⟩
  ·subst e;exact ⟨_,d4,λv z=>by rw [f4] at z;cases z⟩
  ·subst e;exact ⟨_,d5,λv z=>by rw [f5] at z;cases z⟩
 keep:=λi h h' st k=>by
  obtain ⟨c1,c2,⟨x,y,c3⟩,c4,c5⟩:=st;exact ⟨k _ (by simp) _ c1,k _ (by simp) _ c2,⟨x,y,k _ (by simp) _ c3⟩,c4.at λo e=>k _ (by simp) o e,c5.at λo e=>k _ (by simp) o e⟩
 item:=by
  intro X hP hw hK hc i pins s σ H E I hf st hg;subst hP hw hK;obtain ⟨xs,ys,hx,hy,l1,l2⟩:=hg;obtain ⟨its,r1,tx,_⟩:=I.tuple hx;obtain ⟨its',r2,ty,_⟩:=I.tuple hy;have e1:=r1.length;have e2:=r2.length;obtain ⟨c1,c2,⟨x0,y0,c3⟩,c4,c5⟩:=st;have hh:X.A.in1.handled=none:=I.ok.hd hc;refine aG6 (iG hh n a (by show (_:Nat)≠_;omega) its.toArray) (iG hh (n+1) b (by show (_:Nat)≠_;omega) its'.toArray) (aCa ha hb) c1 c2 c3 ⟨c4,tx⟩ ⟨c5,ty⟩ (by rw [Ai];omega) (by rw [Ai];omega) λx y T g t' px py hT cz cO s1 s2 cT kp=>⟨.ref T,rfl,?_⟩;subst hT;refine wpAny_letOwnedTupleGo_zip (s:={ s with heap:=g,toks:=t' }) cz λg' cz' sb=>?_;obtain ⟨vx,hvx⟩:∃ v,xs[i]?=some v:=⟨_,Ad l1⟩;obtain ⟨vy,hvy⟩:∃ v,ys[i]?=some v:=⟨_,Ad l2⟩;obtain ⟨ux,hux,rx⟩:=r1.get hvx;obtain ⟨uy,huy,ry⟩:=r2.get hvy;have ex:x=ux:=by
   have:its.toArray[i]?=some x:=px;rw [<- Bq,List.toList_toArray,hux] at this;exact (AK this).symm
  have ey:y=uy:=by
   have:its'.toArray[i]?=some y:=py;rw [<- Bq,List.toList_toArray,huy] at this;exact (AK this).symm
  subst ex ey;have hfr:H s.heap.objs.size=none:=I.hok.fresh (Ak _);have I0:Inv X pins σ (upd H s.heap.objs.size (.tup [vx,vy])) { s with heap:=s.heap.push { cls:=.type "tuple",data:=.seq #[x,y] },toks:=t' }:=
   I.laid (λc u q=>Ac _ q) (Ak _) ⟨⟨by show 2<=Ax;decide,_,Ah s.heap rfl,rfl⟩,[x,y],.cons rx (.cons ry .nil),⟨_,Ah s.heap rfl,rfl,_,rfl⟩⟩
  have lz:n+4<s.heap.objs.size:=Aq c1;have fpn:∀ c∈[n+4,n+2,n+3,n,n+1],c≠s.heap.objs.size:=λc hc'=>by
   have hc'':c=n+4\/c=n+2\/c=n+3\/c=n\/c=n+1:=by simpa using hc'
   rcases hc'' with e|e|e|e|e<;>(subst e;exact Aw (by omega))
  have hf0:∀ c∈[n+4,n+2,n+3,n,n+1],FpOk X pins (upd H s.heap.objs.size (.tup [vx,vy])) c:=λc hc'=>⟨by rw [aH (fpn c hc')];exact (hf c hc').1,(hf c hc').2⟩;have I1:Inv X pins σ (upd H s.heap.objs.size (.tup [vx,vy])) { s with heap:=g',toks:=t' }:=by
   refine Inv.turnedL (s:={ s with heap:=s.heap.push { cls:=.type "tuple",data:=.seq #[x,y] },toks:=t' }) (h':=g') (t':=t') (ch:=[n+4,n+2,n+3,n,n+1]) I0 (λc o hc' e=>?_) hf0;replace e:(s.heap.push { cls:=.type "tuple",data:=.seq #[x,y] }).get? c=some o:=e;have hn:∀ d∈[n+4,n+2,n+3,n,n+1],c≠d:=λd hd z=>hc' (by rw [z];exact hd);refine sb.extBut _ _ (hn _ (by simp)) ?_
   by_cases ec:c=s.heap.objs.size
   ·rw [ec] at e ⊢
    rw [Ah s.heap rfl] at e;cases e;exact cT
   ·rw [EG _ _ _ ec] at e
    exact kp c o (hn _ (by simp)) (hn _ (by simp)) (hn _ (by simp)) (hn _ (by simp)) e
  refine ⟨.ref s.heap.objs.size,_,I1,rfl,⟨_,hfr,rfl,λxs' ys' hx' hy'=>⟨vx,vy,by rw [I.tuple_inj hx' hx];exact hvx,by rw [I.tuple_inj hy' hy];exact hvy,rfl⟩⟩,?_,λc hc'=>(hf0 c hc').1⟩;have nz:∀ d:Nat,d<n+4->d≠n+4:=λd hd=>Aw hd;exact ⟨cz',sb.extBut _ _ (nz _ (by omega)) (kp _ _ (nz _ (by omega)) (by show (_:Nat)≠_;omega) (by show (_:Nat)≠_;omega) (by show (_:Nat)≠_;omega) c2),⟨x,y,sb.extBut _ _ (nz _ (by omega)) cO⟩,s1.1.extBut sb.extBut (nz _ (by omega)),s2.1.extBut sb.extBut (nz _ (by omega))⟩
 done:=by
  intro X hP hw hK hc i pins s σ H E I hf st hg;subst hP hw hK;obtain ⟨xs,ys,hx,hy,l⟩:=hg;obtain ⟨its,r1,tx,_⟩:=I.tuple hx;obtain ⟨its',r2,ty,_⟩:=I.tuple hy;have e1:=r1.length;have e2:=r2.length;obtain ⟨c1,c2,⟨x0,y0,c3⟩,c4,c5⟩:=st;have hh:X.A.in1.handled=none:=I.ok.hd hc;refine uF (iG hh n a (by show (_:Nat)≠_;omega) its.toArray) (iG hh (n+1) b (by show (_:Nat)≠_;omega) its'.toArray) (aCa ha hb) c1 c2 c3 ⟨c4,tx⟩ ⟨c5,ty⟩ (by rw [Ai,Ai];omega) λg t' kp=>⟨rfl,I.turnedL (ch:=[n+4,n+2,n+3,n,n+1]) (λc o hc' e=>?_) hf⟩;have hn:∀ d∈[n+4,n+2,n+3,n,n+1],c≠d:=λd hd z=>hc' (by rw [z];exact hd);exact kp c o (hn _ (by simp)) (hn _ (by simp)) (hn _ (by simp)) (hn _ (by simp)) e
 self:=λ_ _ _ _ _ st h=>wpAny_pyIter_zip st.1 h
abbrev yo1 (h:Heap)(a:Addr):Heap:=h.push { cls:=.type "tuple_iterator",data:=.fields #[.ref a,.int 0 0] }
abbrev yo2 (h:Heap)(a b:Addr):Heap:=(yo1 h a).push { cls:=.type "tuple_iterator",data:=.fields #[.ref b,.int 0 0] }
abbrev yo3 (h:Heap)(a b:Addr):Heap:=(yo2 h a b).push { cls:=.type "tuple",data:=.seq #[.ref h.objs.size,.ref (yo1 h a).objs.size] }
abbrev yo4 (h:Heap)(a b:Addr):Heap:=(yo3 h a b).push { cls:=.type "tuple",data:=.seq #[.none,.none] }
abbrev yo5 (h:Heap)(a b:Addr):Heap:=(yo4 h a b).push { cls:=.type "zip",data:=.fields #[.none,.bool false,.bool false,.ref (yo2 h a b).objs.size,.ref (yo3 h a b).objs.size] }
def yV (a b:Addr)(xs ys:Array Value):Meets (AH.«zip.__new__» ⟨[.type "zip",.ref a,.ref b],[]⟩) (λ_ R s=>s.heap.IsTuple a xs/\s.heap.IsTuple b ys/\R (.ok (.ret (.ref (yo4 s.heap a b).objs.size))) { s with heap:=yo5 s.heap a b }):=.of_wp λprog w A R s h=>by
 obtain ⟨hp,g,d,tk,os⟩:=s;obtain ⟨q1,q2,q⟩:=h;have hsub:=sub_zip;have u1:Heap.IsTuple (Shared.heap ⟨hp,g,d,tk,os⟩) a xs:=q1;have u2:Heap.IsTuple (Shared.heap ⟨hp.push { cls:=.type "tuple_iterator",data:=.fields #[.ref a,.int 0 0] },g,d,tk,os⟩) b ys:=Heap.IsTuple.push q2 _
 wp_walk using EJ u1,EJ u2
 exact ⟨_,rfl,q⟩
def uA {w:World}(q1:s.heap.IsTuple a xs)(q2:s.heap.IsTuple b ys)(q:∀ g,aCb s.heap.objs.size a b 0 g->(∀ c o,s.heap.get? c=some o->g.get? c=some o)->Q (.ref (s.heap.objs.size+4)) { s with heap:=g }):wpAny (model prog w) A (call (.type "zip") [.ref a,.ref b]) Q E s:=by
 refine callType_new F.called_zip (by decide) (F.typeCall_zip_2 _ _) (F.newCall_zip_2 _ _) (λobj=>F.args_object_init_3 obj _ _) F.entry_zip_new (yV a b xs ys) ⟨q1,q2,?_⟩;have z1:(yo1 s.heap a).objs.size=s.heap.objs.size+1:=BJ ..;have z2:(yo2 s.heap a b).objs.size=s.heap.objs.size+2:=by rw [BJ,z1]
 have z3:(yo3 s.heap a b).objs.size=s.heap.objs.size+3:=by rw [BJ,z2]
 have z4:(yo4 s.heap a b).objs.size=s.heap.objs.size+4:=by rw [BJ,z3]
 have o5:(yo5 s.heap a b).get? (yo4 s.heap a b).objs.size=some _:=Ah _ rfl;have o4:(yo5 s.heap a b).get? (yo3 s.heap a b).objs.size=some _:=Ac _ (Ah _ rfl);have o3:(yo5 s.heap a b).get? (yo2 s.heap a b).objs.size=some _:=Ac _ (Ac _ (Ah _ rfl));have o2:(yo5 s.heap a b).get? (yo1 s.heap a).objs.size=some _:=Ac _ (Ac _ (Ac _ (Ah _ rfl)));have o1:(yo5 s.heap a b).get? s.heap.objs.size=some _:=Ac _ (Ac _ (Ac _ (Ac _ (Ah _ rfl))));rw [z2,z3,z4] at o5;rw [z1,z2] at o3;rw [z3] at o4;rw [z1] at o2;show _/\_;rw [z4];exact ⟨⟨_,o5,rfl⟩,q _ ⟨o5,o3,⟨_,_,o4⟩,⟨_,o1,rfl,rfl⟩,⟨_,o2,rfl,rfl⟩⟩ λc o x=>Ac _ (Ac _ (Ac _ (Ac _ (Ac _ x))))⟩
def aIa (K:Aa)(ta:TA):TI:=λσ H R=>ta σ H λvs H1=>∃ a b,vs=[.ref a,.ref b]/\(∃ xs,SqT K H1 a xs)/\(∃ ys,SqT K H1 b ys)/\R (Itz2 K a b) H1
def aDc {k1:Nat}{p pos:Pos}(hg:Gl X "zip")(hm:X.mg "zip" = none)(ha:PA X [e1,e2] ta)(hs:AU [e1,e2] X.env=[(false,eval e1 X.env),(false,eval e2 X.env)]:=by rfl)(hs2:AU [e2] X.env=[(false,eval e2 X.env)]:=by rfl) :
  PI X (.Tuple es k1 p1) (.Call (.Name "zip" p) [e1,e2] [] pos) (aIa X.K ta):=by
 intro pins s σ H R I h;refine Call_ (jA I hg hm aG0 (Dy (thn (ha pos pins s σ H _ I h) λus s1 ⟨vs,H1,I1,r1,q1⟩=>?_) (by rw [hs,hs2]) (by rw [hs2];rfl)));obtain ⟨a,b,rfl,⟨xs,hx⟩,⟨ys,hy⟩,q⟩:=q1;cases r1 with
 |cons r rr=>
  cases rr with
  |cons r' rr=>
   cases rr;cases r;cases r';obtain ⟨its,_,tx,_⟩:=I1.tuple hx;obtain ⟨its',_,ty,_⟩:=I1.tuple hy;have la:a<s1.heap.objs.size:=by obtain ⟨o,e,_⟩:=tx;exact Aq e
   have lb:b<s1.heap.objs.size:=by obtain ⟨o,e,_⟩:=ty;exact Aq e
   refine uA tx (ty) λg st kp=>wpAny_pyIter_zip st.1 ?_;have I2:Inv X pins σ H1 { s1 with heap:=g }:=I1.kept (t':=s1.toks) kp;refine ⟨s1.heap.objs.size+4,_,_,_,H1,rfl,I2,uH la lb,st,λc hc=>?_,q⟩;refine I1.fpOk ?_ (I1.hok.fresh ?_)
   all_goals
    have hc':c=s1.heap.objs.size+4\/c=s1.heap.objs.size+2\/c=s1.heap.objs.size+3\/c=s1.heap.objs.size\/c=s1.heap.objs.size+1:=by simpa using hc
    rcases hc' with e|e|e|e|e<;>(subst e;omega)
variable {X:Cx}
def rListD:List V->Hp->VK->Prop:=λxs H Q=>∃ a kvs,∃ ss:List Str,xs=[.ref a]/\H a=some (.dK kvs)/\kvs.map (·.1)=ss.map AN/\∀ p,H p=none->Q (.ref p) (upd H p (.lst (ss.map V.str)))
def tListRng3 (ta:TA):TE:=λσ H Q=>ta σ H λvs H1=>∃ i j c:Int,vs=[.int i,.int j,.int c]/\(-(2^20)<=i/\i<2^20/\-(2^20)<=j/\j<2^20/\1<=c/\c<2^20)/\(j-i)/c<=900 /\
 ∀ p (ms:List Int),(∀ x∈ms,i<=x/\x<j)->(ms.length:Int)<=max 0 ((j-i-1)/c+1)->H1 p=none->Q (.ref p) (upd H1 p (.lst (ms.map V.int)))
variable {X:Cx}
def Inv.freeze {σ:St}(I:Inv X pins σ H s)(hH:H d=some (.dK kvs))(ho:s.heap.get? d=some ob) :
  Inv X pins σ (upd H d (.frz ob (.dK kvs))) s:=by
 have nd:∀ b u,H b=some u->u≠.dK kvs->b≠d:=λb u e n z=>by
  rw [z,hH] at e;exact n (AK e).symm
 refine I.step (g':=s.gens) (d':=s.drawn) (t':=s.toks) (h':=s.heap) (ch:=[]) (λ_ z=>nomatch z) (λb o _ _ _ e _=>e) (λb o _ _ _ e _=>⟨o.slots,e⟩) (λb o _ e n=>?_) (λb o _ e=>⟨o,e⟩) (λb xs e=>?_) (λb o u e=>?_) (λb ps e=>⟨#[],?_⟩) (λm hm=>hm) (λb u e=>?_) I.bare
 ·rw [aH (λz=>by rw [z,hH] at n;cases n)]
  exact n
 ·rw [aH (nd b _ e (by intro z;cases z))]
  exact e
 ·rw [aH (nd b _ e (by intro z;cases z))]
  exact e
 ·rw [aH (nd b _ e (by intro z;cases z)),e]
  simp
 ·have st:∀ {a:Addr} {u:HO},ObjOk X.prog X.w H s.heap a u->ObjOk X.prog X.w (upd H d (.frz ob (.dK kvs))) s.heap a u:=λx=>
   x.stay (λc v _ q=>q) (λc q=>by rw [aH (nd c _ q (by intro z;cases z))];exact q) λc xs q=>by rw [aH (nd c _ q (by intro z;cases z))];exact q
  by_cases e':b=d
  ·subst e'
   rw [aB] at e;cases e;exact ⟨ho,st (I.hok b _ hH)⟩
  ·rw [aH e'] at e
   exact st (I.hok b u e)
def Itd (d:Addr)(ob:Obj)(kvs:List (Key×V)):It:=
 ⟨λi H=>H d=some (.frz ob (.dK kvs))/\i<kvs.length,λi H v H'=>H'=H/\∃ kv,kvs[i]?=some kv/\v=kV kv.1,λi H=>H d=some (.frz ob (.dK kvs))/\kvs.length<=i⟩
def aEc {w:World}{k:Key}(h:(bI P w).is k v=true):RelV (kV k) v:=by
 cases k with
 |inl n=>
  obtain ⟨t,rfl⟩:=Value.isInt_shape (k:=n) (v:=v) h;exact ⟨t,rfl⟩
 |inr x=>
  obtain ⟨t,rfl⟩:=Dx (x:=x) (v:=v) h;exact ⟨t,rfl⟩
def uJ {P:Az}{w:World}{K:Aa}{tg:Expr}(d it:Addr)(ob:Obj)(kvs:List (Key×V))(vs:List (Key×Value))(ep:Nat)(rel:KV kvs vs)(hob:∀ h:Heap,h.get? d=some ob->h.DictAt (bI P w) d vs ep) :
  Turn P w K tg (Itd d ob kvs) [it] it (λi h=>h.IsKeyIter it d i vs.length ep) where
 mem:=by simp
 obj:=λi h st b hb=>by
  have e:b=it:=by simpa using hb
  subst e;obtain ⟨o,e,c,d⟩:=st;exact ⟨o,e,λv z=>by rw [d] at z;cases z⟩
 keep:=λi h h' st k=>st.at λo e=>k it (by simp) o e
 item:=by
  intro X hP hw hK hc i pins s σ H E I hf st hg;subst hP hw hK;obtain ⟨hfz,hi⟩:=hg;have ho:s.heap.get? d=some ob:=(show ObjOk X.prog X.w H s.heap d (.frz ob (.dK kvs)) from I.hok d _ hfz).1;have hat:=hob _ ho;have hl:=rel.length;obtain ⟨⟨k,x⟩,hx⟩:∃ p,vs[i]?=some p:=⟨_,Ad (by omega)⟩;obtain ⟨f0,f1,f2,f3,f4,f5⟩:=hf it (by simp);refine wpAny_pyNext_dict_item st hat hx λkey h' hkey st' sb=>?_;have I1:Inv X pins σ H { s with heap:=h' }:=I.turned (t':=s.toks) (λb o hb e=>(sb.2 b hb).trans e) f0 f1 f3 f4 f5;obtain ⟨kv,hkv⟩:∃ kv,kvs[i]?=some kv:=⟨_,Ad hi⟩;have ek:kv.1=k:=by
   have:=congrArg (λl=>l[i]?) rel.keys;simp only [As,hkv,hx,Dq] at this;exact AK this
  obtain ⟨o,e,c,d'⟩:=id st';exact ⟨key,rfl,xK (s:={ s with heap:=h' }) e c d' (by decide) ⟨kV k,H,I1,aEc hkey,⟨rfl,kv,hkv,by rw [ek]⟩,st',λb hb=>(hf b hb).1⟩⟩
 done:=by
  intro X hP hw hK hc i pins s σ H E I hf st hg;subst hP hw hK;obtain ⟨hfz,hi⟩:=hg;have ho:s.heap.get? d=some ob:=(show ObjOk X.prog X.w H s.heap d (.frz ob (.dK kvs)) from I.hok d _ hfz).1;have hat:=hob _ ho;have hl:=rel.length;obtain ⟨f0,f1,f2,f3,f4,f5⟩:=hf it (by simp);exact wpAny_pyNext_dict_end (I.ok.hd hc) st hat (Bu (by omega)) λh' eb=>⟨rfl,I.turned (t':=s.toks) (λb o hb e=>eb b o hb e) f0 f1 f3 f4 f5⟩
 self:=λ_ _ _ _ _ st h=>wpAny_pyIter_keyiter st h
def aIf (tl:TE):TI:=λσ H R=>tl σ H λx H1=>∃ d kvs,x=.ref d/\H1 d=some (.dK kvs)/\∀ ob,R (Itd d ob kvs) (upd H1 d (.frz ob (.dK kvs)))
def vR {tg l:Expr}{tl:TE}(hl:PE X l tl):PI X tg l (aIf tl):=by
 intro pins s σ H R I h;refine thn (hl pins s σ H _ I h) λv s1 ⟨x,H1,I1,r1,q1⟩=>?_;obtain ⟨d,kvs,e,hH,q⟩:=q1;subst e;cases r1;obtain ⟨z,lo,vs,rel,dd⟩:=tX I1.hok hH;obtain ⟨ep,hat⟩:=dd.dictAt;obtain ⟨ob,es,ho,rest⟩:=id hat;refine wpAny_pyIter_dict lo hat ?_;have I2:=I1.freeze hH ho;refine ⟨s1.heap.objs.size,[s1.heap.objs.size],_,_,_,rfl,I2.kept (t':=s1.toks) λb o e=>Ac _ e,uJ d _ ob kvs vs ep rel (λh e=>⟨ob,es,e,rest⟩),⟨_,Ah _ rfl,rfl,rfl⟩,λb hb=>?_,q ob⟩;have e:b=s1.heap.objs.size:=by simpa using hb
 subst e;exact I2.fpOk (Ak _) (I2.hok.fresh (Ak _))
def aA0 {d:Addr}{ob:Obj}{kvs:List (Key×V)}{g:TG}{tb:TS}{D:Ends}{σ:St}{H:Hp}(Pv:Nat->St->Hp->Prop)(h0:Pv 0 σ H)(hl:∀ i σ H,i<=kvs.length->Pv i σ H->H d=some (.frz ob (.dK kvs)))
  (hs:∀ i kv σ H,kvs[i]?=some kv->Pv i σ H->g (kV kv.1) σ H λσ2 H2=>tb { D with nx:=Pv (i+1),ct:=Pv (i+1),bk:=D.nx } σ2 H2) (hd:∀ σ H,Pv kvs.length σ H->D.nx σ H) :
  ∃ W:Nat->Nat->St->Hp->Prop,(∃ m,W 0 m σ H)/\∀ i m σ H,W i m σ H ->
   ((Itd d ob kvs).stop i H/\D.nx σ H)\/((Itd d ob kvs).go i H/\∃ N:St->Hp->Prop,(∀ σ' H',N σ' H'->∃ m',m'<m/\W (i+1) m' σ' H')/\∀ v H',(Itd d ob kvs).yld i H v H'->g v σ H' λσ2 H2=>tb { D with nx:=N,ct:=N,bk:=D.nx } σ2 H2):=by
 refine ⟨λi m σ H=>m=kvs.length-i/\i<=kvs.length/\Pv i σ H,⟨kvs.length,by simp,BK _,h0⟩,?_⟩
 rintro i m σ H ⟨rfl,hi,p⟩
 have q:=hl i σ H hi p
 by_cases hlt:i<kvs.length
 ·refine .inr ⟨⟨q,hlt⟩,Pv (i+1),λσ' H' p'=>⟨kvs.length-(i+1),by omega,rfl,hlt,p'⟩,λv H' y=>?_⟩
  obtain ⟨rfl,kv,hkv,rfl⟩:=y;exact hs i kv σ H' hkv p
 ·have e:i=kvs.length:=by omega
  subst e;exact .inl ⟨⟨q,Ak _⟩,hd σ H p⟩
end L2
namespace L2
open PySem PySem.Spec PyProof.Rows PySem.W
def lZ (CX:CXT)(X:Cx)(σ:St)(E:XK):Prop:=∀ (pins:List (Addr×Obj)) (H:Hp) (s:Shared) (e:Value) (s':Shared),Inv X pins σ H s->CX X.stack H s E e s'->X.xe e s'
section
variable {X:Cx}
def aC3 {k:Nat}{σ:St}(F:FnOk X.prog X.w X.K X.mg X.base CX k f fd ps sp)(hr:Room k X.A)(hb:Binds X.K fd ps [])(hx:lZ CX X σ E)(I:Inv X pins σ H s)(r:Vals vs us)(h:sp (vs++[]) H Q E):wpAny (model X.prog X.w) X.A (call (.ref f) us) (EP X pins σ Q) X.xe s:=by
 have r2:Vals (vs++[]) (us++[]):=r.append .nil;have hl:(us++[]).length=ps.length:=by rw [<- r2.length];exact F.len _ _ _ _ h
 refine ED (Ck (F.run X.A X.stack s H ⟨us,[]⟩ (us++[]) (vs++[]) Q E hr I.env0 (hb s us I.kIn hl) r2 h) λr s' hq=>?_);cases r with
 |error e=>exact hx pins H s e s' I hq
 |ok fl=>
  cases fl with
  |ret u=>exact I.after hq
  |next=>exact CH hq
  |brk=>exact CH hq
  |cont=>exact CH hq
def aDh {k:Nat}{p pos:Pos}{σ:St}(C:Cal X.prog X.w X.K X.mg X.base CX k x ps sp)(hr:Room k X.A)(hg:Gl X x)(hx:lZ CX X σ E)(ha:PA X (e::es) t)(hdb:(x==("__debug__":Str))=false:=by decide)(he:AU (e::es) X.env=(false,eval e X.env)::AU es X.env:=by rfl)(hpl:(backTo pos (AU es X.env)).any (·.1)=false:=by rfl) :
  PE X (.Call (.Name x p) (e::es) [] pos) (λσ' H Q=>σ'=σ/\aCm sp [] E t σ' H Q):=by
 obtain ⟨f,fd,hm,hk,hb,F⟩:=C.ex;intro pins s σ' H Q I h;obtain ⟨es',h⟩:=h;subst es';refine Dr (fA I hg hm ?_ hdb);refine En (h₀:=X.base) I.ok.mod.kin hk (thn (ha pos pins s σ' H _ I h) λus s1 ⟨vs,H1,I1,r,q⟩=>⟨I1.kIn,?_⟩) he hpl;exact aC3 F hr hb hx I1 r q
def aG9 (K:Frag)(i j:Nat)(Dc:Addr)(tb:St->XK->TS):TS:=λD σ H=>tb σ (λcls dd H'=>∃ C,cls=.ref C/\ExK K C/\subIn K (.ref C) (.ref Dc)=some true/\∀ a,H' a=none->D.nx (((σ.set i (some (.ref a))).set j (some (.ref a))).set i none) (upd H' a (excD a C dd))) D σ H
def aC8 {i j:Nat}(O:OwnF X)(hg:Gl X d)(hm:X.mg d=some (.ref Dc))(F:CtK X.K Dc)(hN:X.N.Nodup)(hi:X.N[i]?=some n)(hki:X.env.scope.names.lookup n=some .local)(hj:X.N[j]?=some y)(hkj:X.env.scope.names.lookup y=some .local)(hij:i≠j)(hb:∀ (pins:List (Addr×Obj)) (E':Value->Shared->Prop) (σ:St) (Ec:XK),lZ (CXg X.prog X.w) (X.trying pins E') σ Ec->PSs (X.trying pins E') body (tb σ Ec))(hdb:(d==("__debug__":Str))=false:=by decide)(hnb:(n==("__debug__":Str))=false:=by decide)(hnc:(n==("__classdict__":Str))=false:=by decide)(hs:swapsWith (.Name n np) (some (.Name y py)) apos.line X.env=pure false:=by rfl) :
  PS X (.Try body [.ExceptHandler (some (.Name d dp)) (some n) [.Assign [.Name y py] (.Name n np) apos] hpos] [] [] pos) (aG9 X.K i j Dc tb):=by
 intro pins s σ H D I h;refine wpAny_Try_except (BW (hb pins _ σ _ ?hp [] s σ H D (I.trying _) h) (λf s1 z=>?_) λ_ _ z=>z)
 case hp=>
  intro pl Hc sc e s' I0 hx;have I1:Inv X pins σ Hc sc:=I0.tried;obtain ⟨ea,C,dd,H',rfl,Fl,C',e1,FK,hsub,hk⟩:=hx;cases e1;obtain ⟨B,hok,fl,bk,th⟩:=Fl.fl;have hfr:X.A.frames=some (X.env::X.outer):=by rw [<- O.stk];exact I1.ok.frames
  have fl':FlyD B (X.env::X.outer) ea (.ref C) dd .none s'.heap:=by rw [<- O.stk];exact fl
  have hBe:B.get? ea=none:=fl.no;refine aF7 hfr O.fr fl' λh4 held4 up4=>?_;refine lP held4 λh5 fl5 up5=>?_;have mk:∀ h6:Heap,B.StaysIn h6->s'.heap.UpToSlots h6->Inv X pins σ H' { s' with heap:=h6 }:=λh6 st up=>
   I1.call' (s':={ s' with heap:=h6 }) (ch:=[]) Fl.os (aCg I1 Fl.un bk th st up) (hok.kept st) Fl.bare (by simp)
  have I5:=mk h5 fl5.st (up4.trans up5);obtain ⟨ob,_,hob,hobc,_,_⟩:=fl5.at;refine wpAny_handleBy_cons (codeAny_handlers_test (fA (I5.within (.ref ea)) hg hm ?_ hdb)) (by intro q;cases q);refine pR I5.kIn ⟨hob,hobc⟩ F hsub ?_;refine codeAny_handlers_suite_as ?_;refine lP fl5 λh6 fl6 up6=>?_;have I6:=mk h6 fl6.st ((up4.trans up5).trans up6);obtain ⟨ob6,ws,hob6,hobc6,hobdd,hobd6⟩:=fl6.at;have nfr:ea∉frs X.stack:=λz=>by
   obtain ⟨_,o',ho',hnf⟩:=I6.stack.mem z;rw [hob6] at ho';cases ho';exact hnf ws hobd6
  have nsc:sc.heap.get? ea=none:=by
   cases q:sc.heap.get? ea with
   |none=>rfl
   |some o=>
    obtain ⟨o',e'⟩:=th ea o q nfr;rw [hBe] at e';cases e'
  have nH:H' ea=none:=by
   cases q:H' ea with
   |none=>rfl
   |some o=>
    exfalso;have lt:=hok.lt q;obtain ⟨o',e'⟩:∃ o',B.get? ea=some o':=by
     exact aAl (hok ea o q)
    rw [hBe] at e';cases e'
  have n0:X.s₀.heap.get? ea=none:=by
   cases q:X.s₀.heap.get? ea with
   |none=>rfl
   |some o=>
    obtain ⟨o',e'⟩:=I1.base.there ea o q (by rw [O.ex];simp);rw [nsc] at e';cases e'
  have nL:ea≠X.env.locals:=λz=>by
   obtain ⟨m,⟨oL,_,_,hoL,_⟩,_⟩:=I1.loc;rw [<- z,nsc] at hoL;cases hoL
  have I7:Inv X pins σ (upd H' ea (excD ea C dd)) { s' with heap:=h6 }:=I6.track nH n0 nL
   (λx c q z=>by obtain ⟨v,o,ho,_⟩:=I1.cell x c q;rw [z,nsc] at ho;cases ho)
   (λp q z=>by have:=(I1.pin p q).1;rw [z,nsc] at this;cases this)
   ⟨⟨ob6,⟨hob6,hobc6⟩,hobdd,_,hobd6⟩,⟨ob6,hob6⟩,λh1 h2 ⟨o,ho,hd⟩ k=>⟨o,⟨k o ho.at_,ho.cls⟩,hd⟩⟩
  have J:=I7.within (.ref ea);refine fN (X:=X.within (.ref ea)) J hN hi (.inl hki) (show RelV (.ref ea) (.ref ea) from rfl) (λs8 I8=>?_) (.inr hki);have hiσ:i<σ.length:=by rw [I1.len];exact (Ae.mp hi).1
  have z:=aG (aM (X:=X.within (.ref ea)) (pos:=apos) (pos':=py) (i:=j) hN hj (.inl hkj) (vS (X:=X.within (.ref ea)) (pos:=np) hi (.inl hki) hnb hnc) hs (.inr hkj)) pins s8 (σ.set i (some (.ref ea))) (upd H' ea (excD ea C dd))
   { nx:=λσ9 H9=>σ9=(σ.set i (some (.ref ea))).set j (some (.ref ea))/\H9=upd H' ea (excD ea C dd),rt:=λ_ _=>False } I8 ⟨_,Ca hiσ,rfl,rfl⟩
  refine BW z (λf s9 hf=>?_) (λ_ _ q=>q.elim);cases f with
  |next=>
   obtain ⟨σ9,H9,I9,rfl,rfl⟩:=hf;refine wW (I9.without I1.ok) hN hi hki λs10 I10=>?_;exact ⟨_,_,I10,hk ea nH⟩
  |brk=>obtain ⟨_,_,_,q⟩:=hf;exact q.elim
  |cont=>obtain ⟨_,_,_,q⟩:=hf;exact q.elim
  |ret u=>obtain ⟨_,_,_,_,_,q⟩:=hf;exact q.elim
 ·have z':=SP.tried z
  cases f with
  |next=>exact Fw z'
  |brk=>exact z'
  |cont=>exact z'
  |ret u=>exact z'
end
end L2
namespace L2
open PySem PySem.Spec PyProof.Rows
variable {X:Cx}
def rSortDSR:List V->Hp->VK->Prop:=λxs H Q=>∃ a kvs,∃ ss:List Str,xs=[.ref a]/\Rd H a (.dK kvs)/\kvs.map (·.1)=ss.map AN/\kvs.length<64/\∀ (p:Addr) (ss':List Str),ss'.Perm ss->sortedS ss'=true->H p=none->Q (.ref p) (upd H p (.lst (ss'.map V.str)))
def tListValsR (td:TE):TE:=λσ H Q=>td σ H λx H1=>∃ a kvs,x=.ref a/\Rd H1 a (.dK kvs)/\∀ p,H1 p=none->Q (.ref p) (upd H1 p (.lst (kvs.map (·.2))))
def Fz (H H':Hp):Prop:=∀ b o,H b=some o->H' b=some o\/∃ ob kvs,o=.dK kvs/\H' b=some (.frz ob (.dK kvs))
def Hld (d:Addr)(ob:Obj)(kvs:List (Key×V))(H H':Hp):Prop:=H' d=some (.frz ob (.dK kvs))/\(∀ b,b≠d->H' b=H b)/\(H d=some (.dK kvs)\/H d=some (.frz ob (.dK kvs)))
section
variable {X:Cx}
def iDictR (tl:TE):TI:=λσ H R=>tl σ H λx H1=>∃ d kvs,x=.ref d/\Rd H1 d (.dK kvs)/\∀ ob H2,Hld d ob kvs H1 H2->R (Itd d ob kvs) H2
def rDictD:List V->Hp->VK->Prop:=λxs H Q=>∃ a kvs,xs=[.ref a]/\Rd H a (.dK kvs)/\∀ p,H p=none->Q (.ref p) (upd H p (.dK kvs))
def DDeq (K:Aa)(H:Hp)(ka kb:List (Key×V)):Prop:=ka.length=kb.length/\∀ kv∈ka,∃ v' d,valV kb kv.1=some v'/\Dv K H 30 kv.2 d/\Dv K H 30 v' d
def rNeDD (K:Aa):R2:=λx y H Q=>∃ a b ka kb,x=.ref a/\y=.ref b/\Rd H a (.dK ka)/\Rd H b (.dK kb)/\DDeq K H ka kb/\Q (.bl false) H
def rEqDD (K:Aa):R2:=λx y H Q=>∃ a b ka kb,x=.ref a/\y=.ref b/\Rd H a (.dK ka)/\Rd H b (.dK kb)/\DDeq K H ka kb/\Q (.bl true) H
end
def EqIn (P:Az)(w:World)(A:Around)(s:Shared)(y x:Value):Prop:=∀ (E:Value->Shared->Prop) (Q:Bool->Shared->Prop),Q true s->wpAny (model P w) A (eqBool y x) Q E s
section
open AutoSeq1 MeetsSeq MeetsSeq2 MeetsSeq3 SeqAt
variable {P:Az}{w:World}
end
section
variable {X:Cx}
def rNeLD (K:Aa):R2:=λx y H Q=>∃ a b xs ys,x=.ref a/\y=.ref b/\SqL K H a xs/\SqL K H b ys/\xs.length=ys.length /\
 (∀ (j:Nat) x y,xs[j]?=some x->ys[j]?=some y->∃ da db ka kb,x=.ref da/\y=.ref db/\Rd H da (.dK ka)/\Rd H db (.dK kb)/\DDeq K H ka kb)/\Q (.bl false) H
end
end L2
namespace HT
open PySem PyProof.Rows
def lexLtS:List Str->List Str->Bool
 |[],[]=>false
 |[],_::_=>true
 |_::_,[]=>false
 |x::xs,y::ys=>if x=y then lexLtS xs ys else decide (x.cps.toList<y.cps.toList)
theorem lexLtS_cons (x y:Str)(xs ys:List Str):lexLtS (x::xs) (y::ys)=if x=y then lexLtS xs ys else decide (x.cps.toList<y.cps.toList):=rfl
section
open PySem.SeqAt
open PySem.AutoSeq1 (wpAny_loadPart')
open PySem.MeetsSeq PySem.MeetsSeq2 PySem.MeetsSeq3
end
section
variable {prog:Az}{w:World}{A:Around}{E:Value->Shared->Prop}{s:Shared}
end
end HT
namespace L2
open PySem PySem.Spec PyProof.Rows
section
variable {X:Cx}
def rLtTS (K:Aa):R2:=λx y H Q=>∃ a b ns ms,x=.ref a/\y=.ref b/\SqT K H a (ns.map V.str)/\SqT K H b (ms.map V.str)/\Q (.bl (HT.lexLtS ns ms)) H
end
end L2
namespace HT
open PySem PySem.Spec PyProof.Rows
section
variable {prog:Az}{w:World}{A:Around}{E:Value->Shared->Prop}{s:Shared}
def cat_tup0 {t b:Addr}{ws:List Value}{Q:Value->Shared->Prop}(ht:IsTup s.heap t #[])(hb:IsTup s.heap b ws.toArray)(h:Q (.ref b) s):wpAny (model prog w) A (Ei .Add (.ref t) (.ref b)) Q E s:=by
 obtain ⟨⟨cls,dd,data,sl⟩,ho,hc,n,hd⟩:=id ht;obtain ⟨⟨cls2,dd2,data2,sl2⟩,ho2,hc2,n2,hd2⟩:=id hb;simp only at hc hd hc2 hd2;subst hc hd hc2 hd2;exact concat_meets ⟨_,ho,rfl⟩ ⟨_,ho2,rfl⟩ noFill_tuple_add seq_tuple_add PySem.F.slot_tuple_add FB (Fp _ _)
   (tuple_addW0 t b #[] ws.toArray n n2 dd dd2 sl sl2 (by simp)) ⟨ho,ho2,h⟩
end
end HT
namespace L2
open PySem PySem.Spec PyProof.Rows
section
variable {X:Cx}
def aBm (K:Aa):R2:=λx y H Q=>∃ a b ys,x=.ref a/\y=.ref b/\SqT K H a []/\SqT K H b ys/\Q (.ref b) H
def zT:OpR X (Ei .Add) (aBm X.K):=by
 intro pins s σ H x y v u Q I rx ry h;obtain ⟨a,b,ys,rfl,rfl,ha,hb,q⟩:=h;cases rx;cases ry;obtain ⟨its,r1,p1,_⟩:=I.tuple ha;obtain ⟨its2,r2,p2,_⟩:=I.tuple hb;cases r1;exact HT.cat_tup0 p1 p2 ⟨.ref b,H,I,rfl,q⟩
def aBl (K:Aa):R2:=λx y H Q=>aBm K x y H Q\/aFs K x y H Q
def zR:OpR X (Ei .Add) (aBl X.K):=by
 intro pins s σ H x y v u Q I rx ry h
 rcases h with h|h
 ·exact zT pins s σ H x y v u Q I rx ry h
 ·exact aDo pins s σ H x y v u Q I rx ry h
def rRepT (K:Aa):R2:=λx y H Q=>∃ a k xs,x=.ref a/\y=.int k/\SqT K H a xs/\xs≠[]/\2<=k/\k<=1000/\xs.length<=1000/\∀ p,H p=none->Q (.ref p) (upd H p (.tup (CO k.toNat xs).flatten))
end
section
variable {D:Ends}{σ:L2.St}{H:Hp}
def cut3 (h:let u3:TS:=t3;let u2:TS:=tSeq t2 u3;tSeq t1 u2 D σ H):(tSeq t1 (tSeq t2 (t3))) D σ H:=h
def cut4 (h:let u4:TS:=t4;let u3:TS:=tSeq t3 u4;let u2:TS:=tSeq t2 u3;tSeq t1 u2 D σ H):(tSeq t1 (tSeq t2 (tSeq t3 (t4)))) D σ H:=h
def cut5 (h:let u5:TS:=t5;let u4:TS:=tSeq t4 u5;let u3:TS:=tSeq t3 u4;let u2:TS:=tSeq t2 u3;tSeq t1 u2 D σ H):(tSeq t1 (tSeq t2 (tSeq t3 (tSeq t4 (t5))))) D σ H:=h
def cut6 (h:let u6:TS:=t6;let u5:TS:=tSeq t5 u6;let u4:TS:=tSeq t4 u5;let u3:TS:=tSeq t3 u4;let u2:TS:=tSeq t2 u3;tSeq t1 u2 D σ H):(tSeq t1 (tSeq t2 (tSeq t3 (tSeq t4 (tSeq t5 (t6)))))) D σ H:=h
def cut7 (h:let u7:TS:=t7;let u6:TS:=tSeq t6 u7;let u5:TS:=tSeq t5 u6;let u4:TS:=tSeq t4 u5;let u3:TS:=tSeq t3 u4;let u2:TS:=tSeq t2 u3;tSeq t1 u2 D σ H):(tSeq t1 (tSeq t2 (tSeq t3 (tSeq t4 (tSeq t5 (tSeq t6 (t7))))))) D σ H:=h
def cut8 (h:let u8:TS:=t8;let u7:TS:=tSeq t7 u8;let u6:TS:=tSeq t6 u7;let u5:TS:=tSeq t5 u6;let u4:TS:=tSeq t4 u5;let u3:TS:=tSeq t3 u4;let u2:TS:=tSeq t2 u3;tSeq t1 u2 D σ H):(tSeq t1 (tSeq t2 (tSeq t3 (tSeq t4 (tSeq t5 (tSeq t6 (tSeq t7 (t8)))))))) D σ H:=h
def cut9 (h:let u9:TS:=t9;let u8:TS:=tSeq t8 u9;let u7:TS:=tSeq t7 u8;let u6:TS:=tSeq t6 u7;let u5:TS:=tSeq t5 u6;let u4:TS:=tSeq t4 u5;let u3:TS:=tSeq t3 u4;let u2:TS:=tSeq t2 u3;tSeq t1 u2 D σ H):(tSeq t1 (tSeq t2 (tSeq t3 (tSeq t4 (tSeq t5 (tSeq t6 (tSeq t7 (tSeq t8 (t9))))))))) D σ H:=h
def aIj (h:let u10:TS:=t10;let u9:TS:=tSeq t9 u10;let u8:TS:=tSeq t8 u9;let u7:TS:=tSeq t7 u8;let u6:TS:=tSeq t6 u7;let u5:TS:=tSeq t5 u6;let u4:TS:=tSeq t4 u5;let u3:TS:=tSeq t3 u4;let u2:TS:=tSeq t2 u3;tSeq t1 u2 D σ H):(tSeq t1 (tSeq t2 (tSeq t3 (tSeq t4 (tSeq t5 (tSeq t6 (tSeq t7 (tSeq t8 (tSeq t9 (t10)))))))))) D σ H:=h
end
end L2
namespace L2
open PySem PySem.Spec PyProof.Rows PySem.W
section
variable {X:Cx}
end
end L2
namespace TM
open PySem PySem.Spec PyProof.Rows PySem.W
def aFu {α:Type}[BEq α][LawfulBEq α](f:Nat->α):∀ (j:Nat) (l:List α),(∀ i,i<j->f i∈l)->(∀ i k,i<j->k<j->f i=f k->i=k)->j<=l.length:=by
 intro j
 induction j with
 |zero=>
  intro l _ _;exact BK _
 |succ j ih=>
  intro l hm hi;have h1:=hm j (Cn _);have:=ih (l.erase (f j)) (λi hij=>(List.mem_erase_of_ne (λe=>by
   have:=hi i j (by omega) (by omega) e;omega)).mpr (hm i (by omega))) (λi k a b e=>hi i k (by omega) (by omega) e)
  rw [List.length_erase_of_mem h1] at this;have:0<l.length:=List.length_pos_of_mem h1;omega
def rd (c j:Nat):Nat:=97+(c-97+j)%26
abbrev LET:Str:="abcdefghijklmnopqrstuvwxyz"
def sD {j:Nat}(h:j<26):(cps LET)[j]?=some (97+j):=by
 have all:∀ k:Fin 26,(cps LET)[k.val]?=some (97+k.val):=by decide +kernel
 exact all ⟨j,h⟩
end TM
namespace GM
structure Fr (M t b N:Int):Prop where
 am:Amt t b
 e:t*M=N*b
def Fr.of {M t b:Int}(am:Amt t b)(d:b∣M):Fr M t b (t*(M/b)):=⟨am,by rw [Bp,DD d]⟩
def Fr.zero {M:Int}:Fr M 0 1 0:=⟨aEn (by decide),by simp⟩
def Fr.plus {M t1 b1 N1 t2 b2 N2:Int}(h1:Fr M t1 b1 N1)(h2:Fr M t2 b2 N2):Fr M ((t1*b2+t2*b1)/G (t1*b2+t2*b1) (b1*b2)) (b1*b2/G (t1*b2+t2*b1) (b1*b2)) (N1+N2):=by
 have a1:=h1.am.b1;have a2:=h2.am.b1;have n1:=Bk h1.am.t0 (show 0<=b2 by omega);have n2:=Bk h2.am.t0 (show 0<=b1 by omega);have hb:1<=b1*b2:=by
  have:=ER a1 a2 (by decide) (by omega);omega
 refine ⟨gN (by omega) hb,?_⟩;have crs:=gA (t1*b2+t2*b1) (b1*b2);generalize (t1*b2+t2*b1)/G (t1*b2+t2*b1) (b1*b2)=x at *
 generalize b1*b2/G (t1*b2+t2*b1) (b1*b2)=y at *
 refine BF (show b1*b2≠0 by omega) ?_
 calc x*M*(b1*b2)=(x*(b1*b2))*M:=by rw [Bp,BZ M,<- Bp]
  _=((t1*b2+t2*b1)*y)*M:=by rw [crs]
  _=((t1*M)*b2+(t2*M)*b1)*y:=by
   rw [AJ,Int.add_mul,AJ t1,AJ t2]
  _=((N1*b1)*b2+(N2*b2)*b1)*y:=by rw [h1.e,h2.e]
  _=(N1+N2)*y*(b1*b2):=by
   rw [AJ (N1+N2),Int.add_mul N1,Bp N1,Bp N2,BZ b2 b1]
def Fr.uniq {M t b N t' b':Int}(hM:0<M)(h:Fr M t b N)(h':Fr M t' b' N):t=t'/\b=b':=by
 have c:t'*b=t*b':=by
  refine BF (show M≠0 by omega) ?_
  calc t'*b*M=(t'*M)*b:=by rw [AJ]
   _=(N*b')*b:=by rw [h'.e]
   _=(N*b)*b':=by rw [AJ]
   _=t*M*b':=by rw [h.e]
   _=t*b'*M:=by rw [AJ]
 obtain ⟨e1,e2⟩:=jV h.am.t0 h.am.b1 h'.am c;rw [h.am.g,Int.ediv_one] at e1 e2;exact ⟨e1,e2⟩
def Fr.nonneg {M t b N:Int}(hM:0<M)(h:Fr M t b N):0<=N:=by
 have a1:=h.am.b1;have n1:=Bk h.am.t0 (show 0<=M by omega);rw [h.e] at n1
 by_cases z:0<=N
 ·exact z
 ·have:=Int.mul_neg_of_neg_of_pos (show N<0 by omega) (show 0<b by omega)
  omega
def Fr.dvd {M t b N:Int}(h:Fr M t b N):b∣M:=by
 have d:b∣M*t:=⟨N,by rw [BZ M,h.e,BZ]⟩;have g:Int.gcd b t=1:=by
  have:=h.am.g;unfold G at this;rw [Int.gcd_comm];omega
 have d':b.natAbs∣M.natAbs*t.natAbs:=by
  rw [<- Int.natAbs_mul];exact Int.natAbs_dvd_natAbs.mpr d
 have c:Nat.Coprime b.natAbs t.natAbs:=g;exact Int.natAbs_dvd_natAbs.mp (c.dvd_of_dvd_mul_right d')
def Fr.nought {M t b N:Int}(hM:0<M)(h:Fr M t b N):N=0↔t=0:=by
 have a1:=h.am.b1;constructor
 ·intro z
  have:=h.e;rw [z,Co] at this
  rcases Fk.mp this with q|q
  ·exact q
  ·omega
 ·intro z
  have:=h.e;rw [z,Co] at this
  rcases Fk.mp this.symm with q|q
  ·exact q
  ·omega
end GM
namespace K33
open PySem PySem.Spec PyProof.Rows L2 GM TM
def top (i:Nat):Stmt:=PySem.Challenge.pw_phialhouse_k33_draws_and_fills.main.body.getD i (.Pass ⟨0,0,0,0⟩)
abbrev sIsWh:Stmt:=top 13
abbrev sGcd:Stmt:=top 14
abbrev sLow:Stmt:=top 15
abbrev sIsAm:Stmt:=top 16
abbrev sPlus:Stmt:=top 17
abbrev sMinus:Stmt:=top 18
abbrev sTimes:Stmt:=top 19
abbrev sLess:Stmt:=top 20
abbrev sIsWare:Stmt:=top 24
abbrev sMixture:Stmt:=top 25
abbrev sWholeM:Stmt:=top 26
abbrev sTogether:Stmt:=top 27
abbrev sPairIn:Stmt:=top 29
abbrev sWithPh:Stmt:=top 38
abbrev sWithMore:Stmt:=top 39
abbrev sDeedAt:Stmt:=top 40
abbrev sIsRow:Stmt:=top 41
abbrev sOfKind:Stmt:=top 42
abbrev sDone:Stmt:=top 44
abbrev sDoneAt:Stmt:=top 45
abbrev sCell:Stmt:=top 47
abbrev sMixed:Stmt:=top 48
abbrev sWhole:Stmt:=top 49
abbrev sLowest:Stmt:=top 50
abbrev sAdd:Stmt:=top 51
abbrev sTake:Stmt:=top 52
abbrev sBy:Stmt:=top 53
abbrev sUnder:Stmt:=top 54
abbrev sDigit:Stmt:=top 55
abbrev sNames:Stmt:=top 56
abbrev sWares:Stmt:=top 57
abbrev sMuch:Stmt:=top 58
abbrev sApart:Stmt:=top 59
abbrev sFree:Stmt:=top 60
abbrev sBench:Stmt:=top 61
abbrev sSum:Stmt:=top 62
abbrev sInto:Stmt:=top 63
abbrev sPoured:Stmt:=top 64
abbrev sAfter:Stmt:=top 65
abbrev sFreeRow:Stmt:=top 66
abbrev sRow:Stmt:=top 67
abbrev sPhials:Stmt:=top 68
abbrev sFreeDr:Stmt:=top 69
abbrev sDrawn:Stmt:=top 70
abbrev sKind:Stmt:=top 71
abbrev sRefused:Stmt:=top 72
abbrev sLaw:Stmt:=top 73
structure Txt (mg:Str->Option Value):Prop where
 isi:mg "isinstance" = none
 int':mg "int" = none
 bool':mg "bool" = none
 tup':mg "tuple" = none
 str':mg "str" = none
 len:mg "len" = none
 range:mg "range" = none
 min':mg "min" = none
 max':mg "max" = none
 abs':mg "abs" = none
 list':mg "list" = none
 sorted':mg "sorted" = none
 zip':mg "zip" = none
 set':mg "set" = none
 all':mg "all" = none
 enum':mg "enumerate" = none
 val:mg "ValueError" = none
 dict':mg "dict" = none
def zB:Sp:=λvs H Q _=>∃ a b:Int,vs=[.int a,.int b]/\0<=a/\0<=b/\Q (.int (G a b)) H
def iM (K:Aa):Sp:=λvs H Q _=>∃ (a:Addr) (ns:List Int) (k:Int),vs=[.ref a,.int k]/\SqL K H a (ns.map V.int)/\0<=k/\∀ c:Int,Q (.int c) H
structure Wr (x:Str):Prop where
 l1:1<=x.length
 l8:x.length<=8
 lt:∀ c∈cps x,97<=c/\c<=122
instance (x:Str):Decidable (Wr x):=decidable_of_iff ((1<=x.length/\x.length<=8)/\∀ c∈cps x,97<=c/\c<=122) ⟨λh=>⟨h.1.1,h.1.2,h.2⟩,λh=>⟨⟨h.l1,h.l8⟩,h.lt⟩⟩
instance (x:Str):Decidable (Wr x):=decidable_of_iff ((1<=x.length/\x.length<=8)/\∀ c∈cps x,97<=c/\c<=122) ⟨λh=>⟨h.1.1,h.1.2,h.2⟩,λh=>⟨⟨h.l1,h.l8⟩,h.lt⟩⟩
abbrev ltP (p q:Str×Str):Prop:=HT.lexLtS [p.1,p.2] [q.1,q.2]=true
def PsL (K:Aa)(H:Hp)(us:List V)(ps:List (Str×Str)):Prop:=us.length=ps.length/\∀ (i:Nat) u p,us[i]?=some u->ps[i]?=some p->∃ q,u=.ref q/\SqT K H q [.str p.1,.str p.2]
def aG3 (ps:List (Str×Str)):Prop:=∀ (i:Nat) p q,ps[i]?=some p->ps[i+1]?=some q->ltP p q
section
variable {P:Az}{w:World}{K:Aa}{mg:Str->Option Value}{base:Heap}
def rP {a0 b0 a b:Int}(e:G a b=G a0 b0)(hb:0<=b)(h:¬ b=0):0<=a%b/\G b (a%b)=G a0 b0:=⟨Int.emod_nonneg a h,by rw [aG5];exact e⟩
def zF:FnScope ["one","other","rest"] ["one","other"] (aI sGcd):=fnScOk (by decide +kernel)
def aF5 (F:Fun K "common_divisor" "common_divisor" sGcd f fd):FnOk P w K mg base CX0 1 f fd ["one","other"] zB:=by
 refine F.ok zF (λvs H Q E h=>?_) (λcdv A outer s H vs Q E hr h=>?_)
 ·obtain ⟨a,b,rfl,_⟩:=h
  rfl
 ·obtain ⟨a,b,rfl,ha,hb,k⟩:=h
  refine ⟨_,aD (qX AV (aS nA (pv 1) aE (aV _))
   (aD (aM (i:=2) zF.nd rfl (Or.inl rfl) (aK bG (pv 0) (pv 1)))
   (aD (aM (i:=0) zF.nd rfl (Or.inl rfl) (pv 1))
   (aG (aM (i:=1) zF.nd rfl (Or.inl rfl) (pv 2))))))
   (aG (aL (pv 0))),?_⟩
  refine qA (λσ H'=>H'=H/\∃ (x y:Int) (r:Option V),σ=[some (.int x),some (.int y),r]/\0<=x/\0<=y/\G x y=G a b) (λσ _=>match σ with|[_,some (.int y),_]=>y.toNat|_=>0) ⟨rfl,a,b,none,rfl,ha,hb,rfl⟩ ?_ ?_
  ·rintro σ H' ⟨rfl,x,y,r,rfl,hx,hy,e⟩
   refine ⟨_,rfl,rfl,_,rfl,?_⟩;refine ite2 (λhc=>?_) (λhc=>?_)
   ·have hy0:¬ y=0:=by
     intro z;subst z;simp at hc
    have t:=rP e hy hy0;refine ⟨_,rfl,_,rfl,_,_,rfl,rfl,(by show 0<y;omega),_,rfl,_,rfl,⟨rfl,y,x%y,_,rfl,hy,t.1,t.2⟩,?_⟩;have:=Int.emod_lt_of_pos x (show 0<y by omega);have:=t.1;show (x%y).toNat<y.toNat;omega
   ·have hy0:y=0:=by
     by_cases z:y=0
     ·exact z
     ·exfalso
      apply hc
      simp [z]
    subst hy0;rw [aCc hx] at e;exact ⟨_,rfl,by rw [e];exact k⟩
  ·rintro σ H' Q1 Q2 hq ⟨v,e,z,q⟩
   exact ⟨v,e,z,by obtain ⟨k,e,q⟩:=q;exact ⟨k,e,hq _ _ q⟩⟩
def b6 {n:Nat}{x:Int}(h:Bt n x)(hn:n<=1000000:=by decide):Bt 1000000 x:=h.mono hn
def cZ (n:Nat){x c:Int}(h0:0<=x)(h:x<c)(hc:c<=((2^n:Nat):Int):=by decide +kernel):Bt n x:=by
 show x.natAbs<2^n;omega
def bJ (x:Int){m:Int}(h:0<m):0<=x%m/\x%m<m:=⟨Int.emod_nonneg x (by omega),Int.emod_lt_of_pos x h⟩
def yM:Cd "int" = some (.type "int"):=by decide +kernel
def yN:Cd "bool" = some (.type "bool"):=by decide +kernel
def dS:Cd "tuple" = some (.type "tuple"):=by decide +kernel
def aB8:Cd "str" = some (.type "str"):=by decide +kernel
def bl {c:Int}(h0:0<=c:=by decide)(h:c<18446744073709551616:=by decide):Bt 1000000 c:=b6 (cZ 64 h0 h)
def bk {c:Int}(h0:0<=c:=by decide)(h:c<18446744073709551616:=by decide):Bt 1000 c:=(cZ 64 h0 h).mono (by decide)
def aFi:FnScope ["_law_script","_law_k"] ["_law_script","_law_k"] (aI sCell):=fnScOk (by decide +kernel)
def aD1 (F:Fun K "_law_cell_at" "_law_cell_at" sCell f fd)(T:Txt mg):FnOk P w K mg base CX0 1 f fd ["_law_script","_law_k"] (iM K):=by
 refine F.ok aFi (λvs H Q E h=>?_) (λcdv A outer s H vs Q E hr h=>?_)
 ·obtain ⟨_,_,_,rfl,_⟩:=h
  rfl
 ·obtain ⟨a,ns,j,rfl,hS,h0,k⟩:=h
  refine ⟨_,(aD (bF (aS wA (pv 1) (aT bC rfl T.len BC (aA (pv 0) aC)) (aV _))
    (aG (aL (bH bB (pv 0) (pv 1) (λ_ _=>rfl))))
    aP)
   (aG (aL aE))),?_⟩
  refine ⟨_,rfl,_,rfl,a,_,rfl,.inl hS,_,_,rfl,rfl,_,rfl,ite2 (λhc=>?_) (λ_=>k _)⟩;have hc':j<((ns.map V.int).length:Int):=of_decide_eq_true hc;rw [Ag] at hc';obtain ⟨i,rfl⟩:=AG h0;obtain ⟨c,hc⟩:∃ c,ns[i]?=some c:=⟨_,Ad (show i<ns.length by omega)⟩;exact ⟨_,rfl,_,rfl,a,_,(i:Int),.int c,rfl,rfl,hS,bD (by rw [As,hc];rfl),k c⟩
def oF:Cd "abs" = some (.builtin "abs"):=by decide +kernel
theorem lenC (x:Str):x.length=(cps x).length:=by simp [Str.length,cps]
theorem lenA (x y:Str):(x++y).length=x.length+y.length:=by rw [lenC,dY,AF,<- lenC,<- lenC]
def eN {x:Str}{ws:List Str}:inV (.str x) (ws.map V.str)=true↔x∈ws:=by
 unfold inV;rw [List.any_map,List.any_eq_true];constructor
 ·rintro ⟨y,hy,e⟩
  have:y=x:=by simpa [eqV] using e
  exact this▸hy
 ·intro h
  exact ⟨x,h,by simp [eqV]⟩
def fB (ws:List Str):(ws.map V.str).all eR=true:=by
 rw [List.all_map,CJ];intro x _;rfl
def tK (h:ws.Nodup)(n:x∉ws):(ws++[x]).Nodup:=by
 rw [List.nodup_append];refine ⟨h,by simp,λy hy z hz e=>?_⟩;rw [AB.mp hz] at e;exact n (e▸hy)
def jZ (h:∀ y∈scope.names,y.2=.local\/y.2=.globalImplicit):ClOk X scope []:=by
 refine ⟨closureFor_none λx hx z=>?_,λx c e=>by simp at e,λx e=>?_⟩
 ·rcases h x hx with q|q<;>rw [q] at z<;>cases z
 ·exfalso
  have e':∃ k,(k=CI\/k=AX)/\(relabel scope X.env).names.lookup x=some k:=by
   rcases e with e|e
   ·exact ⟨_,.inl rfl,e⟩
   ·exact ⟨_,.inr rfl,e⟩
  obtain ⟨k,hk,e⟩:=e';have hm:=CS e;obtain ⟨y,hy,hy2⟩:=AS.mp hm;have hl:=h y hy;obtain ⟨n,kk⟩:=y;simp only at hl
  rcases hl with hl|hl<;>subst hl<;>simp at hy2<;>rcases hk with rfl|rfl<;>exact absurd hy2.2 (by decide)
def list_eq {α:Type}{ys l:List α}(hl:ys.length=l.length)(h:∀ (i:Nat) x y,l[i]?=some x->ys[i]?=some y->y=x):ys=l:=by
 refine List.ext_getElem? λi=>?_
 by_cases hi:i<l.length
 ·have e1:=Ad hi
  have e2:ys[i]?=some (ys[i]'(by omega)):=Ad (by omega);rw [e1,e2,h i _ _ e1 e2]
 ·rw [Bu (by omega),Bu (by omega)]
end
end K33
namespace L2
open PySem PySem.Spec PyProof.Rows
def jn (sep:Str):List Str->Str
 |[x]=>x
 |l=>AH.Str.glued sep l
def rJoin (K:Aa):V->List V->Hp->VK->Prop:=λz vs H Q=>∃ sep a ss,z=.str sep/\vs=[.ref a]/\SqL K H a (ss.map V.str)/\sep.length<=10/\ss.length<=100/\(∀ x∈ss,x.length<=1000)/\Q (.str (jn sep ss)) H
def aEg {x:Str}{g:TG}{tb:TS}{D:Ends}{σ:St}{H:Hp}(Pv:Nat->St->Hp->Prop)(h0:Pv 0 σ H)
  (hs:∀ i c σ H,x.cps[i]?=some c->Pv i σ H->g (.str ⟨#[c]⟩) σ H λσ2 H2=>tb { D with nx:=Pv (i+1),ct:=Pv (i+1),bk:=D.nx } σ2 H2) (hd:∀ σ H,Pv x.cps.size σ H->D.nx σ H) :
  ∃ W:Nat->Nat->St->Hp->Prop,(∃ m,W 0 m σ H)/\∀ i m σ H,W i m σ H ->
   ((Its x).stop i H/\D.nx σ H)\/((Its x).go i H/\∃ N:St->Hp->Prop,(∀ σ' H',N σ' H'->∃ m',m'<m/\W (i+1) m' σ' H')/\∀ v H',(Its x).yld i H v H'->g v σ H' λσ2 H2=>tb { D with nx:=N,ct:=N,bk:=D.nx } σ2 H2):=by
 refine ⟨λi m σ H=>m=x.cps.size-i/\i<=x.cps.size/\Pv i σ H,⟨x.cps.size,by simp,BK _,h0⟩,?_⟩
 rintro i m σ H ⟨rfl,hi,p⟩
 by_cases hlt:i<x.cps.size
 ·refine .inr ⟨⟨x.cps[i],Fs hlt⟩,Pv (i+1),λσ' H' p'=>⟨x.cps.size-(i+1),by omega,rfl,hlt,p'⟩,λv H' y=>?_⟩
  obtain ⟨e,c,hc,rfl⟩:=y;subst e;exact hs i c σ _ hc p
 ·have e:i=x.cps.size:=by omega
  subst e;exact .inl ⟨Array.getElem?_eq_none (Ak _),hd σ H p⟩
section
variable {X:Cx}
def tx:V->Str
 |.int n=>toString n
 |.str x=>x
 |_=>Str.empty
def TxOk (v:V):Prop:=(∃ n:Nat,v=.int n/\n<10^60)\/∃ x,v=.str x/\x.length<=100
end
end L2
namespace K33
open PySem PySem.Spec PyProof.Rows L2 GM TM
def SmB (a:Addr)(H H':Hp):Prop:=∀ b o,b≠a->H b=some o->H' b=some o
def SmB.refl :SmB a H H:=λ_ _ _ h=>h
theorem SmB.trans (h:SmB a H H1)(k:SmB a H1 H2):SmB a H H2:=λb o n e=>k b o n (h b o n e)
def SmB.of (h:Same H H'):SmB a H H':=λb o _ e=>h b o e
theorem SmB.upd :SmB a H (upd H a o):=λb u n e=>by rw [aH n];exact e
def SmB.own {a p:Addr}(h:SmB a H H')(n:H p=none):SmB a H (L2.upd H' p o):=λb u nb e=>by
 have ne:b≠p:=λz=>by rw [z,n] at e;cases e
 rw [aH ne];exact h b u nb e
theorem SmB.none {a p:Addr}(h:SmB a H H')(n:H' p=none)(pa:p≠a):H p=none:=by
 cases e:H p with
 |none=>rfl
 |some o=>
  have:=h p o pa e;rw [n] at this;cases this
def Lf (H:Hp)(a:Addr):Prop:=∃ n:Int,H a=some (.lst [.int n])/\0<=n
def Lf.keep (h:Lf H a)(s:Same H H'):Lf H' a:=by
 obtain ⟨n,e,r⟩:=h;exact ⟨n,s _ _ e,r⟩
def Lf.there (h:Lf H a)(n:H b=none):b≠a:=λz=>by
 obtain ⟨_,e,_⟩:=h;rw [<- z,n] at e;cases e
def Lf.own {a p:Addr}(h:Lf H a)(n:p≠a):Lf (upd H p o) a:=by
 obtain ⟨m,e,r⟩:=h;exact ⟨m,by rw [aH (AQ n)];exact e,r⟩
def fI:Sp:=λvs H Q _=>∃ c k:Int,vs=[.int c,.int k]/\0<=k/\k<=1000/\∀ n:Int,0<=n->n<2147483647->Q (.int n) H
def dZ:Sp:=λvs H Q _=>∃ t b:Int,vs=[.int t,.int b]/\0<=t/\1<=b/\Bt 9000 b/\∀ p H',Same H H'->H p=none->H' p=some (.tup [.int (t/G t b),.int (b/G t b)])->Q (.ref p) H'
def gH:Sp:=λvs H Q _=>∃ (a:Addr) (m:Int),vs=[.ref a,.int m]/\Lf H a/\1<=m/\Bt 9000 m/\∀ (d:Int) H',0<=d->d<m->SmB a H H'->Lf H' a->Q (.int d) H'
def oV:Sp:=λvs H Q _=>∃ a:Addr,vs=[.ref a]/\Lf H a/\∀ (ws:List Str) p H',ws.length=6->ws.Nodup->(∀ x∈ws,Wr x)->SmB a H H'->H p=none->p≠a->H' p=some (.lst (ws.map V.str))->Q (.ref p) H'
structure Rm (t b:Int):Prop where
 t1:1<=t
 b1:1<=b
 g:G t b=1
 st:Bt 100 t
 sb:Bt 100 b
 b18:b<=1000000000000000000
def mH:Sp:=λvs H Q _=>∃ n:Int,vs=[.int n]/\0<=n/\n<2147483647/\∀ t b p H',Rm t b->b<=12->Same H H'->H p=none->H' p=some (.tup [.int t,.int b])->Q (.ref p) H'
def jW {t b:Int}(h0:1<=t)(h1:1<=b)(ht:Bt 100 t)(hb:Bt 100 b)(h18:b<=1000000000000000000:=by omega):Rm (t/G t b) (b/G t b):=by
 have a:=gN (t:=t) (b:=b) (by omega) h1;have g:=jJ (a:=t) (b:=b) (by omega);have l:=Fg (by omega) (gR t b);refine ⟨(EF g).mpr (by omega),(EF g).mpr (by have:=sJ (a:=t) (b:=b) (by omega);omega),a.3,ht.le a.1 (BI _ (by omega)),hb.le (by have:=a.2;omega) (BI _ (by omega)),Ep (BI _ (by omega)) h18⟩
def nG {t b:Int}(h1:1<=b)(hs:Bt 9000 b):0<G t b/\Bt 9000 (G t b):=by
 have p:=jJ (a:=t) (b:=b) (by omega);exact ⟨p,hs.le (by omega) (sJ (by omega))⟩
def b9 {c:Int}(h0:0<=c:=by decide)(h:c<18446744073709551616:=by decide):Bt 9000 c:=(cZ 64 h0 h).mono (by decide)
theorem e18:(10:Int)^Int.toNat 18=1000000000000000000:=by decide +kernel
section
variable {P:Az}{w:World}{K:Aa}{mg:Str->Option Value}{base:Heap}
def aCy:FnScope ["_law_cell","_law_k"] ["_law_cell","_law_k"] (aI sMixed):=fnScOk (by decide +kernel)
def aAb (F:Fun K "_law_mixed" "_law_mixed" sMixed f fd):FnOk P w K mg base CX0 1 f fd ["_law_cell","_law_k"] fI:=by
 refine F.ok aCy (λvs H Q E h=>?_) (λcdv A outer s H vs Q E hr h=>?_)
 ·obtain ⟨_,_,rfl,_⟩:=h
  rfl
 ·obtain ⟨c,k,rfl,k0,k1,q⟩:=h
  refine ⟨_,aG (aL (aK bG (aK bL (aK bK (aK bK (aK bG (pv 0) aE) (aK bL (pv 1) (pv 1))) aE) aE) aE)),?_⟩;have c1:=bJ c (m:=1000003) (by decide);have bk1:Bt 32 k:=cZ 32 (c:=1001) k0 (by omega);have b3:Bt 66 (c%1000003+k*k+1):=((cZ 64 (c:=1000003) c1.1 c1.2).add (bk1.mul bk1)).add (cZ 65 (x:=1) (c:=2) (by decide) (by decide));refine ⟨_,rfl,_,_,rfl,rfl,(by show (0:Int)<1000003;decide),_,rfl,_,rfl,_,_,rfl,rfl,⟨b6 bk1,b6 bk1⟩,_,_,rfl,rfl,_,_,rfl,rfl,_,_,rfl,rfl,⟨b6 b3,bl⟩,_,_,rfl,rfl,(by show (0:Int)<2147483647;decide),?_⟩;have e:=bJ ((c%1000003+k*k+1)*48271) (m:=2147483647) (by decide);exact q _ e.1 e.2
def iA:FnScope ["_law_top","_law_bottom","_law_one","_law_other"] ["_law_top","_law_bottom"] (aI sLowest):=fnScOk (by decide +kernel)
def wL (F:Fun K "_law_lowest" "_law_lowest" sLowest f fd):FnOk P w K mg base CX0 1 f fd ["_law_top","_law_bottom"] dZ:=by
 refine F.ok iA (λvs H Q E h=>?_) (λcdv A outer s H vs Q E hr h=>?_)
 ·obtain ⟨a,b,rfl,_⟩:=h
  rfl
 ·obtain ⟨a,b,rfl,ha,hb,bb,k⟩:=h
  refine ⟨_,(aD (aM (i:=2) iA.nd rfl (Or.inl rfl) (pv 0))
   (aD (aM (i:=3) iA.nd rfl (Or.inl rfl) (pv 1))
   (aD (qX AV (aS aFz (pv 3) aE (aV _))
   (aG (aFt (i:=2) (j:=3) rfl iA.nd rfl rfl (by decide) rfl rfl (aA (pv 3) (aA (aK bG (pv 2) (pv 3)) aC)) rfl)))
   (aG (aL (aW (aA (aK aX (pv 0) (pv 2)) (aA (aK aX (pv 1) (pv 2)) aC)))))))),?_⟩
  refine cut4 ?_
  intros
  refine ⟨_,rfl,_,rfl,?_⟩;refine qA (λσ H'=>H'=H/\∃ (x y:Int),σ=[some (.int a),some (.int b),some (.int x),some (.int y)]/\0<=x/\0<=y/\G x y=G a b) (λσ _=>match σ with|[_,_,_,some (.int y)]=>y.toNat|_=>0) ⟨rfl,a,b,rfl,ha,by omega,rfl⟩ ?_ ?_
  ·rintro σ H' ⟨rfl,x,y,rfl,hx,hy,e⟩
   refine ⟨_,rfl,_,_,rfl,rfl,_,rfl,?_⟩;refine ite2 (λhc=>?_) (λhc=>?_)
   ·have hy0:0<y:=of_decide_eq_true hc
    have t:=rP e hy (by omega);refine ⟨_,rfl,_,rfl,_,rfl,_,_,rfl,rfl,(by show 0<y;omega),_,_,rfl,⟨rfl,y,x%y,rfl,hy,t.1,t.2⟩,?_⟩;have:=Int.emod_lt_of_pos x (show 0<y by omega);have:=t.1;show (x%y).toNat<y.toNat;omega
   ·have hy0:y=0:=by
     have:¬ 0<y:=λz=>hc (decide_eq_true z);omega
    subst hy0;rw [aCc hx] at e;subst e;have g:=nG (t:=a) hb bb;refine ⟨_,rfl,_,rfl,_,_,rfl,rfl,g,_,rfl,_,rfl,_,_,rfl,rfl,g,zLn2,λp hp=>?_⟩;exact k p _ (Same.upd hp) hp aB
  ·rintro σ H' Q1 Q2 hq ⟨v,e,i,j,e1,e2,z,ez,q⟩
   exact ⟨v,e,i,j,e1,e2,z,ez,hq _ _ q⟩
def vE:FnScope ["_law_left","_law_many","_law_found"] ["_law_left","_law_many"] (aI sDigit):=fnScOk (by decide +kernel)
def aAh (F:Fun K "_law_digit" "_law_digit" sDigit f fd):FnOk P w K mg base CX0 1 f fd ["_law_left","_law_many"] gH:=by
 refine F.ok vE (λvs H Q E h=>?_) (λcdv A outer s H vs Q E hr h=>?_)
 ·obtain ⟨_,_,rfl,_⟩:=h
  rfl
 ·obtain ⟨a,m,rfl,⟨n,ha,n0⟩,m1,bm,k⟩:=h
  refine ⟨_,(aD (aM (i:=2) vE.nd rfl (Or.inl rfl) (aK bG (bH bB (pv 0) aE (λ_ _=>rfl)) (pv 1)))
   (aD (gU (aK aX (bH bB (pv 0) aE (λ_ _=>rfl)) (pv 1)) (mW (pv 0) aE set_list))
   (aG (aL (pv 2))))),?_⟩
  refine cut3 ?_
  intros
  refine ⟨_,rfl,a,_,0,.int n,rfl,rfl,SqL.of ha,bD (j:=0) rfl,_,rfl,_,_,rfl,rfl,(by show 0<m;omega),?_⟩;refine ⟨_,rfl,a,_,0,.int n,rfl,rfl,SqL.of ha,bD (j:=0) rfl,_,rfl,_,_,rfl,rfl,⟨by omega,bm⟩,_,rfl,a,_,0,0,rfl,rfl,ha,rfl,?_⟩;have e:=bJ n (show (0:Int)<m by omega);exact ⟨_,rfl,k _ _ e.1 e.2 SmB.upd ⟨_,aB,DT n0 (by omega)⟩⟩
def aFd:FnScope ["_law_number"] ["_law_number"] (aI sMuch):=fnScOk (by decide +kernel)
def aDs (F:Fun K "_law_much" "_law_much" sMuch f fd)(cL:Cal P w K mg base CX0 1 "_law_lowest" ["_law_top","_law_bottom"] dZ):FnOk P w K mg base CX0 2 f fd ["_law_number"] mH:=by
 refine F.ok aFd (λvs H Q E h=>?_) (λcdv A outer s H vs Q E hr h=>?_)
 ·obtain ⟨_,rfl,_⟩:=h
  rfl
 ·obtain ⟨n,rfl,n0,nl,k⟩:=h
  refine ⟨_,(aD (bF (aS dB (aK bG (pv 0) aE) aE (aV _))
    (aG (aL (aJ cL hr rfl aQ (aA (aK bK aE (aK bG (aK bL (aK aX (pv 0) aE) aE) (aK lG aE aE))) (aA (aK bK aE (aK bG (aK aX (pv 0) aE) aE)) aC)))))
    aP)
   (aG (aL (aJ cL hr rfl aQ (aA (aK bK aE (aK bG (aK aX (pv 0) aE) aE)) (aA (aK bK aE (aK bG (aK aX (pv 0) aE) aE)) aC)))))),?_⟩
  have q0:0<=n/4:=DT n0 (by decide);have ql:n/4<2147483647:=Fv (BI _ n0) nl;have bq:Bt 64 (n/4):=cZ 64 q0 (Int.lt_trans ql (by decide:(2147483647:Int)<2147483648));have e1:=bJ (n/4) (m:=12) (by decide);have e2:=bJ (n/48) (m:=12) (by decide);refine ⟨_,rfl,_,_,rfl,rfl,(by show (0:Int)<4;decide),rfl,_,rfl,ite2 (λ_=>?_) (λ_=>?_)⟩
  ·refine ⟨_,rfl,_,_,rfl,rfl,⟨by decide,b9⟩,_,_,rfl,rfl,⟨b6 bq,bl⟩,_,_,rfl,rfl,⟨by decide,by decide,bk⟩,_,_,rfl,rfl,?_,_,_,rfl,rfl,_,rfl,_,_,rfl,rfl,⟨by decide,b9⟩,_,_,rfl,rfl,(by show (0:Int)<12;decide),_,_,rfl,rfl,?_⟩
   ·rw [e18]
    show (0:Int)<1000000000000000000
    decide
   ·rw [e18]
    have e3:=bJ (n/4*69621) (m:=1000000000000000000) (by decide);exact ⟨_,_,rfl,by omega,by omega,b9 (by omega) (by omega),λp H' sm np hp=>k _ _ p H' (jW (by omega) (by omega) (cZ 100 (c:=2000000000000000000) (by omega) (by omega)) (cZ 100 (c:=2000000000000000000) (by omega) (by omega))) (Ep (BI _ (by omega)) (by omega)) sm np hp⟩
  ·refine ⟨_,rfl,_,_,rfl,rfl,⟨by decide,b9⟩,_,_,rfl,rfl,(by show (0:Int)<12;decide),_,_,rfl,rfl,_,rfl,_,_,rfl,rfl,⟨by decide,b9⟩,_,_,rfl,rfl,(by show (0:Int)<12;decide),_,_,rfl,rfl,?_⟩
   exact ⟨_,_,rfl,by omega,by omega,b9 (by omega) (by omega),λp H' sm np hp=>k _ _ p H' (jW (by omega) (by omega) (cZ 100 (c:=2000000000000000000) (by omega) (by omega)) (cZ 100 (c:=2000000000000000000) (by omega) (by omega))) (Ep (BI _ (by omega)) (by omega)) sm np hp⟩
end
def one (c:Nat):Str:=⟨#[c]⟩
theorem lU (c:Nat):cps (one c)=[c]:=rfl
def aEt {c:Nat}(h:97<=c/\c<=122):Wr (one c):=⟨(by show 1<=1;decide),(by show 1<=8;decide),λx hx=>by
 rw [lU] at hx;rw [AB.mp hx];exact h⟩
def one_inj {c d:Nat}(e:one c=one d):c=d:=by
 have:=congrArg cps e;rw [lU,lU] at this;exact (List.cons.inj this).1
def oU:Sp:=λvs H Q _=>∃ c:Int,vs=[.int c]/\∀ (ws:List Str) p H',ws.length=6->ws.Nodup->(∀ x∈ws,Wr x)->Same H H'->H p=none->H' p=some (.lst (ws.map V.str))->Q (.ref p) H'
section
variable {P:Az}{w:World}{K:Aa}{mg:Str->Option Value}{base:Heap}
def eT:FnScope ["_law_left","_law_letters","_law_found","_law_k","_law_word","_law_j","_law_tail"] ["_law_left"] (aI sNames):=fnScOk (by decide +kernel)
def aAa (F:Fun K "_law_names" "_law_names" sNames f fd)(T:Txt mg)(cD:Cal P w K mg base CX0 1 "_law_digit" ["_law_left","_law_many"] gH):FnOk P w K mg base CX0 2 f fd ["_law_left"] oV:=by
 refine F.ok eT (λvs H Q E h=>?_) (λcdv A outer s H vs Q E hr h=>?_)
 ·obtain ⟨_,rfl,_⟩:=h
  rfl
 ·obtain ⟨a,rfl,lf,k⟩:=h
  refine ⟨_,(aD (aM (i:=1) eT.nd rfl (Or.inl rfl) aU)
   (aD (aM (i:=2) eT.nd rfl (Or.inl rfl) (cJ aC))
   (aD (dN AV rfl (eA rfl T.range (aA aE aC)) (bA (i:=3) eT.nd rfl (Or.inl rfl))
    (aD (aM (i:=4) eT.nd rfl (Or.inl rfl) aU)
    (aD (dN AV rfl (eA rfl T.range (aA (aK bK aE (aJ cD hr rfl aQ (aA (pv 0) (aA aE aC)))) aC)) (bA (i:=5) eT.nd rfl (Or.inl rfl))
     (aG (aM (i:=4) eT.nd rfl (Or.inl rfl) (aK fD (pv 4) (bH xF (pv 1) (aJ cD hr rfl aQ (aA (pv 0) (aA aE aC))) (λ_ _=>rfl))))))
    (aD (dN AV rfl (aBn (pv 1)) (bA (i:=6) eT.nd rfl (Or.inl rfl))
     (aG (bF (aS eZ (pv 4) (pv 2) rfl) (aG (aM (i:=4) eT.nd rfl (Or.inl rfl) (pv 6))) aP)))
    (aG (dG (iV AY Bc Bb bY (pv 2) (aA (pv 4) aC))))))))
   (aG (aL (pv 2)))))),?_⟩
  refine cut4 ?_
  intros
  have zL:LET.length<=Ax:=by decide +kernel
  refine ⟨zLn0,λp hp=>?_⟩;have pa:p≠a:=lf.there hp;refine ⟨6,rfl,by decide,by decide,?_⟩;refine dF (λi σ H'=>∃ (ws:List Str) (v3 v4 v5 v6:Option V),σ=[some (.ref a),some (.str LET),some (.ref p),v3,v4,v5,v6]/\ws.length=i/\ws.Nodup/\(∀ x∈ws,Wr x)/\SmB a H H'/\Lf H' a/\H' p=some (.lst (ws.map V.str)))
   ⟨[],none,none,none,none,rfl,rfl,Ef,(λ_ h=>nomatch h),SmB.refl.own hp,lf.own pa,aB⟩ ?_ ?_
  ·rintro i σ H2 hi ⟨ws,v3,v4,v5,v6,rfl,wl,nd,wr,s2,lf2,hp2⟩
   have hi6:i<6:=hi;refine ⟨_,rfl,a,8,rfl,lf2,by decide,b9,λe H3 e0 el s3 lf3=>⟨_,_,rfl,rfl,1+e,rfl,by omega,by omega,?_⟩⟩;refine dF (λj σ H'=>∃ (x:Str) (v5:Option V),σ=[some (.ref a),some (.str LET),some (.ref p),some (.int (0+i)),some (.str x),v5,v6]/\x.length=j/\(∀ c∈cps x,97<=c/\c<=122)/\SmB a H H'/\Lf H' a/\H' p=some (.lst (ws.map V.str)))
    ⟨"",v5,rfl,rfl,(λ_ h=>nomatch h),s2.trans s3,lf3,s3 _ _ pa hp2⟩ ?_ ?_
   ·rintro j σ H4 hj ⟨x,u5,rfl,xl,xc,s4,lf4,hp4⟩
    refine ⟨_,rfl,_,rfl,_,rfl,a,26,rfl,lf4,by decide,b9,λg H5 g0 gl s5 lf5=>?_⟩;obtain ⟨gn,rfl⟩:=AG g0;have lx:x.length<=8:=by omega
    refine ⟨LET,(gn:Int),97+gn,rfl,rfl,zL,bD (sD (by omega)),_,_,rfl,rfl,bO (by show x.length+1<=1000;omega),?_⟩;refine ⟨_,_,rfl,?_,λc hc=>?_,s4.trans s5,lf5,s5 _ _ pa hp4⟩
    ·rw [lenA,xl]
     rfl
    ·rw [dY] at hc
     rcases Br.mp hc with h|h
     ·exact xc c h
     ·have:c=97+gn:=by simpa [cps] using h
      omega
   ·rintro σ H4 ⟨x,u5,rfl,xl,xc,s4,lf4,hp4⟩
    have wx:Wr x:=⟨by omega,by omega,xc⟩;refine ⟨_,rfl,LET,rfl,?_⟩;refine aEg (λj σ H'=>∃ (y:Str) (v6:Option V),σ=[some (.ref a),some (.str LET),some (.ref p),some (.int (0+i)),some (.str y),u5,v6]/\H'=H4/\Wr y/\(y∉ws\/j=0\/∃ q,j=q+1/\y=one (97+q)/\∀ r,r<q->one (97+r)∈ws)) ⟨x,v6,rfl,rfl,wx,.inr (.inl rfl)⟩ ?_ ?_
    ·rintro j c σ H5 hc ⟨y,v6',rfl,rfl,wy,inv⟩
     have hj:j<26:=by
      have:=(Cp.mp hc).1;exact this
     have ec:c=97+j:=by
      have h1:=sD hj;have h2:(cps LET)[j]?=some c:=by simpa [cps] using hc
      rw [h1] at h2;exact (AK h2).symm
     subst ec;refine ⟨_,rfl,_,rfl,p,_,rfl,.inl (SqL.of hp4),rfl,fB ws,_,rfl,ite2 (λhin=>?_) (λhno=>?_)⟩
     ·have hin':y∈ws:=eN.mp hin
      refine ⟨_,rfl,one (97+j),_,rfl,rfl,aEt (by omega),.inr (.inr ⟨j,rfl,rfl,λr hr=>?_⟩)⟩
      rcases inv with h|h|⟨q,e,ey,h⟩
      ·exact absurd hin' h
      ·omega
      ·by_cases z:r=q
       ·rw [z,<- ey]
        exact hin'
       ·exact h r (by omega)
     ·exact ⟨y,_,rfl,rfl,wy,.inl λz=>hno (eN.mpr z)⟩
    ·rintro σ H5 ⟨y,v6',rfl,rfl,wy,inv⟩
     have ny:y∉ws:=by
      rcases inv with h|h|⟨q,e,ey,h⟩
      ·exact h
      ·exact absurd h (by decide)
      ·exfalso
       have q25:q=25:=by
        have:LET.cps.size=26:=by decide +kernel
        omega
       have:=aFu (λr=>one (97+r)) 25 ws (λr hr=>h r (by omega)) (λr1 r2 _ _ e=>by have:=one_inj e;omega);omega
     refine ⟨_,rfl,.inl ⟨rfl,_,SqL.of hp4⟩,_,rfl,p,_,_,rfl,rfl,hp4,bP (by rw [Ag];omega),?_⟩;refine ⟨ws++[y],_,_,_,_,rfl,by rw [AF,wl];rfl,tK nd ny,λz hz=>?_,s4.own hp,lf4.own pa,by rw [Bs];exact aB⟩
     rcases Br.mp hz with h|h
     ·exact wr z h
     ·rw [AB.mp h]
      exact wy
  ·rintro σ H2 ⟨ws,v3,v4,v5,v6,rfl,wl,nd,wr,s2,lf2,hp2⟩
   exact ⟨_,rfl,k ws p H2 wl nd wr s2 hp pa hp2⟩
def ndW1:(["_law_tail","_law_word"]:List Str).Nodup:=by decide +kernel
def ndW2:(["_law_k","_law_word","_law_letters","_law_number"]:List Str).Nodup:=by decide +kernel
abbrev kJ:List Str:=["","a","aa","ab","b","ba"]
def aEj (h:cps x=cps y):x=y:=by
 obtain ⟨⟨x⟩⟩:=x;obtain ⟨⟨y⟩⟩:=y;simp [cps] at h;rw [h]
def yQ {x y z:Str}(h:x++y=x++z):y=z:=by
 have:=congrArg cps h;rw [dY,dY] at this;exact aEj (List.append_cancel_left this)
def aA9 (l1:1<=x.length)(l:x.length+y.length<=8)(hx:∀ c∈cps x,97<=c/\c<=122)(hy:∀ c∈cps y,97<=c/\c<=122):Wr (x++y):=by
 refine ⟨by rw [lenA];omega,by rw [lenA];exact l,λc hc=>?_⟩;rw [dY] at hc
 rcases Br.mp hc with h|h
 ·exact hx c h
 ·exact hy c h
def qF:∀ t∈kJ,t.length<=2/\∀ c∈cps t,97<=c/\c<=122:=by decide +kernel
def yZ:kJ.Nodup:=by decide +kernel
def uM {ys:List V}{ws:List Str}(hl:ys.length=ws.length)(h:∀ (i:Nat) y b,ys[i]?=some y->ws[i]?=some b->y=.str b):ys=ws.map V.str:=by
 refine list_eq (by rw [Ag];exact hl) λi x y hx hy=>?_;rw [As] at hx;cases e:ws[i]? with
 |none=>rw [e] at hx;cases hx
 |some b=>
  rw [e] at hx;cases hx;exact h i y b hy e
theorem iY {α β:Type}{f:α->β}:∀ {l:List α},(∀ x∈l,∀ y∈l,f x=f y->x=y)->l.Nodup->(l.map f).Nodup
 |[],_,_=>Ef
 |x::r,h,n=>by
  rw [BO] at n;rw [Al,BO];refine ⟨λz=>?_,iY (λa ha b hb=>h a (Aj _ ha) b (Aj _ hb)) n.2⟩;obtain ⟨y,hy,e⟩:=AS.mp z;have:=h y (Aj _ hy) x (Au ..) e;rw [this] at hy;exact n.1 hy
def gJ:FnScope ["_law_cell","_law_letters","_law_number","_law_word","_law_k"] ["_law_cell"] (aI sWares):=fnScOk (by decide +kernel)
def zV {f:Addr}{fd:Bf}(F:Fun K "_law_wares" "_law_wares" sWares f fd)(T:Txt mg)(cN:Cal P w K mg base CX0 2 "_law_names" ["_law_left"] oV)(cM:Cal P w K mg base CX0 2 "_law_mixed" ["_law_cell","_law_k"] fI):FnOk P w K mg base CX0 3 f fd ["_law_cell"] oU:=by
 refine F.ok gJ (λvs H Q E h=>?_) (λcdv A outer s H vs Q E hr h=>?_)
 ·obtain ⟨_,rfl,_⟩:=h
  rfl
 ·obtain ⟨c,rfl,k⟩:=h
  refine ⟨_,(aD (aM (i:=1) gJ.nd rfl (Or.inr rfl) aU)
   (aD (bF (aS dB (aK bG (pv 0) aE) aE (aV _))
    (aG (aL (aJ cN hr rfl aQ (aA (cJ (aA (aK aX (aT gD rfl T.abs' oF (aA (pv 0) aC)) aE) aC)) aC))))
    aP)
   (aD (aM (i:=2) gJ.nd rfl (Or.inr rfl) (aJ cM hr rfl aQ (aA (pv 0) (aA aE aC))))
   (aD (aM (i:=3) gJ.nd rfl (Or.inr rfl) aU)
   (aD (dN AV rfl (eA rfl T.range (aA (aK bK aE (aK bG (pv 2) aE)) aC)) (bA (i:=4) gJ.nd rfl (Or.inl rfl))
    (aG (aM (i:=3) gJ.nd rfl (Or.inr rfl) (aK fD (pv 3) (bH xF (pv 1) (aK bG (aK aX (aJ cM hr rfl aQ (aA (pv 0) (aA (aK bK (pv 4) aE) aC))) aE) aE) (λ_ _=>rfl))))))
   (aD (bF (aS dB (aK bG (aK aX (pv 2) aE) aE) aE (aV _))
    (aG (aL (iB (N':=["_law_tail","_law_word"]) (λσ=>[none,some 3].map λt=>t.bind λj=>(σ[j]?).join) rfl rfl (by decide +kernel) (by decide +kernel)
     (aAu (sc:=aI sWares) rfl (by decide +kernel)) (λ_ _ _=>lX (sc:=aI sWares) (N:=["_law_cell","_law_letters","_law_number","_law_word","_law_k"]) [none,some 3] rfl rfl rfl rfl (by decide +kernel))
     (jR (aW (aA aU (aA aU (aA aU (aA aU (aA aU (aA aU aC)))))))) (λ_ _ _ _ _ _=>bA (i:=0) ndW1 rfl (Or.inl rfl)) (λ_ _ _ _ _ _=>fW)
     (λ_ _ _ _ _ _=>aK fD (pv 1) (pv 0)))))
    aP)
   (aG (aL (iB (N':=["_law_k","_law_word","_law_letters","_law_number"]) (λσ=>[none,some 3,some 1,some 2].map λt=>t.bind λj=>(σ[j]?).join) rfl rfl (by decide +kernel) (by decide +kernel)
     (aAu (sc:=aI sWares) rfl (by decide +kernel)) (λ_ _ _=>lX (sc:=aI sWares) (N:=["_law_cell","_law_letters","_law_number","_law_word","_law_k"]) [none,some 3,some 1,some 2] rfl rfl rfl rfl (by decide +kernel))
     (eA rfl T.range (aA aE aC)) (λ_ _ _ _ _ _=>bA (i:=0) ndW2 rfl (Or.inl rfl)) (λ_ _ _ _ _ _=>fW)
     (λ_ _ _ _ _ _=>aK fD (pv 1) (bH xF (pv 2) (aK bG (aK bK (aK aX (pv 3) aE) (aK bL aE (pv 0))) aE) (λ_ _=>rfl)))))))))))),?_⟩
  refine cut7 ?_
  intros
  have zL:LET.length<=Ax:=by decide +kernel
  refine ⟨_,rfl,_,_,rfl,rfl,(by show (0:Int)<2;decide),rfl,_,rfl,ite2 (λ_=>?_) (λ_=>?_)⟩
  ·refine ⟨_,rfl,c,rfl,?_⟩
   have ha:0<=(if c<0 then -c else c):=by split<;>omega
   generalize (if c<0 then -c else c)=n at *
   refine ⟨_,_,rfl,rfl,⟨by decide,b9⟩,zLn1,λz hz=>⟨z,rfl,⟨_,aB,DT ha (by decide)⟩,λws p H' wl nd wr sm hp pz hp'=>?_⟩⟩;have hpn:H p=none:=by
    cases e:H p with
    |none=>rfl
    |some o=>
     have:=Same.upd (o:=.lst [.int (n/2)]) hz _ _ e;rw [hp] at this;cases this
   exact k ws p H' wl nd wr (λb o e=>sm b o (λq=>by rw [q,hz] at e;cases e) (Same.upd hz _ _ e)) hpn hp'
  refine ⟨_,rfl,c,0,rfl,by decide,by decide,λn n0 nl=>?_⟩;have e5:=bJ n (m:=5) (by decide);refine ⟨_,rfl,_,_,rfl,rfl,(by show (0:Int)<5;decide),_,_,rfl,rfl,_,rfl,by omega,by omega,?_⟩;refine dF (λi σ H'=>∃ (x:Str) (v4:Option V),σ=[some (.int c),some (.str LET),some (.int n),some (.str x),v4]/\x.length=i/\(∀ d∈cps x,97<=d/\d<=122)/\H'=H) ⟨"",none,rfl,rfl,(λ_ h=>nomatch h),rfl⟩ ?_ ?_
  ·rintro i σ H' hi ⟨x,v4,rfl,xl,xc,rfl⟩
   refine ⟨_,rfl,_,rfl,_,rfl,_,rfl,_,_,rfl,rfl,c,_,rfl,by omega,by omega,λm m0 ml=>?_⟩;have e:=bJ (m/64) (m:=26) (by decide);obtain ⟨gn,hg⟩:=AG e.1;refine ⟨_,_,rfl,rfl,⟨by decide,b9⟩,_,_,rfl,rfl,(by show (0:Int)<26;decide),LET,_,97+gn,rfl,rfl,zL,(by rw [hg];exact bD (sD (by omega))),_,_,rfl,rfl,bO (by show x.length+1<=1000;omega),?_⟩;refine ⟨_,_,rfl,?_,λd hd=>?_,rfl⟩
   ·rw [lenA,xl]
    rfl
   ·rw [dY] at hd
    rcases Br.mp hd with h|h
    ·exact xc d h
    ·have:d=97+gn:=by simpa [cps] using h
     omega
  ·rintro σ H' ⟨x,v4,rfl,xl,xc,rfl⟩
   have xl1:1<=x.length:=by omega
   have xl5:x.length<=5:=by omega
   refine ⟨_,rfl,_,_,rfl,rfl,⟨by decide,b9⟩,_,_,rfl,rfl,(by show (0:Int)<2;decide),rfl,_,rfl,ite2 (λ_=>?_) (λ_=>?_)⟩
   ·refine ⟨zLn6,λq hq=>⟨q,rfl,⟨_,SqT.of aB⟩,λD hD=>?_⟩⟩
    refine lV (Ys.tup (xs:=kJ.map V.str) (SqT.of aB)) (λi _ y _=>∀ t,kJ[i]?=some t->y=.str (x++t)) (λ_ _ _ _ _ h _=>h) hD (by decide) (λi y H2 R hy sm hR=>?_) (λys H2 sm hD' yl hy=>?_)
    ·rw [As] at hy
     cases et:kJ[i]? with
     |none=>rw [et] at hy;cases hy
     |some t=>
      rw [et] at hy;cases hy;have:=(qF t (Av et)).1;refine ⟨(Keep.refl _).set rfl,_,rfl,_,rfl,_,_,rfl,rfl,bO (by omega),hR _ _ (Same.refl _) λt' e'=>?_⟩;rw [et] at e';cases e';rfl
    ·have ey:=uM (ws:=kJ.map λt=>x++t) (yl.trans (by rfl)) λi y b h1 h2=>by
      rw [As] at h2;cases et:kJ[i]? with
      |none=>rw [et] at h2;cases h2
      |some t=>
       rw [et] at h2;cases h2;exact hy i (.str t) y (by rw [As,et];rfl) h1 t et
     subst ey;refine k _ D H2 rfl (iY (λa _ b _ e=>yQ e) yZ) (λz hz=>?_) ((Same.upd hq).trans sm) ?_ hD'
     ·obtain ⟨t,ht,rfl⟩:=AS.mp hz
      have tt:=qF t ht;exact aA9 xl1 (by omega) xc tt.2
     ·cases e:H' D with
      |none=>rfl
      |some o=>
       have h9:upd H' q (.tup (kJ.map V.str)) D=none:=hD;have:=Same.upd (o:=.tup (kJ.map V.str)) hq _ _ e;rw [h9] at this;cases this
   ·refine ⟨6,rfl,by decide,by decide,λD hD=>?_⟩
    refine lV (Ys.rng (lo:=0) (n:=6)) (λi _ y _=>y=.str (x++one (97+((n/10+3*((0:Int)+i))%26).toNat))) (λ_ _ _ _ _ h _=>h) hD (by decide) (λi y H2 R hy sm hR=>?_) (λys H2 sm hD' yl hy=>?_)
    ·obtain ⟨hi,rfl⟩:=zJ hy
     have e:=bJ (n/10+3*((0:Int)+i)) (m:=26) (by decide);have bi:Bt 64 ((0:Int)+i):=cZ 64 (c:=100) (by omega) (by omega);obtain ⟨gn,hg⟩:=AG e.1;refine ⟨(Keep.refl _).set rfl,_,rfl,_,rfl,_,rfl,_,_,rfl,rfl,⟨by decide,b9⟩,_,rfl,_,_,rfl,rfl,⟨bl,b6 bi⟩,_,_,rfl,rfl,_,_,rfl,rfl,(by show (0:Int)<26;decide),LET,_,97+gn,rfl,rfl,zL,(by rw [hg];exact bD (sD (by omega))),_,_,rfl,rfl,bO (by show x.length+1<=1000;omega),hR _ _ (Same.refl _) ?_⟩;rw [hg];rfl
    ·have ey:=uM (ws:=(Be 6).map λi=>x++one (97+((n/10+3*((0:Int)+(i:Nat)))%26).toNat)) (yl.trans (by rfl)) λi y b h1 h2=>by
      rw [As] at h2;cases et:(Be 6)[i]? with
      |none=>rw [et] at h2;cases h2
      |some t=>
       rw [et] at h2;cases h2;have ti:i=t:=by
        obtain ⟨hl,e⟩:=Ae.mp et
        simpa using e
       subst ti;obtain ⟨v,hv⟩:∃ v,(rngV 0 6)[i]?=some v:=⟨_,Ad (by rw [fT];have:=(Ae.mp et).1;simpa using this)⟩;exact hy i v y hv h1
     subst ey;refine k _ D H2 rfl (iY (λa ha b hb e=>?_) List.nodup_range) (λz hz=>?_) sm hD hD'
     ·have h1:=one_inj (yQ e)
      have ha':=Dj.mp ha;have hb':=Dj.mp hb;omega
     ·obtain ⟨t,ht,rfl⟩:=AS.mp hz
      have e:=bJ (n/10+3*((0:Int)+(t:Nat))) (m:=26) (by decide);refine aA9 xl1 (by show x.length+1<=8;omega) xc (λd hd=>?_);rw [lU] at hd;rw [AB.mp hd];omega
end
def iN:∀ {ss:List Str},sortedS ss=true->ss.Pairwise (λa b=>a.cps.toList<=b.cps.toList)
 |[],_=>.nil
 |x::r,h=>by
  have key:∀ (r:List Str) (x:Str),risingS x r=true->(∀ y∈r,x.cps.toList<=y.cps.toList)/\r.Pairwise (λa b=>a.cps.toList<=b.cps.toList):=by
   intro r
   induction r with
   |nil=>intro x _;exact ⟨(λ_ h=>nomatch h),.nil⟩
   |cons y r ih=>
    intro x hx;have hx':(!ltCps y.cps.toList x.cps.toList&&risingS y r)=true:=hx;simp only [Ce,Bool.not_eq_true'] at hx';obtain ⟨h1,h2⟩:=hx';rw [ltCps_eq] at h1;have le:x.cps.toList<=y.cps.toList:=List.not_lt.mp (of_decide_eq_false h1);obtain ⟨i1,i2⟩:=ih y h2;refine ⟨λz hz=>?_,.cons i1 i2⟩
    rcases AE.mp hz with rfl|hz
    ·exact le
    ·exact List.le_trans le (i1 z hz)
  obtain ⟨k1,k2⟩:=key r x h;exact .cons k1 k2
abbrev ltS (a b:Str):Prop:=a.cps.toList<b.cps.toList
structure Six (ss:List Str):Prop where
 l:ss.length=6
 up:ss.Pairwise ltS
 wr:∀ x∈ss,Wr x
structure Six0 (ss:List Str):Prop where
 l:ss.length=6
 nd:ss.Nodup
 wr:∀ x∈ss,Wr x
def aE7 {x y:Str}(h:x.cps.toList=y.cps.toList):x=y:=by
 obtain ⟨x⟩:=x;obtain ⟨y⟩:=y;exact congrArg Str.mk (Array.toList_inj.mp h)
def Six.of {ws ss:List Str}(h:Six0 ws)(p:ss.Perm ws)(s:sortedS ss=true):Six ss:=by
 refine ⟨p.length_eq.trans h.l,?_,λx hx=>h.wr x (p.mem_iff.mp hx)⟩;have n:ss.Nodup:=p.nodup_iff.mpr h.nd;refine (List.pairwise_and_iff.mpr ⟨iN s,n⟩).imp λ{a b} hab=>?_
 rcases List.le_iff_lt_or_eq.mp hab.1 with q|q
 ·exact q
 ·exact absurd (aE7 q) hab.2
def prS (ss:List Str)(q:Nat×Nat):Str×Str:=(ss.getD q.1 "",ss.getD q.2 "")
structure Qs (qs:List (Nat×Nat))(j k:Nat):Prop where
 pw:qs.Pairwise λq r=>q.1<r.1\/(q.1=r.1/\q.2<r.2)
 rg:∀ q∈qs,q.1<q.2/\q.2<6/\(q.1<j\/(q.1=j/\q.2<k))
def Qs.add {j k:Nat}(h:Qs qs j k)(jk:j<k)(k6:k<6):Qs (qs++[(j,k)]) j (k+1):=by
 refine ⟨List.pairwise_append.mpr ⟨h.pw,List.pairwise_singleton _ _,λq hq r hr=>?_⟩,λq hq=>?_⟩
 ·rw [AB.mp hr]
  exact (h.rg q hq).2.2
 ·rcases Br.mp hq with z|z
  ·have:=h.rg q z
   omega
  ·rw [AB.mp z]
   exact ⟨jk,k6,.inr ⟨rfl,Cn _⟩⟩
def Qs.more {j k:Nat}(h:Qs qs j k):Qs qs j (k+1):=⟨h.pw,λq hq=>by have:=h.rg q hq;omega⟩
def Qs.next {j k m:Nat}(h:Qs qs j k):Qs qs (j+1) m:=⟨h.pw,λq hq=>by have:=h.rg q hq;omega⟩
def Qs.nil:Qs [] 0 m:=⟨.nil,λq hq=>nomatch hq⟩
structure GoodPs (ps:List (Str×Str)):Prop where
 l:ps.length<=25
 r:aG3 ps
 ok:∀ p∈ps,Wr p.1/\Wr p.2/\ltS p.1 p.2
theorem Six.get (h:Six ss){i:Nat}(hi:i<6):ss[i]?=some (ss.getD i ""):=by
 have:=Ad (l:=ss) (i:=i) (by rw [h.l];exact hi);rw [this,Fn,this];rfl
theorem Six.lt (h:Six ss){i k:Nat}(ik:i<k)(hk:k<6):ltS (ss.getD i "") (ss.getD k ""):=by
 have h1:i<ss.length:=by have:=h.l;omega
 have h2:k<ss.length:=by have:=h.l;omega
 have:=Di.mp h.up i k h1 h2 ik;rw [Fn,Fn,Ad h1,Ad h2];exact this
theorem Six.w (h:Six ss){i:Nat}(hi:i<6):Wr (ss.getD i ""):=h.wr _ (Av (h.get hi))
theorem aD6 (h:ltS x y):x≠y:=λe=>by
 subst e;exact List.lt_irrefl _ h
def aD8 (h:ltS a c):ltP (a,b) (c,d):=by
 show HT.lexLtS [a,b] [c,d]=true;rw [HT.lexLtS_cons,if_neg (aD6 h)];exact decide_eq_true h
def aD7 (h:ltS b d):ltP (a,b) (a,d):=by
 show HT.lexLtS [a,b] [a,d]=true;rw [HT.lexLtS_cons,if_pos rfl,HT.lexLtS_cons,if_neg (aD6 h)];exact decide_eq_true h
def Qs.good {j k:Nat}(h:Qs qs j k)(s:Six ss)(l:qs.length<=25):GoodPs (qs.map (prS ss)):=by
 refine ⟨by rw [Ag];exact l,λi p q hp hq=>?_,λp hp=>?_⟩
 ·rw [As] at hp hq
  obtain ⟨x,hx,rfl⟩:=BB.mp hp;obtain ⟨y,hy,rfl⟩:=BB.mp hq;obtain ⟨l1,rfl⟩:=Ae.mp hx;obtain ⟨l2,rfl⟩:=Ae.mp hy;have pw:=Di.mp h.pw i (i+1) l1 l2 (Cn _);have r1:=h.rg _ (DE l1);have r2:=h.rg _ (DE l2)
  rcases pw with z|⟨z1,z2⟩
  ·exact aD8 (s.lt z (by omega))
  ·show ltP (ss.getD _ "",ss.getD _ "") (ss.getD _ "",ss.getD _ "")
   rw [z1];exact aD7 (s.lt z2 (by omega))
 ·obtain ⟨q,hq,rfl⟩:=AS.mp hp
  have r:=h.rg q hq;exact ⟨s.w (by omega),s.w r.2.1,s.lt r.1 r.2.1⟩
def PsT (H:Hp)(us:List V)(ps:List (Str×Str)):Prop:=us.length=ps.length/\∀ (i:Nat) u p,us[i]?=some u->ps[i]?=some p->∃ q,u=.ref q/\H q=some (.tup [.str p.1,.str p.2])
def PsT.nil :PsT H [] []:=⟨rfl,λi u p h=>by simp at h⟩
def PsT.keep (h:PsT H us ps)(s:Tk H H'):PsT H' us ps:=⟨h.1,λi u p hu hp=>by
 obtain ⟨q,e,sq⟩:=h.2 i u p hu hp;exact ⟨q,e,s _ _ sq⟩⟩
def PsT.add {p:Str×Str}(h:PsT H us ps)(k:H q=some (.tup [.str p.1,.str p.2])):PsT H (us++[.ref q]) (ps++[p]):=by
 refine ⟨by rw [AF,AF,h.1];rfl,λj x d hx hd=>?_⟩
 by_cases hj:j<us.length
 ·rw [Dk hj] at hx
  rw [Dk (by rw [<- h.1];exact hj)] at hd;exact h.2 j x d hx hd
 ·rw [Cu (by omega)] at hx
  rw [Cu (by rw [<- h.1];omega),<- h.1] at hd;obtain ⟨hl,e⟩:=Ae.mp hx;simp at hl;rw [hl] at hx hd;cases hx;cases hd;exact ⟨q,rfl,k⟩
def oZ (K:Aa):Sp:=λvs H Q _=>∃ (a:Addr) (ws:List Str) (c o:Int),vs=[.ref a,.int c,.int o]/\SqL K H a (ws.map V.str)/\Six0 ws/\1<=o /\
 ∀ p us ps H',Same H H'->H p=none->H' p=some (.tup us)->PsT H' us ps->GoodPs ps->Q (.ref p) H'
def fS {p:Addr}(s:Same H H')(n:H p=none):Same H (upd H' p o):=λb u e=>by
 rw [aH (λz=>by rw [z,n] at e;cases e)];exact s _ _ e
def same_none {p:Addr}(s:Same H H')(n:H' p=none):H p=none:=by
 cases e:H p with
 |none=>rfl
 |some o=>
  have:=s _ _ e;rw [n] at this;cases this
def rZ (h:Six ss){i:Nat}{e:Int}(hi:i<6)(he:e=(i:Int)):atI (ss.map V.str) e=some (.str (ss.getD i "")):=by
 rw [he];exact bD (by rw [As,h.get hi];rfl)
section
variable {P:Az}{w:World}{K:Aa}{mg:Str->Option Value}{base:Heap}
def iP:FnScope ["_law_wares_here","_law_cell","_law_often","_law_found","_law_some","_law_j","_law_k"] ["_law_wares_here","_law_cell","_law_often"] (aI sApart):=fnScOk (by decide +kernel)
def aAj (F:Fun K "_law_apart" "_law_apart" sApart f fd)(T:Txt mg)(cM:Cal P w K mg base CX0 1 "_law_mixed" ["_law_cell","_law_k"] fI):FnOk P w K mg base CX0 2 f fd ["_law_wares_here","_law_cell","_law_often"] (oZ K):=by
 refine F.ok iP (λvs H Q E h=>?_) (λcdv A outer s H vs Q E hr h=>?_)
 ·obtain ⟨_,_,_,_,rfl,_⟩:=h
  rfl
 ·obtain ⟨a,ws,c,o,rfl,ha,six0,o1,k⟩:=h
  refine ⟨_,(aD (aM (i:=3) iP.nd rfl (Or.inl rfl) (cJ aC))
   (aD (aM (i:=4) iP.nd rfl (Or.inl rfl) (aT kC rfl T.sorted' boot_sorted (aA (pv 0) aC)))
   (aD (dN AV rfl (eA rfl T.range (aA (aT bC rfl T.len BC (aA (pv 4) aC)) aC)) (bA (i:=5) iP.nd rfl (Or.inl rfl))
    (aG (dN AV rfl (fX rfl T.range (aA (aK bK (pv 5) aE) (aA (aT bC rfl T.len BC (aA (pv 4) aC)) aC))) (bA (i:=6) iP.nd rfl (Or.inl rfl))
     (aG (bF (aS dB (aK bG (aK aX (aJ cM hr rfl aQ (aA (pv 1) (aA (aK bK (aK bL aE (pv 5)) (pv 6)) aC))) aE) (pv 2)) aE (aV _))
      (aG (dG (iV AY Bc Bb bY (pv 3) (aA (aW (aA (bH bB (pv 4) (pv 5) (λ_ _=>rfl)) (aA (bH bB (pv 4) (pv 6) (λ_ _=>rfl)) aC))) aC))))
      aP)))))
   (aG (aL (aZ bR rfl T.tup' dS (aA (pv 3) aC))))))),?_⟩
  refine cut4 ?_
  intros
  refine ⟨zLn0,λd hd=>?_⟩;have s1:Same H (upd H d (.lst [])):=Same.upd hd;refine ⟨_,rfl,a,ws,rfl,s1.seq ha,by have:=six0.l;omega,λz ss pm st hz=>?_⟩;have six:=Six.of six0 pm st;have zd:z≠d:=λe=>by rw [e,aB] at hz;cases hz
  have hz0:H z=none:=same_none s1 hz;have l6:((ss.map V.str).length:Int)=6:=by rw [Ag,six.l];rfl
  refine ⟨_,rfl,z,_,rfl,.inl (SqL.of aB),_,rfl,by omega,by omega,?_⟩;rw [l6];refine dF (λi σ H'=>∃ (us:List V) (qs:List (Nat×Nat)) (v5 v6:Option V),σ=[some (.ref a),some (.int c),some (.int o),some (.ref d),some (.ref z),v5,v6]/\Same H H'/\H' d=some (.lst us)/\H' z=some (.lst (ss.map V.str))/\PsT H' us (qs.map (prS ss))/\Qs qs i 0/\qs.length<=5*min i 5)
   ⟨[],[],none,none,rfl,fS s1 hz0,by rw [aH (AQ zd)];exact aB,aB,PsT.nil,Qs.nil,by decide⟩ ?_ ?_
  ·rintro j σ H2 hj ⟨us,qs,v5,v6,rfl,s2,hd2,hz2,pt,hq,ql⟩
   have hj6:j<6:=hj;refine ⟨_,rfl,_,_,rfl,rfl,_,rfl,z,_,rfl,.inl (SqL.of hz2),_,_,rfl,by omega,?_⟩;rw [l6];refine dF (λi σ H'=>∃ (us:List V) (qs:List (Nat×Nat)) (v6:Option V),σ=[some (.ref a),some (.int c),some (.int o),some (.ref d),some (.ref z),some (.int (0+j)),v6]/\Same H H'/\H' d=some (.lst us)/\H' z=some (.lst (ss.map V.str))/\PsT H' us (qs.map (prS ss))/\Qs qs j (j+1+i)/\qs.length<=5*min j 5+i)
    ⟨us,qs,v6,rfl,s2,hd2,hz2,pt,⟨hq.pw,λq h=>by have:=hq.rg q h;omega⟩,by omega⟩ ?_ ?_
   ·rintro i σ H3 hi ⟨us,qs,v6,rfl,s3,hd3,hz3,pt,hq,ql⟩
    have hi6:j+1+i<6:=by omega
    have bj:Bt 64 ((0:Int)+j):=cZ 64 (c:=100) (by omega) (by omega);refine ⟨_,rfl,_,rfl,_,_,rfl,rfl,⟨bl,b6 bj⟩,_,rfl,_,_,rfl,rfl,c,_,rfl,by omega,by omega,λm m0 ml=>?_⟩;refine ⟨_,_,rfl,rfl,⟨by decide,b9⟩,_,rfl,_,_,rfl,rfl,(by show 0<o;omega),rfl,_,rfl,ite2 (λ_=>?_) (λ_=>?_)⟩
    ·refine ⟨_,rfl,.inl ⟨rfl,_,SqL.of hd3⟩,_,rfl,_,rfl,z,_,_,_,rfl,rfl,SqL.of hz3,rZ six (i:=j) hj6 (by omega),_,rfl,_,rfl,z,_,_,_,rfl,rfl,SqL.of hz3,rZ six (i:=j+1+i) hi6 (by omega),zLn2,λq hq'=>?_⟩
     have qd:q≠d:=λe=>by rw [e,hd3] at hq';cases hq'
     have qz:d≠z:=AQ zd;have ul:us.length=qs.length:=by rw [pt.1,Ag]
     have e1:(upd H3 q (.tup [.str (ss.getD j ""),.str (ss.getD (j+1+i) "")])) d=some (.lst us):=Same.upd hq' _ _ hd3;refine ⟨d,us,_,rfl,rfl,e1,bP (by omega),us++[.ref q],qs++[(j,j+1+i)],_,rfl,fS (s3.trans (Same.upd hq')) hd,aB,?_,?_,hq.add (by omega) hi6,by rw [AF,EO];omega⟩
     ·rw [aH zd]
      exact Same.upd hq' _ _ hz3
     ·rw [Bs]
      refine ((pt.keep (Same.upd hq').tk).keep (Tk.lst e1)).add ?_;rw [aH qd];exact aB
    ·exact ⟨us,qs,_,rfl,s3,hd3,hz3,pt,hq.more,by omega⟩
   ·rintro σ H3 ⟨us,qs,v6,rfl,s3,hd3,hz3,pt,hq,ql⟩
    exact ⟨us,qs,_,_,rfl,s3,hd3,hz3,pt,hq.next,by omega⟩
  ·rintro σ H2 ⟨us,qs,v5,v6,rfl,s2,hd2,hz2,pt,hq,ql⟩
   refine ⟨_,rfl,d,us,rfl,.inl ⟨SqL.of hd2,λl hl=>?_⟩⟩;exact k l us _ _ (s2.trans (Same.upd hl)) (same_none s2 hl) aB (pt.keep (Same.upd hl).tk) (hq.good six (by omega))
end
def dD (s:Same H H1)(k:SmB a H1 H2)(n:H a=none):Same H H2:=λb o e=>k b o (λz=>by rw [z,n] at e;cases e) (s b o e)
def SmB.tk (k:SmB a H H')(l:Lf H a):Tk H H':=λb ys e=>k b _ (λz=>by
 obtain ⟨_,h,_⟩:=l;rw [z,h] at e;cases e) e
def RmsT (H:Hp)(us:List V):Prop:=∀ u∈us,∃ q t b,u=.ref q/\H q=some (.tup [.int t,.int b])/\Rm t b
def RmsT.nil :RmsT H []:=λu h=>nomatch h
def RmsT.keep (h:RmsT H us)(s:Tk H H'):RmsT H' us:=λu hu=>by
 obtain ⟨q,t,b,e,sq,r⟩:=h u hu;exact ⟨q,t,b,e,s _ _ sq,r⟩
def RmsT.add {t b:Int}(h:RmsT H us)(k:H q=some (.tup [.int t,.int b]))(r:Rm t b):RmsT H (us++[.ref q]):=λu hu=>by
 rcases Br.mp hu with z|z
 ·exact h u z
 ·rw [AB.mp z]
  exact ⟨q,t,b,rfl,k,r⟩
structure Bn (H:Hp)(p r q:Addr)(rs us:List V)(ps:List (Str×Str)):Prop where
 hp:H p=some (.tup [.ref r,.ref q])
 hr:H r=some (.tup rs)
 rm:RmsT H rs
 l1:1<=rs.length
 l16:rs.length<=16
 hq:H q=some (.tup us)
 pt:PsT H us ps
 g:GoodPs ps
def Bn.keep {p r q:Addr}(h:Bn H p r q rs us ps)(s:Same H H'):Bn H' p r q rs us ps:=⟨s _ _ h.hp,s _ _ h.hr,h.rm.keep s.tk,h.l1,h.l16,s _ _ h.hq,h.pt.keep s.tk,h.g⟩
def gI (K:Aa):Sp:=λvs H Q _=>∃ (a:Addr) (ns:List Int) (w:Addr) (ws:List Str),vs=[.ref a,.ref w]/\SqL K H a (ns.map V.int)/\SqL K H w (ws.map V.str)/\Six0 ws/\∀ p r q rs us ps H',Same H H'->Bn H' p r q rs us ps->Q (.ref p) H'
def abs_nonneg (c:Int):0<=(if c<0 then -c else c):=by split<;>omega
def aIm (t:Int):G t 1=1:=by
 have h1:=jJ (a:=t) (b:=1) (by decide);have h2:=sJ (a:=t) (b:=1) (by decide);omega
def aBk {t:Int}(h:1<=t)(ht:Bt 100 t):Rm t 1:=⟨h,by decide,aIm t,ht,cZ 100 (c:=2) (by decide) (by decide),by decide⟩
def aHz {e:Int}(h0:0<=e)(h:e<4):∃ m:Int,atI [V.int 5,V.int 5,V.int 5,V.int 16] e=some (.int m)/\1<=m/\m<=16:=by
 obtain ⟨n,rfl⟩:=AG h0;have:n=0\/n=1\/n=2\/n=3:=by omega
 rcases this with rfl|rfl|rfl|rfl
 ·exact ⟨5,rfl,by decide,by decide⟩
 ·exact ⟨5,rfl,by decide,by decide⟩
 ·exact ⟨5,rfl,by decide,by decide⟩
 ·exact ⟨16,rfl,by decide,by decide⟩
section
variable {P:Az}{w:World}{K:Aa}{mg:Str->Option Value}{base:Heap}
def fG:FnScope ["_law_script","_law_wares_here","_law_left","_law_rooms","_law_k","_law_top","_law_pairs","_law_some","_law_j"] ["_law_script","_law_wares_here"] (aI sFree):=fnScOk (by decide +kernel)
def aDz (F:Fun K "_law_free_bench" "_law_free_bench" sFree f fd)(T:Txt mg)(cC:Cal P w K mg base CX0 1 "_law_cell_at" ["_law_script","_law_k"] (iM K))(cD:Cal P w K mg base CX0 1 "_law_digit" ["_law_left","_law_many"] gH)(cL:Cal P w K mg base CX0 1 "_law_lowest" ["_law_top","_law_bottom"] dZ):FnOk P w K mg base CX0 2 f fd ["_law_script","_law_wares_here"] (gI K):=by
 refine F.ok fG (λvs H Q E h=>?_) (λcdv A outer s H vs Q E hr h=>?_)
 ·obtain ⟨_,_,_,_,rfl,_⟩:=h
  rfl
 ·obtain ⟨a,ns,w,ws,rfl,ha,hw,six0,k⟩:=h
  refine ⟨_,(aD (aM (i:=2) fG.nd rfl (Or.inl rfl) (cJ (aA (aT gD rfl T.abs' oF (aA (aJ cC hr rfl aQ (aA (pv 0) (aA aE aC))) aC)) aC)))
   (aD (aM (i:=3) fG.nd rfl (Or.inl rfl) (cJ aC))
   (aD (dN AV rfl (eA rfl T.range (aA (aK bK aE (aJ cD hr rfl aQ (aA (pv 2) (aA aE aC)))) aC)) (bA (i:=4) fG.nd rfl (Or.inl rfl))
    (aD (aM (i:=5) fG.nd rfl (Or.inl rfl) (aK bK aE (aJ cD hr rfl aQ (aA (pv 2) (aA (aK lG aE aE) aC)))))
    (aG (dG (iV AY Bc Bb bY (pv 3) (aA (aJ cL hr rfl aQ (aA (pv 5) (aA (aK bK aE (aJ cD hr rfl aQ (aA (pv 2) (aA (aK lG aE aE) aC)))) aC))) aC))))))
   (aD (aM (i:=6) fG.nd rfl (Or.inl rfl) (cJ aC))
   (aD (aM (i:=2) fG.nd rfl (Or.inl rfl) (cJ (aA (aT gD rfl T.abs' oF (aA (aJ cC hr rfl aQ (aA (pv 0) (aA aE aC))) aC)) aC)))
   (aD (aM (i:=7) fG.nd rfl (Or.inl rfl) (aT kC rfl T.sorted' boot_sorted (aA (pv 1) aC)))
   (aD (dN AV rfl (eA rfl T.range (aA aE aC)) (bA (i:=8) fG.nd rfl (Or.inl rfl))
    (aG (dN AV rfl (fX rfl T.range (aA (aK bK (pv 8) aE) (aA aE aC))) (bA (i:=4) fG.nd rfl (Or.inl rfl))
     (aG (bF (aS dB (aJ cD hr rfl aQ (aA (pv 2) (aA aE aC))) aE (aV _))
      (aG (dG (iV AY Bc Bb bY (pv 6) (aA (aW (aA (bH bB (pv 7) (pv 8) (λ_ _=>rfl)) (aA (bH bB (pv 7) (pv 4) (λ_ _=>rfl)) aC))) aC))))
      aP)))))
   (aG (aL (aW (aA (aZ bR rfl T.tup' dS (aA (pv 3) aC)) (aA (aZ bR rfl T.tup' dS (aA (pv 6) aC)) aC)))))))))))),?_⟩
  refine cut8 ?_
  intros
  refine ⟨_,rfl,a,ns,1,rfl,ha,by decide,λc=>⟨c,rfl,zLn1,λl hl=>?_⟩⟩;have c0:=abs_nonneg c;generalize (if c<0 then -c else c)=n at *
  have s1:Same H (upd H l (.lst [.int n])):=Same.upd hl;refine ⟨zLn0,λd hd=>?_⟩;have dl:d≠l:=λe=>by rw [e,aB] at hd;cases hd
  have hd0:H d=none:=same_none s1 hd;have e18':(10:Int)^Int.toNat 18=1000000000000000000:=e18;refine ⟨_,rfl,l,16,rfl,⟨n,by rw [aH (AQ dl)];exact aB,c0⟩,by decide,b9,λm H1 m0 ml sb lf=>⟨_,_,rfl,rfl,_,rfl,by omega,by omega,?_⟩⟩;have s2:Same H H1:=dD (s1.trans (Same.upd hd)) sb hl;have hd1:H1 d=some (.lst []):=sb d _ dl aB;refine dF (λi σ H'=>∃ (rs:List V) (v4 v5:Option V),σ=[some (.ref a),some (.ref w),some (.ref l),some (.ref d),v4,v5,none,none,none]/\Same H H'/\Lf H' l/\H' d=some (.lst rs)/\rs.length=i/\RmsT H' rs)
   ⟨[],none,none,rfl,s2,lf,hd1,rfl,RmsT.nil⟩ ?_ ?_
  ·rintro i σ H2 hi ⟨rs,v4,v5,rfl,s3,lf2,hd2,rl,rm⟩
   refine ⟨_,rfl,_,_,rfl,rfl,⟨by decide,by decide,bk⟩,l,_,rfl,lf2,?_,?_,λt H3 t0 tl sb3 lf3=>⟨_,_,rfl,rfl,?_⟩⟩
   ·rw [e18'];decide
   ·rw [e18'];exact b9
   have hd3:=sb3 _ _ dl hd2;refine ⟨_,rfl,.inl ⟨rfl,_,SqL.of hd3⟩,_,rfl,_,rfl,_,_,rfl,rfl,⟨by decide,by decide,bk⟩,l,_,rfl,lf3,?_,?_,λb H4 b0 bl' sb4 lf4=>⟨_,_,rfl,rfl,?_⟩⟩
   ·rw [e18'];decide
   ·rw [e18'];exact b9
   rw [e18'] at bl' tl;refine ⟨1+t,1+b,rfl,by omega,by omega,b9 (by omega) (by omega),λp H5 s5 hp5 hp5'=>?_⟩;have hd4:=sb4 _ _ dl hd3;have hd5:=s5 _ _ hd4;have pd:p≠d:=λe=>by rw [e,hd4] at hp5;cases hp5
   refine ⟨d,rs,_,rfl,rfl,hd5,bP (by omega),?_⟩;refine ⟨rs++[.ref p],_,_,rfl,fS ((dD (dD s3 sb3 hl) sb4 hl).trans s5) hd0,(lf4.keep s5).own dl,aB,by rw [AF,rl];rfl,?_⟩;refine ((((rm.keep (sb3.tk lf2)).keep (sb4.tk lf3)).keep s5.tk).keep (Tk.lst hd5)).add (by rw [aH pd];exact hp5') (jW (by omega) (by omega) (cZ 100 (c:=2000000000000000000) (by omega) (by omega)) (cZ 100 (c:=2000000000000000000) (by omega) (by omega)))
  ·rintro σ H2 ⟨rs,v4,v5,rfl,s3,lf2,hd2,rl,rm⟩
   have rl1:1<=rs.length:=by omega
   have rl16:rs.length<=16:=by omega
   refine ⟨zLn0,λg hg=>?_⟩;have hg0:H g=none:=same_none s3 hg;have gd:g≠d:=λe=>by rw [e,hd2] at hg;cases hg
   have s4:=s3.trans (Same.upd (o:=.lst []) hg);refine ⟨_,rfl,a,ns,2,rfl,s4.seq ha,by decide,λc'=>⟨c',rfl,zLn1,λl2 hl2=>?_⟩⟩;have c0':=abs_nonneg c';generalize (if c'<0 then -c' else c')=n' at *
   have s5:=s4.trans (Same.upd (o:=.lst [.int n']) hl2);have hl20:H l2=none:=same_none s4 hl2;have lg:l2≠g:=λe=>by rw [e,aB] at hl2;cases hl2
   have ld:l2≠d:=λe=>by rw [e,Same.upd hg _ _ hd2] at hl2;cases hl2
   refine ⟨_,rfl,w,ws,rfl,s5.seq hw,by have:=six0.l;omega,λz ss pm st hz=>?_⟩;have six:=Six.of six0 pm st;have hz0:H z=none:=same_none s5 hz;have zl:z≠l2:=λe=>by rw [e,aB] at hz;cases hz
   have zg:z≠g:=λe=>by rw [e,Same.upd hl2 _ _ aB] at hz;cases hz
   have zd:z≠d:=λe=>by rw [e,Same.upd hl2 _ _ (Same.upd hg _ _ hd2)] at hz;cases hz
   have s6:=s5.trans (Same.upd (o:=.lst (ss.map V.str)) hz);refine ⟨6,rfl,by decide,by decide,?_⟩;refine dF (λi σ H'=>∃ (us:List V) (qs:List (Nat×Nat)) (v4 v8:Option V),σ=[some (.ref a),some (.ref w),some (.ref l2),some (.ref d),v4,v5,some (.ref g),some (.ref z),v8]/\Same H H'/\Lf H' l2/\H' d=some (.lst rs)/\RmsT H' rs/\H' g=some (.lst us)/\H' z=some (.lst (ss.map V.str))/\PsT H' us (qs.map (prS ss))/\Qs qs i 0/\qs.length<=5*min i 5)
    ⟨[],[],_,none,rfl,s6,⟨n',Same.upd hz _ _ aB,c0'⟩,Same.upd hz _ _ (Same.upd hl2 _ _ (Same.upd hg _ _ hd2)),((rm.keep (Same.upd hg).tk).keep (Same.upd hl2).tk).keep (Same.upd hz).tk,Same.upd hz _ _ (Same.upd hl2 _ _ aB),aB,PsT.nil,Qs.nil,by decide⟩ ?_ ?_
   ·rintro j σ H3 hj ⟨us,qs,v4,v8,rfl,s7,lf3,hd3,rm3,hg3,hz3,pt,hq,ql⟩
    have hj6:j<6:=hj;refine ⟨_,rfl,_,_,rfl,rfl,_,_,rfl,by omega,?_⟩;refine dF (λi σ H'=>∃ (us:List V) (qs:List (Nat×Nat)) (v4:Option V),σ=[some (.ref a),some (.ref w),some (.ref l2),some (.ref d),v4,v5,some (.ref g),some (.ref z),some (.int (0+j))]/\Same H H'/\Lf H' l2/\H' d=some (.lst rs)/\RmsT H' rs/\H' g=some (.lst us)/\H' z=some (.lst (ss.map V.str))/\PsT H' us (qs.map (prS ss))/\Qs qs j (j+1+i)/\qs.length<=5*min j 5+i)
     ⟨us,qs,v4,rfl,s7,lf3,hd3,rm3,hg3,hz3,pt,⟨hq.pw,λq h=>by have:=hq.rg q h;omega⟩,by omega⟩ ?_ ?_
    ·rintro i σ H4 hi ⟨us,qs,v4,rfl,s8,lf4,hd4,rm4,hg4,hz4,pt,hq,ql⟩
     have hi6:j+1+i<6:=by omega
     refine ⟨_,rfl,l2,2,rfl,lf4,by decide,b9,λm H5 m0 ml sb5 lf5=>?_⟩;have s9:=dD s8 sb5 hl20;have hd5:=sb5 _ _ (AQ ld) hd4;have hg5:=sb5 _ _ (AQ lg) hg4;have hz5:=sb5 _ _ zl hz4;have rm5:=rm4.keep (sb5.tk lf4);have pt5:=pt.keep (sb5.tk lf4);refine ⟨rfl,_,rfl,ite2 (λ_=>?_) (λ_=>?_)⟩
     ·refine ⟨_,rfl,.inl ⟨rfl,_,SqL.of hg5⟩,_,rfl,_,rfl,z,_,_,_,rfl,rfl,SqL.of hz5,rZ six (i:=j) hj6 (by omega),_,rfl,_,rfl,z,_,_,_,rfl,rfl,SqL.of hz5,rZ six (i:=j+1+i) hi6 (by omega),zLn2,λq hq'=>?_⟩
      have qg:q≠g:=λe=>by rw [e,hg5] at hq';cases hq'
      have ul:us.length=qs.length:=by rw [pt.1,Ag]
      have e1:(upd H5 q (.tup [.str (ss.getD j ""),.str (ss.getD (j+1+i) "")])) g=some (.lst us):=Same.upd hq' _ _ hg5;refine ⟨g,us,_,rfl,rfl,e1,bP (by omega),us++[.ref q],qs++[(j,j+1+i)],_,rfl,fS (s9.trans (Same.upd hq')) hg0,(lf5.keep (Same.upd hq')).own (AQ lg),?_,(rm5.keep (Same.upd hq').tk).keep (Tk.lst e1),aB,?_,?_,hq.add (by omega) hi6,by rw [AF,EO];omega⟩
      ·rw [aH (AQ gd)]
       exact Same.upd hq' _ _ hd5
      ·rw [aH zg]
       exact Same.upd hq' _ _ hz5
      ·rw [Bs]
       refine ((pt5.keep (Same.upd hq').tk).keep (Tk.lst e1)).add ?_;rw [aH qg];exact aB
     ·exact ⟨us,qs,_,rfl,s9,lf5,hd5,rm5,hg5,hz5,pt5,hq.more,by omega⟩
    ·rintro σ H4 ⟨us,qs,v4,rfl,s8,lf4,hd4,rm4,hg4,hz4,pt,hq,ql⟩
     exact ⟨us,qs,_,_,rfl,s8,lf4,hd4,rm4,hg4,hz4,pt,hq.next,by omega⟩
   ·rintro σ H3 ⟨us,qs,v4,v8,rfl,s7,lf3,hd3,rm3,hg3,hz3,pt,hq,ql⟩
    refine ⟨_,rfl,d,rs,rfl,.inl ⟨SqL.of hd3,λr hr'=>?_⟩⟩;have t1:=Same.upd (o:=.tup rs) hr';refine ⟨_,rfl,g,us,rfl,.inl ⟨SqL.of (t1 _ _ hg3),λq hq'=>⟨zLn2,λp hp=>?_⟩⟩⟩;have t2:=Same.upd (o:=.tup us) hq';have t3:=Same.upd (o:=.tup [.ref r,.ref q]) hp;refine k p r q rs us _ _ (((s7.trans t1).trans t2).trans t3) ⟨aB,t3 _ _ (t2 _ _ aB),((rm3.keep t1.tk).keep t2.tk).keep t3.tk,rl1,rl16,t3 _ _ aB,((pt.keep t1.tk).keep t2.tk).keep t3.tk,hq.good six (by omega)⟩
end
def vM {H:Hp}{q1 q2 q3:Addr}{t1 t2 t3 b3 e:Int}(h0:0<=e)(h:e<3)(h1:H q1=some (.tup [.int t1,.int 1]))(r1:Rm t1 1)(h2:H q2=some (.tup [.int t2,.int 1]))(r2:Rm t2 1)(h3:H q3=some (.tup [.int t3,.int b3]))(r3:Rm t3 b3) :
  ∃ q t b,atI [V.ref q1,V.ref q2,V.ref q3] e=some (.ref q)/\H q=some (.tup [.int t,.int b])/\Rm t b:=by
 obtain ⟨n,rfl⟩:=AG h0;have:n=0\/n=1\/n=2:=by omega
 rcases this with rfl|rfl|rfl
 ·exact ⟨q1,_,_,rfl,h1,r1⟩
 ·exact ⟨q2,_,_,rfl,h2,r2⟩
 ·exact ⟨q3,_,_,rfl,h3,r3⟩
section
variable {P:Az}{w:World}{K:Aa}{mg:Str->Option Value}{base:Heap}
def gK:FnScope ["_law_script","_law_wares_here","_law_number","_law_many","_law_rooms","_law_k","_law_drawn_here"] ["_law_script","_law_wares_here"] (aI sBench):=fnScOk (by decide +kernel)
def aAi (F:Fun K "_law_bench" "_law_bench" sBench f fd)(T:Txt mg)(cC:Cal P w K mg base CX0 2 "_law_cell_at" ["_law_script","_law_k"] (iM K))(cF:Cal P w K mg base CX0 2 "_law_free_bench" ["_law_script","_law_wares_here"] (gI K))(cM:Cal P w K mg base CX0 2 "_law_mixed" ["_law_cell","_law_k"] fI)(cU:Cal P w K mg base CX0 2 "_law_much" ["_law_number"] mH)(cA:Cal P w K mg base CX0 2 "_law_apart" ["_law_wares_here","_law_cell","_law_often"] (oZ K)):FnOk P w K mg base CX0 3 f fd ["_law_script","_law_wares_here"] (gI K):=by
 refine F.ok gK (λvs H Q E h=>?_) (λcdv A outer s H vs Q E hr h=>?_)
 ·obtain ⟨_,_,_,_,rfl,_⟩:=h
  rfl
 ·obtain ⟨a,ns,w,ws,rfl,ha,hw,six0,k⟩:=h
  refine ⟨_,(aD (bF (aS dB (aK bG (aJ cC hr rfl aQ (aA (pv 0) (aA aE aC))) aE) aE (aV _))
    (aG (aL (aJ cF hr rfl aQ (aA (pv 0) (aA (pv 1) aC)))))
    aP)
   (aD (aM (i:=2) gK.nd rfl (Or.inl rfl) (aJ cM hr rfl aQ (aA (aJ cC hr rfl aQ (aA (pv 0) (aA aE aC))) (aA aE aC))))
   (aD (aM (i:=3) gK.nd rfl (Or.inl rfl) (aK bK aE (aK bG (pv 2) (bH bB (cJ (aA aE (aA aE (aA aE (aA aE aC))))) (aK bG (aK aX (pv 2) aE) aE) (λ_ _=>rfl)))))
   (aD (aM (i:=4) gK.nd rfl (Or.inl rfl) (cJ aC))
   (aD (dN AV rfl (eA rfl T.range (aA (pv 3) aC)) (bA (i:=5) gK.nd rfl (Or.inl rfl))
    (aD (aM (i:=6) gK.nd rfl (Or.inl rfl) (aJ cM hr rfl aQ (aA (aJ cC hr rfl aQ (aA (pv 0) (aA aE aC))) (aA (aK bK (pv 5) aE) aC))))
    (aG (dG (iV AY Bc Bb bY (pv 4) (aA (bH bB (cJ (aA (aW (aA (aK bK aE (aK bG (aK aX (pv 6) aE) aE)) (aA aE aC))) (aA (aW (aA (aK lG aE aE) (aA aE aC))) (aA (aJ cU hr rfl aQ (aA (aK aX (pv 6) aE) aC)) aC)))) (aK bG (pv 6) aE) (λ_ _=>rfl)) aC))))))
   (aG (aL (aW (aA (aZ bR rfl T.tup' dS (aA (pv 4) aC)) (aA (aJ cA hr rfl aQ (aA (pv 1) (aA (aJ cC hr rfl aQ (aA (pv 0) (aA aE aC))) (aA (aK bK aE (aK bG (aK aX (pv 2) aE) aE)) aC)))) aC)))))))))),?_⟩
  refine cut6 ?_
  intros
  refine ⟨_,rfl,a,ns,0,rfl,ha,by decide,λc=>⟨_,_,rfl,rfl,(by show (0:Int)<2;decide),rfl,_,rfl,ite2 (λ_=>?_) (λ_=>?_)⟩⟩
  ·exact ⟨_,rfl,_,rfl,a,ns,w,ws,rfl,ha,hw,six0,k⟩
  refine ⟨_,rfl,a,ns,1,rfl,ha,by decide,λc1=>⟨c1,1,rfl,by decide,by decide,λn n0 nl=>?_⟩⟩;have e4:=bJ (n/16) (m:=4) (by decide);obtain ⟨m,hm,m1,m16⟩:=aHz e4.1 e4.2;have em:=bJ n (m:=m) (by omega);refine ⟨_,rfl,zLn4,λz hz=>⟨_,rfl,_,_,rfl,rfl,⟨by decide,b9⟩,_,_,rfl,rfl,(by show (0:Int)<4;decide),z,_,_,_,rfl,rfl,SqL.of aB,hm,_,_,rfl,rfl,(by show 0<m;omega),_,_,rfl,rfl,?_⟩⟩;have s1:Same H (upd H z (.lst [.int 5,.int 5,.int 5,.int 16])):=Same.upd hz;refine ⟨zLn0,λd hd=>?_⟩;have hd0:H d=none:=same_none s1 hd;have s2:=s1.trans (Same.upd (o:=.lst []) hd);refine ⟨_,rfl,_,rfl,by omega,by omega,?_⟩;refine dF (λi σ H'=>∃ (rs:List V) (v5 v6:Option V),σ=[some (.ref a),some (.ref w),some (.int n),some (.int (1+n%m)),some (.ref d),v5,v6]/\Same H H'/\H' d=some (.lst rs)/\rs.length=i/\RmsT H' rs)
   ⟨[],none,none,rfl,s2,aB,rfl,RmsT.nil⟩ ?_ ?_
  ·rintro i σ H2 hi ⟨rs,v5,v6,rfl,s3,hd2,rl,rm⟩
   refine ⟨_,rfl,a,ns,1,rfl,s3.seq ha,by decide,λc2=>⟨_,rfl,_,_,rfl,rfl,c2,_,rfl,by omega,by omega,λg g0 gl=>?_⟩⟩;have e40:=bJ (g/8) (m:=40) (by decide);have e3:=bJ g (m:=3) (by decide);have g8:0<=g/8:=DT g0 (by decide);have g8l:g/8<2147483647:=Fv (BI _ g0) gl;refine ⟨_,rfl,.inl ⟨rfl,_,SqL.of hd2⟩,_,rfl,_,_,rfl,rfl,⟨by decide,b9⟩,_,_,rfl,rfl,(by show (0:Int)<40;decide),_,_,rfl,rfl,zLn2,λq1 h1=>?_⟩;have t1:=Same.upd (o:=.tup [.int (1+g/8%40),.int 1]) h1;refine ⟨_,_,rfl,rfl,⟨by decide,by decide,bk⟩,zLn2,λq2 h2=>?_⟩;have t2:=Same.upd (o:=.tup [.int ((10:Int)^Int.toNat 18),.int 1]) h2;refine ⟨_,rfl,_,_,rfl,rfl,⟨by decide,b9⟩,g/8,rfl,g8,g8l,λt b q3 H3 r3 _ t3 h3 h3'=>⟨zLn3,λy hy=>?_⟩⟩;have t4:=Same.upd (o:=.lst [.ref q1,.ref q2,.ref q3]) hy;have tt:=((t1.trans t2).trans t3).trans t4;obtain ⟨q,t',b',hq,hq',rq⟩:=vM e3.1 e3.2 (t4 _ _ (t3 _ _ (t2 _ _ aB))) (aBk (by omega) (cZ 100 (c:=2000000000000000000) (by omega) (by omega))) (t4 _ _ (t3 _ _ aB)) (aBk (by rw [e18];decide) (by rw [e18];exact cZ 100 (c:=2000000000000000000) (by decide) (by decide))) (t4 _ _ h3') r3;have hd3:=tt _ _ hd2;have qd:q≠d:=λe=>by rw [e,hd3] at hq';cases hq'
   refine ⟨_,rfl,_,_,rfl,rfl,(by show (0:Int)<3;decide),y,_,_,_,rfl,rfl,SqL.of aB,hq,d,rs,_,rfl,rfl,hd3,bP (by omega),?_⟩;exact ⟨rs++[.ref q],_,_,rfl,fS (s3.trans tt) hd0,aB,by rw [AF,rl];rfl,((rm.keep tt.tk).keep (Tk.lst hd3)).add (by rw [aH qd];exact hq') rq⟩
  ·rintro σ H2 ⟨rs,v5,v6,rfl,s3,hd2,rl,rm⟩
   have e60:=bJ (n/64) (m:=60) (by decide);refine ⟨_,rfl,d,rs,rfl,.inl ⟨SqL.of hd2,λr hr'=>?_⟩⟩;have t1:=Same.upd (o:=.tup rs) hr';refine ⟨_,rfl,_,rfl,a,ns,2,rfl,(s3.trans t1).seq ha,by decide,λc3=>⟨_,rfl,_,_,rfl,rfl,⟨by decide,b9⟩,_,_,rfl,rfl,(by show (0:Int)<60;decide),_,_,rfl,rfl,?_⟩⟩;refine ⟨w,ws,c3,_,rfl,(s3.trans t1).seq hw,six0,by omega,λq us ps H3 t2 hq0 hq pt g=>⟨zLn2,λp hp=>?_⟩⟩;have t3:=Same.upd (o:=.tup [.ref r,.ref q]) hp;exact k p r q rs us ps _ (((s3.trans t1).trans t2).trans t3) ⟨aB,t3 _ _ (t2 _ _ aB),((rm.keep t1.tk).keep t2.tk).keep t3.tk,by omega,by omega,t3 _ _ hq,pt.keep t3.tk,g⟩
end
end K33
namespace L2
open PySem PySem.Spec PyProof.Rows
def Itr3 (lo c:Int)(n:Nat):It:=⟨λi _=>i<n,λi H x H'=>H'=H/\x=.int (lo+(i:Nat)*c),λi _=>n<=i⟩
def iRng3 (ta:TA):TI:=λσ H R=>ta σ H λvs H1=>∃ i j c:Int,vs=[.int i,.int j,.int c]/\(-(2^20)<=i/\i<=2^20/\-(2^20)<=j/\j<=2^20/\0<c/\c<=2^20)/\R (Itr3 i c (if i<j then (j-i-1)/c+1 else 0).toNat) H1
def tSortR (K:Aa)(te:TE):TE:=λσ H Q=>te σ H λx H1=>∃ (a:Addr) (ns:List Int),x=.ref a/\SqL K H1 a (ns.map V.int)/\ns.length<64 /\
 ∀ (p:Addr) (ns':List Int),ns'.Perm ns->ns'.Pairwise (· ≥ ·)->H1 p=none->Q (.ref p) (upd H1 p (.lst (ns'.map V.int)))
abbrev rngObj (n:Int)(t u v:Tok):Obj:={ cls:=.type "range",data:=.fields #[.int 0 t,.int n u,.int 1 v] }
abbrev rngIt (n:Int):Obj:={ cls:=.type "range_iterator",data:=.fields #[rawInt (n-1),rawInt n,rawInt (-1)] }
section
variable {prog:Az}{w:World}{A:Around}{E:Value->Shared->Prop}{s:Shared}
end
def iRev (ta:TA):TI:=λσ H R=>ta σ H λvs H1=>∃ n:Int,vs=[.int n]/\0<=n/\n<2^62/\R (Itr3 (n-1) (-1) n.toNat) H1
def Itv (K:Aa)(a:Addr)(n:Nat):It:=
 ⟨λi H=>∃ xs,SqL K H a xs/\xs.length=n/\i<n,λi H x H'=>H'=H/\∀ xs,SqL K H a xs->xs[n-1-i]?=some x,λi H=>n<=i⟩
def iRevL (K:Aa)(ta:TA):TI:=λσ H R=>ta σ H λvs H1=>∃ a xs,vs=[.ref a]/\SqL K H1 a xs/\R (Itv K a xs.length) H1
end L2
namespace L2
open PySem PySem.Spec PyProof.Rows PySem.W
structure Cal1 (P:Az)(w:World)(K:Frag)(mg:Str->Option Value)(base:Heap)(CX:CXT)(k:Nat)(x:Str)(ps:List Str)(sp:Sp)(dv:V):Prop where
 ex:∃ (f:Addr) (fd:Bf) (u:Value),mg x=some (.ref f)/\keepIn K (.ref f)=true/\Binds K fd ps [u]/\RelV dv u/\FnOk P w K mg base CX k f fd ps sp
end L2
namespace L2
open PySem PySem.Spec PyProof.Rows
def jY {lo:Int}{n:Nat}{g:TG}{tb:TS}{D:Ends}{σ:St}{H:Hp}(Pv:Nat->St->Hp->Prop)(h0:Pv 0 σ H)
  (hs:∀ i σ H (D':Ends),(∀ σ' H',Pv (i+1) σ' H'->D'.nx σ' H')->i<n->Pv i σ H->g (.int (lo+i)) σ H (tb D')) (hd:∀ σ H,Pv n σ H->D.nx σ H) :
  ∃ W:Nat->Nat->St->Hp->Prop,(∃ m,W 0 m σ H)/\∀ i m σ H,W i m σ H ->
   ((Itr lo n).stop i H/\D.nx σ H)\/((Itr lo n).go i H/\∃ N:St->Hp->Prop,(∀ σ' H',N σ' H'->∃ m',m'<m/\W (i+1) m' σ' H')/\∀ x H',(Itr lo n).yld i H x H'->g x σ H' λσ2 H2=>tb { D with nx:=N,ct:=N,bk:=D.nx } σ2 H2):=
 dF Pv h0 (λi σ H hi p=>hs i σ H { D with nx:=Pv (i+1),ct:=Pv (i+1),bk:=D.nx } (λ_ _ h=>h) hi p) hd
def nP {d:Addr}{ob:Obj}{kvs:List (Key×V)}{g:TG}{tb:TS}{D:Ends}{σ:St}{H:Hp}(Pv:Nat->St->Hp->Prop)(h0:Pv 0 σ H)(hl:∀ i σ H,i<=kvs.length->Pv i σ H->H d=some (.frz ob (.dK kvs)))
  (hs:∀ i kv σ H (D':Ends),(∀ σ' H',Pv (i+1) σ' H'->D'.nx σ' H')->kvs[i]?=some kv->Pv i σ H->g (kV kv.1) σ H (tb D')) (hd:∀ σ H,Pv kvs.length σ H->D.nx σ H) :
  ∃ W:Nat->Nat->St->Hp->Prop,(∃ m,W 0 m σ H)/\∀ i m σ H,W i m σ H ->
   ((Itd d ob kvs).stop i H/\D.nx σ H)\/((Itd d ob kvs).go i H/\∃ N:St->Hp->Prop,(∀ σ' H',N σ' H'->∃ m',m'<m/\W (i+1) m' σ' H')/\∀ v H',(Itd d ob kvs).yld i H v H'->g v σ H' λσ2 H2=>tb { D with nx:=N,ct:=N,bk:=D.nx } σ2 H2):=
 aA0 Pv h0 hl (λi x σ H hx p=>hs i x σ H { D with nx:=Pv (i+1),ct:=Pv (i+1),bk:=D.nx } (λ_ _ h=>h) hx p) hd
end L2
namespace L2
open PySem PySem.Spec PyProof.Rows PySem.W
structure CalK (P:Az)(w:World)(K:Frag)(mg:Str->Option Value)(base:Heap)(CX:CXT)(k:Nat)(x:Str)(ps ks:List Str)(gV:List V->List V->List V)(sp:Sp):Prop where
 ex:∃ (f:Addr) (fd:Bf) (g:List Value->List Value->List Value),mg x=some (.ref f)/\keepIn K (.ref f)=true/\KBinds K fd ps ks g gV/\FnOk P w K mg base CX k f fd ps sp
section
variable {X:Cx}
end
end L2
namespace K33
open PySem PySem.Spec PyProof.Rows L2 GM TM
def kW (K:Aa):Sp:=λvs H Q _=>∃ v,vs=[v]/\((IsiD K H v "str" false/\Q (.bl false) H)\/∃ x:Str,v=.str x/\x.length<=1000/\(Wr x->∀ H',Same H H'->Q (.bl true) H')/\(¬ Wr x->∀ H',Same H H'->Q (.bl false) H'))
section
variable {P:Az}{w:World}{K:Aa}{mg:Str->Option Value}{base:Heap}
def nd1:(["sign"]:List Str).Nodup:=by decide +kernel
theorem aEa (c:Nat):(!(AH.Str.occurrences LET ⟨#[c]⟩ 0 LET.length 1).isEmpty)=decide (97<=c/\c<=122):=by
 rw [StrLaws.found_one];have e:LET.cps.toList=(Be 26).map (97 + ·):=by decide +kernel
 rw [e];refine decide_eq_decide.mpr ⟨λh=>?_,λh=>?_⟩
 ·obtain ⟨j,hj,rfl⟩:=AS.mp h
  have:=Dj.mp hj;omega
 ·exact AS.mpr ⟨c-97,Dj.mpr (by omega),by omega⟩
def zE:FnScope ["thing"] ["thing"] (aI sIsWare):=fnScOk (by decide +kernel)
def wM {tk tk':Tok}(F:Fun K "is_ware" "is_ware" sIsWare f fd)(T:Txt mg)(mM:mg "MOST_LETTERS" = some (.int 8 tk))(mL:mg "LETTERS" = some (.str LET tk')):FnOk P w K mg base CX0 1 f fd ["thing"] (kW K):=by
 refine F.ok zE (λvs H Q E h=>?_) (λcdv A outer s H vs Q E hr h=>?_)
 ·obtain ⟨_,rfl,_⟩:=h
  rfl
 ·obtain ⟨v,rfl,h⟩:=h
  refine ⟨_,(aD (bF (eD (cV (aT yK rfl T.isi BA (aA (pv 0) (aA (eM (v:=.ty "str") rfl T.str' aB8 rfl) aC)))))
    (aG (aL eY)) aP)
   (aG (aL (iW (rB aDl aDl aE (aT oB rfl T.len BC (aA (pv 0) aC)) (dP (v:=.int 8) rfl mM ⟨_,rfl⟩)) (fY (aT (oE rfl) rfl T.all' boot_all (aA (vW (N':=["sign"]) (cl:=[]) (λ_=>[none]) rfl rfl (by decide +kernel) (by decide +kernel) (jZ (by decide +kernel)) (λ_ _=>oH)
      (aBn (pv 0)) (λ_ _ _ _ _=>bA (i:=0) nd1 rfl (Or.inl rfl)) (λ_ _ _ _ _=>fW) (λ_ _ _ _ _=>dH wB (pv 0) (dP (v:=.str LET) rfl mL ⟨_,rfl⟩) rfl)) aC))))))),?_⟩
  rcases h with ⟨hi,hb⟩|⟨x,rfl,hl,kT,kF⟩
  ·exact ⟨_,rfl,v,"str",false,rfl,hi,_,rfl,iteT hb⟩
  ·have hz:=bO hl
   have le:=lenC x;refine ⟨_,rfl,_,"str",true,rfl,.inl .str_str,_,rfl,iteF ?_⟩;refine ⟨_,rfl,x,rfl,hz,_,_,rfl,rfl,_,rfl,ite2 (λh1=>?_) (λh1=>?_)⟩
   ·have h1':(1:Int)<=(x.length:Int):=of_decide_eq_true h1
    refine ⟨_,_,rfl,rfl,_,rfl,?_⟩
    by_cases h2:(x.length:Int)<=8
    ·rw [decide_eq_true h2]
     refine iteT ⟨_,rfl,x,rfl,λD hD=>?_⟩;refine aA5 (λi ys H'=>ys=((cps x).take i).map (λc=>V.bl (decide (97<=c/\c<=122)))/\Same H H'/\H' D=some (.lst ys)) ⟨by simp,Same.upd hD,aB⟩ ?_ ?_ ?_
     ·rintro i ys H' hi ⟨rfl,_,hD'⟩
      refine ⟨hD',?_⟩;rw [Ag,El];exact bP (by omega)
     ·rintro i c ys H' hc ⟨rfl,sm,hD'⟩
      refine ⟨(Keep.refl _).set rfl,?_⟩;unfold zA;dsimp only;rw [if_pos rfl];refine ⟨_,rfl,_,_,rfl,rfl,hD',Nx.mk (Ae.mp hc).1 ⟨?_,λb o hb=>?_,aB⟩⟩
      ·rw [aEa,CQ,hc,Bs]
       rfl
      ·have ne:b≠D:=λz=>by rw [z,hD] at hb;cases hb
       rw [aH ne];exact sm b o hb
     ·rintro ys H' ⟨rfl,sm,hD'⟩
      rw [EE (Ak _)] at hD';refine ⟨D,(cps x).map (λc=>decide (97<=c/\c<=122)),rfl,SqL.of (by rw [CC];exact hD'),?_⟩
      by_cases a:∀ c∈cps x,97<=c/\c<=122
      ·have e:((cps x).map (λc=>decide (97<=c/\c<=122))).all id=true:=by
        rw [List.all_map,CJ];exact λc hc=>decide_eq_true (a c hc)
       rw [e];exact kT ⟨by omega,by omega,a⟩ _ sm
      ·have e:((cps x).map (λc=>decide (97<=c/\c<=122))).all id=false:=by
        rw [Bool.eq_false_iff,Ne,List.all_map,CJ];exact λh=>a λc hc=>of_decide_eq_true (h c hc)
       rw [e];exact kF (λz=>a z.lt) _ sm
    ·rw [decide_eq_false h2]
     exact iteF (kF (λz=>h2 (by have:=z.l8;omega)) _ (Same.refl _))
   ·have h1':¬ (1:Int)<=(x.length:Int):=λz=>h1 (decide_eq_true z)
    exact ⟨_,rfl,iteF (kF (λz=>h1' (by have:=z.l1;omega)) _ (Same.refl _))⟩
end
end K33
namespace L2
open PySem PySem.Spec PyProof.Rows
def Ite (K:Aa)(b:Addr):It:=
  ⟨λi H=>∃ ys,SqL K H b ys/\i<ys.length,
   λi H v H'=>∃ T,H T=none/\v=.ref T/\∀ ys,SqL K H b ys->∃ y,ys[i]?=some y/\H'=upd H T (.tup [.int i,y]),
   λi H=>∃ ys,SqL K H b ys/\i=ys.length⟩
def EnuSt (n b:Nat)(i:Nat)(h:Heap):Prop:=(∃ old,IsEnum h (n+1) n (i:Int) old)/\h.IsListIter n b i
def iEnu (K:Aa)(ta:TA):TI:=λσ H R=>ta σ H λvs H1=>∃ b,vs=[.ref b]/\(∃ ys,SqL K H1 b ys)/\R (Ite K b) H1
end L2
namespace HT
open PySem PySem.Spec PyProof.Rows
open AutoSeq1 (wpAny_loadPart')
section
variable {prog:Az}{w:World}{A:Around}{E:Value->Shared->Prop}{s:Shared}
end
end HT
namespace L2
open PySem PySem.Spec PyProof.Rows
def IteT (K:Aa)(b:Addr):It:=
  ⟨λi H=>∃ ys,SqT K H b ys/\i<ys.length,
   λi H v H'=>∃ T,H T=none/\v=.ref T/\∀ ys,SqT K H b ys->∃ y,ys[i]?=some y/\H'=upd H T (.tup [.int i,y]),
   λi H=>∃ ys,SqT K H b ys/\i=ys.length⟩
def EnuStT (n b:Nat)(i:Nat)(h:Heap):Prop:=(∃ old,IsEnum h (n+1) n (i:Int) old)/\h.IsTupleIter n b i
def iEnuT (K:Aa)(ta:TA):TI:=λσ H R=>ta σ H λvs H1=>∃ b,vs=[.ref b]/\(∃ ys,SqT K H1 b ys)/\R (IteT K b) H1
def Same.seqt {K:Aa}{H H':Hp}{a:Addr}{xs:List V}(e:Same H H')(h:SqT K H a xs):SqT K H' a xs:=by
 rcases h with h|h
 ·rcases h with h|⟨o,h⟩
  ·exact .inl (.inl (e _ _ h))
  ·exact .inl (.inr ⟨o,e _ _ h⟩)
 ·exact .inr h
def yF {K:Aa}{a b:Addr}{xs ys:List V}{D:Addr}{g:TG}{te:TE}{σ0:St}{QD:Hp->Prop}{H1:Hp}(ha:SqT K H1 a xs)(hb:SqT K H1 b ys)(hn:xs.length=ys.length)(Pr:Nat->V->Prop)(hD:H1 D=none)(hl:ys.length<=1000)
  (hs:∀ (i:Nat) x y T Hx (R:VK),xs[i]?=some x->ys[i]?=some y->Same H1 Hx->Hx T=some (.tup [x,y])->(∀ v H4,Same Hx H4->Pr i v->R v H4)->g (.ref T) σ0 Hx λσ2 H2=>Keep σ0 σ2/\te σ2 H2 R)
  (hd:∀ zs H',Same H1 H'->H' D=some (.lst zs)->zs.length=xs.length->(∀ (i:Nat) z,zs[i]?=some z->Pr i z)->QD H') :
  ∃ W:Nat->Nat->List V->Hp->Prop,(∃ m,W 0 m [] (upd H1 D (.lst [])))/\∀ i m zs H,W i m zs H->H D=some (.lst zs)/\zs.length<Ax /\
   (((Itz2 K a b).stop i H/\QD H)\/((Itz2 K a b).go i H/\∀ x H',(Itz2 K a b).yld i H x H'->g x σ0 H' λσ2 H2=>Keep σ0 σ2/\zA σ2 H2 λb H3=>
    if b=true then te σ2 H3 λy H4=>H4 D=some (.lst zs)/\∃ m',m'<m/\W (i+1) m' (zs++[y]) (upd H4 D (.lst (zs++[y]))) else ∃ m',m'<m/\W (i+1) m' zs H3)):=by
 refine ⟨λi m zs H=>m=xs.length-i/\i<=xs.length/\Same H1 H/\H D=some (.lst zs)/\zs.length=i/\∀ (j:Nat) z,zs[j]?=some z->Pr j z,
  ⟨_,rfl,BK _,Same.upd hD,aB,rfl,λj z h=>by simp at h⟩,?_⟩
 rintro i m zs H ⟨rfl,hi,sm,hDH,zl,zp⟩
 refine ⟨hDH,bP (by omega),?_⟩
 by_cases hlt:i<xs.length
 ·refine .inr ⟨⟨xs,ys,sm.seqt ha,sm.seqt hb,hlt,by omega⟩,λx H' y=>?_⟩
  obtain ⟨T,hT,rfl,y⟩:=y;obtain ⟨x',y',e1,e2,rfl⟩:=y xs ys (sm.seqt ha) (sm.seqt hb);have st:=Same.upd (o:=.tup [x',y']) hT;have:=hs i x' y' T _ (λy H4=>H4 D=some (.lst zs)/\∃ m',m'<xs.length-i/\(m'=xs.length-(i+1)/\i+1<=xs.length/\Same H1 (upd H4 D (.lst (zs++[y])))/\(upd H4 D (.lst (zs++[y]))) D=some (.lst (zs++[y]))/\(zs++[y]).length=i+1/\∀ (j:Nat) z,(zs++[y])[j]?=some z->Pr j z)) e1 e2 (sm.trans st) aB (λv H4 s4 pv=>?_)
  ·exact this
  ·refine ⟨s4 _ _ (st _ _ hDH),xs.length-(i+1),by omega,rfl,hlt,λb o e=>?_,aB,by rw [AF,zl];rfl,λj z hz=>?_⟩
   ·rw [aH (bE e hD)]
    exact s4 _ _ (st _ _ (sm _ _ e))
   ·by_cases hj:j<zs.length
    ·rw [Dk hj] at hz
     exact zp j z hz
    ·have jl:=(Ae.mp hz).1
     rw [AF] at jl;have jl':j<zs.length+1:=jl;have ej:j=zs.length:=by omega
     subst ej;rw [Cu (Ak _),Nat.sub_self] at hz;obtain rfl:v=z:=by simpa using hz
     rw [zl];exact pv
 ·have e:i=xs.length:=by omega
  subst e;exact .inl ⟨⟨xs,ys,sm.seqt ha,sm.seqt hb,.inl rfl⟩,hd zs H sm hDH zl zp⟩
def rNeTs (K:Aa):R2:=λx y H Q=>∃ a b xs,x=.ref a/\y=.ref b/\SqT K H a xs/\SqT K H b xs/\(∀ v∈xs,Sf v)/\Q (.bl false) H
section
variable {X:Cx}{pins:List (Addr×Obj)}{σ:St}{H:Hp}{s:Shared}{A:Around}{E:Value->Shared->Prop}
structure KDict (w:World)(K:Aa)(a:Addr)(f:Str->Option Addr):Prop where
 lo:(a==DO)=false
 ex:∃ es n,K.lookup a=some ⟨.type "dict",none,.dict es n,#[]⟩/\PySem.W.KeysLit w.params es.toList/\∀ x,findBy EZ es x=(f x).map AD
def aEd (D:KDict X.w X.K a f)(I:Inv X pins σ H s)(h:∀ s',Inv X pins σ H s'->Q (((f x).map AD).getD .none) s') :
  wpAny (model X.prog X.w) A (call (.builtin "dict.get") [.ref a,.str x t]) Q E s:=by
 obtain ⟨es,n,hl,hk,hf⟩:=D.ex;have hm:=PySem.W.mapOf_K (prog:=X.prog) (w:=X.w) I.kIn hl hk;have q:∀ s',Inv X pins σ H s'->Q ((findBy EZ es x).getD .none) s':=λs' I'=>by rw [hf x];exact h s' I'
 exact call_meetsIn DH hm.typeIs PySem.F.entry_dict_get (PySem.F.args_dict_get_2 _ _) (meets_dict_get (strKind X.prog X.w) a (strKind_is X.prog X.w x t) D.lo) ⟨_,hm,q _ (I.tok _)⟩
end
def Inv.thaw {σ:St}(I:Inv X pins σ H s)(hd:H d=some (.frz ob (.dK kvs)))(h0:∀ o u,X.H₀ d≠some (.frz o u)):Inv X pins σ (upd H d (.dK kvs)) s:=by
 have ne:∀ b,H b=none->b≠d:=λb n z=>by rw [z,hd] at n;cases n
 have nd:∀ b u,H b=some u->u≠.frz ob (.dK kvs)->b≠d:=λb u e n z=>by
  rw [z,hd] at e;exact n (AK e).symm
 have st:∀ {a:Addr} {u:HO},ObjOk X.prog X.w H s.heap a u->ObjOk X.prog X.w (upd H d (.dK kvs)) s.heap a u:=λx=>
  x.stay (λc v _ q=>q) (λc q=>by rw [aH (nd c _ q (by intro z;cases z))];exact q) λc xs q=>by rw [aH (nd c _ q (by intro z;cases z))];exact q
 refine ⟨I.ok,I.os,I.bare,⟨I.base.keep,I.base.slot,λb o e n hx=>?_,I.base.there,λb xs e=>?_,λb o u e=>?_,λb ps e=>?_⟩,I.loc,I.cell,?_,λx c e=>?_,λp hp=>?_,λb u e=>?_,I.len⟩
 ·have z:=I.base.free b o e n hx
  rw [aH (ne b z)];exact z
 ·have z:=I.base.tups b xs e
  rw [aH (nd b _ z (by intro z;cases z))];exact z
 ·have z:=I.base.frzs b o u e
  rw [aH (λq=>h0 o u (by rw [<- q];exact e))];exact z
 ·obtain ⟨m,z⟩:=I.base.tbls b ps e
  exact ⟨m,by rw [aH (nd b _ z (by intro z;cases z))];exact z⟩
 ·rw [aH (ne _ I.free)]
  exact I.free
 ·rw [aH (ne _ (I.freeC x c e))]
  exact I.freeC x c e
 ·obtain ⟨q1,q2,q3⟩:=I.pin p hp
  exact ⟨q1,by rw [aH (ne _ q2)];exact q2,q3⟩
 ·by_cases e':b=d
  ·subst e'
   rw [aB] at e;cases e;exact st (I.hok b _ hd).2
  ·rw [aH e'] at e
   exact st (I.hok b u e)
def tThaw (H₀:Hp)(te:TE):TE:=λσ H Q=>te σ H λv H'=>∃ d ob kvs,H' d=some (.frz ob (.dK kvs))/\(∀ o u,H₀ d≠some (.frz o u))/\Q v (upd H' d (.dK kvs))
def rUpd:V->List V->Hp->VK->Prop:=λx vs H Q=>∃ d o kvs more,x=.ref d/\vs=[.ref o]/\d≠o/\H d=some (.dK kvs)/\H o=some (.dK more)/\kvs.length+more.length<=1000/\Q .non (upd H d (.dK (jU kvs more)))
section
variable {prog:Az}{w:World}{A:Around}{E:Value->Shared->Prop}{s:Shared}
end
def tMinD (te:TE):TE:=λσ H Q=>te σ H λx H1=>∃ l n,x=.ref l/\H1 l=some (.lst [.int n])/\Q (.int n) H1
structure MCal (P:Az)(w:World)(K:Aa)(mg:Str->Option Value)(base:Heap)(CX:CXT)(k:Nat)(C:Addr)(m:Str)(ps:List Str)(sp:Sp):Prop where
 ex:∃ (f:Addr) (fd:Bf),Meth K C m f/\Binds K fd ps []/\FnOk P w K mg base CX k f fd ps sp
section
variable {X:Cx}{CX:CXT}{k:Nat}{C:Addr}{m:Str}{ps:List Str}{sp:Sp}{E:XK}{o e:Expr}{es:List Expr}{ta:TE}{t:TA}{apos pos:Pos}
end
def aEz (H₀:Hp)(t:TS):TS:=λD σ H=>t { D with nx:=λσ' H'=>∃ d ob kvs,H' d=some (.frz ob (.dK kvs))/\(∀ o u,H₀ d≠some (.frz o u))/\D.nx σ' (upd H' d (.dK kvs)) } σ H
def vG {X:Cx}{st:Stmt}{t:TS}(h:PS X st t):PS X st (aEz X.H₀ t):=by
 intro pins s σ H D I q;refine thn (h pins s σ H _ I q) λf s1 z=>?_;cases f with
 |next=>
  obtain ⟨σ',H',I',d,ob,kvs,hd,h0,q'⟩:=z;exact ⟨σ',_,I'.thaw hd h0,q'⟩
 |brk=>exact z
 |cont=>exact z
 |ret u=>exact z
section
variable {X:Cx}{e:Expr}{nm m:Str}{p apos cpos pos:Pos}{ty ta:TE}{aF:Addr}{f:Str->Option Addr}
def aHf (f:Str->Option Addr)(ty:TE):TE:=λσ H Q=>ty σ H λy H2=>∃ x,y=.str x/\Q (((f x).map V.ref).getD .non) H2
def aDe (D:KDict X.w X.K aF f)(hg:Gl X nm)(hm:X.mg nm=some (.ref aF))(he:PE X e ty)(M:M1 X (.Name nm p) "get" apos e cpos)(hd:(nm==("__debug__":Str))=false:=by decide):PE X (.Call (.Attribute (.Name nm p) "get" apos) [e] [] cpos) (aHf f ty):=by
 intro pins s σ H Q I h;refine wpAny_Call_method M.base M.few M.line FA DH PySem.F.type_dict_get (fA I hg hm ?_ hd);obtain ⟨es,n,hl,hk,hf⟩:=D.ex;have hm':=PySem.W.mapOf_K (prog:=X.prog) (w:=X.w) I.kIn hl hk;refine ⟨hm'.typeIs,λb q=>?_,?_⟩
 ·cases q
  exact ⟨_,I.kIn _ _ hl,rfl⟩
 rw [M.trees];refine CV rfl (EV (Et (thn (he pins s σ H _ I h) λiv s2 ⟨y,H2,I2,ry,x,ex,q2⟩=>Calls.spliced_nil ?_)));subst ex;obtain ⟨t,rfl⟩:=(show ∃ t,iv=Value.str x t from ry);refine aEd D I2 λs3 I3=>⟨_,H2,I3,?_,q2⟩;cases f x with
 |none=>exact rfl
 |some a=>exact rfl
def tMethD (m:Str)(Cs:List (Addr×Sp))(E:XK)(ta:TE):TE:=λσ H Q=>ta σ H λx H1=>∃ C sp a dx fs,(C,sp)∈Cs/\x=.ref a/\H1 a=some (.ins C dx fs)/\fs.lookup m=none/\sp [x] H1 Q E
end
structure InsK (K:Aa)(C:Addr):Prop where
 cl:Cls K C
 ha:Bd K (.ref C) "__class__" = some (some (.builtin "object.__class__"))
 hn:PySem.W.specialIn K (.builtin "object.__class__") "__get__" = some (some (.builtin "getset_descriptor.__get__"))
 htk:PySem.W.takesIn K (.builtin "object.__class__")=some true
 hm:PySem.W.mroIn K C (.type "object")=some true
end L2
namespace PySem.SeqAt
open PySem MeetsSeq
end PySem.SeqAt
namespace HT
open PySem PySem.Spec PyProof.Rows
section
variable {prog:Az}{w:World}{A:Around}{E:Value->Shared->Prop}{s:Shared}
def getItem_tuple_whole {t sl:Addr}{items:Array Value}{vl vu:Value}{lo hi:Option Int}{Q:Value->Shared->Prop}(ht:IsTup s.heap t items)(hs:s.heap.IsSliceOf sl vl vu .none)(pl:IsPart vl lo)(pu:IsPart vu hi)
  (hw:sIx items.size 0 lo=0/\sIx items.size items.size hi=items.size) (h:Q (.ref t) s):wpAny (model prog w) A (getItem (.ref t) (.ref sl)) Q E s:=by
 obtain ⟨os,hos,hcs,hds⟩:=id hs;have hTs:s.TypeIs (.ref sl) "slice":=⟨os,hos,hcs⟩;unfold getItem
 try with_reducible refine Bw ?_
 first|refine Ab (Af ?_)|skip
 refine Ab (wpAny_sequenceKey ht.typeIs (by decide) ?_);refine Ab (Bz (name:=CP "__getitem__") ht.typeIs BL
  (Bv BL ht.typeIs entry_tuple_getitem ?_ (args_tuple_getitem _ _)))
 show wpAny _ _ (AH.Tuple.tupleItemsOf (.ref t) >>= _) _ _ s;refine Ab (tupleItemsOf_ ht ?_);refine Ab (Ed hTs ?_);rw [if_pos (by decide)];refine Ab (eV hs pl pu ?_);rw [hw.1,hw.2];have hyes:(((0:Nat):Int)==0&&(1:Int)==1&&(items.size-0)==items.size)=true:=by simp
 show wpAny _ _ (if (((0:Nat):Int)==0&&(1:Int)==1&&(items.size-0)==items.size)=true then _ else _) _ _ s;rw [if_pos hyes];refine Ab (m:=AH.Tuple.tupleIsExact (.ref t)) ?_;unfold AH.Tuple.tupleIsExact;refine Ab (Ed ht.typeIs (Af ?_));rw [if_pos (by decide)];exact Ab (Dp (Af ⟨_,rfl,Af h⟩))
end
end HT
namespace L2
open PySem PySem.Spec PyProof.Rows
def rIndexF:V->List V->Hp->VK->Prop:=λx vs H Q=>∃ l xs y,∃ i j:Nat,∃ z,x=.ref l/\vs=[y,.int (i:Int)]/\H l=some (.lst xs)/\eR y=true/\xs.all eR=true/\i<=j/\xs[j]?=some z/\eqV z y=true /\
 (∀ m z,i<=m->m<j->xs[m]?=some z->eqV z y=false)/\Q (.int (j:Int)) H
section
variable {X:Cx}
def aHq (K:Aa):V->Option Int->Option Int->Hp->VK->Prop:=λx lo hi H Q=>∃ a xs,x=.ref a/\H a=some (.tup xs)/\∀ p H',Same H H'->H' p=some (.tup (cutV xs lo hi))->Q (.ref p) H'
def aCs:SlR X (aHq X.K):=by
 intro pins s σ H x v vl vu lo hi sl Q I rx hs pl pu h;obtain ⟨a,xs,rfl,hx,q⟩:=h
 by_cases hw:HT.sIx xs.length 0 lo=0/\HT.sIx xs.length xs.length hi=xs.length
 ·cases rx
  obtain ⟨its,r,ht,hz⟩:=I.tuple (SqT.of hx);have hlen:its.toArray.size=xs.length:=by rw [Ai];exact r.length.symm
  refine ⟨"tuple",_,BL.lookup,ht.typeIs,?_⟩;refine HT.getItem_tuple_whole ht hs pl pu (by rw [hlen];exact hw) ⟨.ref a,H,I,rfl,q a H (Same.refl _) ?_⟩;unfold cutV;rw [hw.1,hw.2,List.drop_zero,Nat.sub_zero,BH];exact hx
 ·exact aE8 pins s σ H _ v vl vu lo hi sl Q I rx hs pl pu ⟨a,xs,rfl,SqT.of hx,hw,λp hp=>q p _ (Same.upd hp) aB⟩
end
end L2
namespace K33
open PySem PySem.Spec PyProof.Rows L2 GM TM
inductive WhV (K:Aa)(H:Hp):V->Bool->Prop where
 |int {n}:WhV K H (.int n) true
 |bl {b}:WhV K H (.bl b) false
 |oth {v}:Isi K H v "int" false->WhV K H v false
def spWh (K:Aa):Sp:=λvs H Q _=>∃ v β,vs=[v]/\WhV K H v β/\Q (.bl β) H
inductive AmV (K:Aa)(H:Hp):V->Bool->Prop where
 |two {a t b}:SqT K H a [.int t,.int b]->AmV K H (.ref a) (decide (0<=t)&&(decide (1<=b)&&decide (G t b=1)))
 |tru {a k b}:SqT K H a [.bl k,.int b]->AmV K H (.ref a) false
 |len {a xs}:SqT K H a xs->xs.length≠2->AmV K H (.ref a) false
 |oth {v}:Isi K H v "tuple" false->AmV K H v false
def uX (K:Aa):Sp:=λvs H Q _=>∃ v β,vs=[v]/\AmV K H v β/\Q (.bl β) H
def oW (K:Aa)(aO:Addr):Sp:=λvs H Q _=>∃ q t b,vs=[.ref aO,.ref q]/\SqT K H q [.int t,.int b]/\Q (.bl (decide (b<t))) H
structure AmG (K:Aa)(H:Hp)(a:Addr)(t b:Int):Prop where
 sq:SqT K H a [.int t,.int b]
 t0:0<=t
 b1:1<=b
 g1:G t b=1
inductive KindV (K:Aa)(H:Hp)(nb:Nat):Str->V->Bool->Prop where
 |ph {n:Int}:KindV K H nb "phial" (.int n) (decide (0<=n)&&decide (n<(nb:Nat)))
 |phb {v}:WhV K H v false->KindV K H nb "phial" v false
 |wa {x:Str}:x.length<=1000->KindV K H nb "ware" (.str x) (decide (Wr x))
 |wo {v}:Isi K H v "str" false->KindV K H nb "ware" v false
 |am {k v}:k = "amount" \/ k = "level" \/ k = "part" -> AmV K H v false->KindV K H nb k v false
 |lv {a t b}:AmG K H a t b->KindV K H nb "level" (.ref a) true
 |mu {a t b}:AmG K H a t b->KindV K H nb "amount" (.ref a) (!decide ([t,b]=[0,1]))
 |pa {a t b}:AmG K H a t b->KindV K H nb "part" (.ref a) (!decide ([t,b]=[0,1])&&!decide (b<t))
def BnV (H:Hp)(b:Addr)(nb:Nat):Prop:=∃ r q rs,H b=some (.tup [.ref r,q])/\H r=some (.tup rs)/\rs.length=nb
def BnV.keep {nb:Nat}(s:Same H H')(h:BnV H b nb):BnV H' b nb:=by
 obtain ⟨r,q,rs,h1,h2,h3⟩:=h;exact ⟨r,q,rs,s _ _ h1,s _ _ h2,h3⟩
def kR (K:Aa):Sp:=λvs H Q _=>∃ b nb k v β,vs=[.ref b,.str k,v]/\BnV H b nb/\KindV K H nb k v β/\∀ H',Same H H'->Q (.bl β) H'
def pZ {K:Aa}{H:Hp}{a:Addr}{t b:Int}(h:AmG K H a t b):AmV K H (.ref a) true:=by
 have:=AmV.two h.sq;rw [decide_eq_true h.t0,decide_eq_true h.b1,decide_eq_true h.g1] at this;exact this
section
variable {P:Az}{w:World}{K:Aa}{mg:Str->Option Value}{base:Heap}
def aFf:FnScope ["thing"] ["thing"] (aI sIsWh):=fnScOk (by decide +kernel)
def aDw (F:Fun K "is_whole_number" "is_whole_number" sIsWh f fd)(T:Txt mg):FnOk P w K mg base CX0 1 f fd ["thing"] (spWh K):=by
 refine F.ok aFf (λvs H Q E h=>?_) (λcdv A outer s H vs Q E hr h=>?_)
 ·obtain ⟨_,_,rfl,_⟩:=h
  rfl
 ·obtain ⟨v,β,rfl,h,k⟩:=h
  refine ⟨_,aG (aL (iW (aT eF rfl T.isi BA (aA (pv 0) (aA (eM (v:=.ty "int") rfl T.int' yM rfl) aC)))
   (fY (vT (aT eF rfl T.isi BA (aA (pv 0) (aA (eM (v:=.ty "bool") rfl T.bool' yN rfl) aC))))))),?_⟩
  cases h with
  |int=>exact ⟨_,rfl,_,"int",true,rfl,.int_int,_,rfl,iteT ⟨_,rfl,_,"bool",false,rfl,.int_bool,_,rfl,k⟩⟩
  |bl=>exact ⟨_,rfl,_,"int",true,rfl,.bl_int,_,rfl,iteT ⟨_,rfl,_,"bool",true,rfl,.bl_bool,_,rfl,k⟩⟩
  |oth h=>exact ⟨_,rfl,_,"int",false,rfl,h,_,rfl,iteF k⟩
def aFg:FnScope ["thing"] ["thing"] (aI sIsAm):=fnScOk (by decide +kernel)
def aDx (F:Fun K "is_amount" "is_amount" sIsAm f fd)(T:Txt mg)(cW:Cal P w K mg base CX0 1 "is_whole_number" ["thing"] (spWh K))(cG:Cal P w K mg base CX0 1 "common_divisor" ["one","other"] zB):FnOk P w K mg base CX0 2 f fd ["thing"] (uX K):=by
 refine F.ok aFg (λvs H Q E h=>?_) (λcdv A outer s H vs Q E hr h=>?_)
 ·obtain ⟨_,_,rfl,_⟩:=h
  rfl
 ·obtain ⟨v,β,rfl,h,k⟩:=h
  refine ⟨_,(aD (bF (PW.pt (hU (eD (cV (aT eF rfl T.isi BA (aA (pv 0) (aA (eM (v:=.ty "tuple") rfl T.tup' dS rfl) aC))))) (fH (aS nA (aT bC rfl T.len BC (aA (pv 0) aC)) aE (aV _)))))
    (aG (aL eY))
    aP)
   (aD (bF (PW.pt (hU (eD (cV (aJ cW hr rfl aQ (aA (pit 0 0) aC)))) (fH (eD (cV (aJ cW hr rfl aQ (aA (pit 0 1) aC)))))))
    (aG (aL eY))
    aP)
   (aG (aL (iW (dH aF0 (pit 0 0) aE (aV _)) (iW (dH aF0 (pit 0 1) aE (aV _)) (fY (dH dB (aJ cG hr rfl aQ (aA (pit 0 0) (aA (pit 0 1) aC))) aE (aV _))))))))),?_⟩
  refine cut3 ?_
  intros
  have kk:∀ b:Bool,b=β->Q (.bl b) H:=λ_ e=>e▸k;cases h with
  |oth h=>exact ⟨_,rfl,_,"tuple",false,rfl,h,_,rfl,iteT k⟩
  |@len a xs h n=>
   refine ⟨_,rfl,_,"tuple",true,rfl,.tup_tuple h,_,rfl,iteF ⟨_,rfl,a,_,rfl,.inr h,rfl,_,rfl,ite2 (λ_=>k) (λhc=>?_)⟩⟩;exfalso;refine hc ?_;have e:decide (V.int (xs.length:Int)=V.int 2)=false:=decide_eq_false λz=>n (by have:=V.int.inj z;omega);show (!decide (V.int (xs.length:Int)=V.int 2))=true;rw [e];rfl
  |@tru a kb b h=>
   refine ⟨_,rfl,_,"tuple",true,rfl,.tup_tuple h,_,rfl,iteF ⟨_,rfl,a,_,rfl,.inr h,rfl,_,rfl,iteF ?_⟩⟩;exact ⟨a,_,_,rfl,h,rfl,.bl kb,false,rfl,.bl,_,rfl,iteT k⟩
  |@two a t b h=>
   refine ⟨_,rfl,_,"tuple",true,rfl,.tup_tuple h,_,rfl,iteF ⟨_,rfl,a,_,rfl,.inr h,rfl,_,rfl,iteF ?_⟩⟩;refine ⟨a,_,_,rfl,h,rfl,.int t,true,rfl,.int,_,rfl,iteF ⟨a,_,_,rfl,h,rfl,.int b,true,rfl,.int,_,rfl,iteF ?_⟩⟩;refine ⟨a,_,_,rfl,h,rfl,_,_,rfl,rfl,_,rfl,ite2 (λh0=>?_) (λh0=>?_)⟩
   ·have t0:0<=t:=of_decide_eq_true h0
    refine ⟨a,_,_,rfl,h,rfl,_,_,rfl,rfl,_,rfl,ite2 (λh1=>?_) (λh1=>?_)⟩
    ·have b1:1<=b:=of_decide_eq_true h1
     refine ⟨a,_,_,rfl,h,rfl,a,_,_,rfl,h,rfl,t,b,rfl,t0,by omega,rfl,kk _ ?_⟩;rw [decide_eq_true t0,decide_eq_true b1];simp
    ·refine kk _ ?_
     have nb:¬ 1<=b:=λz=>h1 (decide_eq_true z);rw [decide_eq_true t0,decide_eq_false nb];rfl
   ·refine kk _ ?_
    have nt:¬ 0<=t:=λz=>h0 (decide_eq_true z);rw [decide_eq_false nt];rfl
def aBg:FnScope ["one","other"] ["one","other"] (aI sLess):=fnScOk (by decide +kernel)
def aAd (F:Fun K "less" "less" sLess f fd)(sO:∀ H:Hp,SqT K H aO [.int 1,.int 1]):FnOk P w K mg base CX0 1 f fd ["one","other"] (oW K aO):=by
 refine F.ok aBg (λvs H Q E h=>?_) (λcdv A outer s H vs Q E hr h=>?_)
 ·obtain ⟨_,_,_,rfl,_⟩:=h
  rfl
 ·obtain ⟨q,t,b,rfl,h,k⟩:=h
  refine ⟨_,aG (aL (dH wA (aK aBp (pit 0 0) (pit 1 1)) (aK aBp (pit 1 0) (pit 0 1)) (aV _))),?_⟩;refine ⟨aO,_,_,rfl,sO H,rfl,q,_,_,rfl,h,rfl,_,_,rfl,rfl,.inl ⟨by decide,by decide⟩,q,_,_,rfl,h,rfl,aO,_,_,rfl,sO H,rfl,_,_,rfl,rfl,.inr ⟨by decide,by decide⟩,_,_,rfl,rfl,?_⟩;have e:decide ((1:Int)*b<t*1)=decide (b<t):=by rw [Int.one_mul,Int.mul_one]
  show Q (.bl (decide ((1:Int)*b<t*1))) H;rw [e];exact k
def zD:FnScope ["bench","kind","thing"] ["bench","kind","thing"] (aI sOfKind):=fnScOk (by decide +kernel)
def wK (F:Fun K "is_of_kind" "is_of_kind" sOfKind f fd)(T:Txt mg)(mN:mg "NOUGHT" = some (.ref aN))(sN:∀ H:Hp,SqT K H aN [.int 0,.int 1])(mO:mg "ONE" = some (.ref aO))(cW:Cal P w K mg base CX0 2 "is_whole_number" ["thing"] (spWh K))(cI:Cal P w K mg base CX0 2 "is_ware" ["thing"] (kW K))(cA:Cal P w K mg base CX0 2 "is_amount" ["thing"] (uX K))(cL:Cal P w K mg base CX0 2 "less" ["one","other"] (oW K aO)):FnOk P w K mg base CX0 3 f fd ["bench","kind","thing"] (kR K):=by
 refine F.ok zD (λvs H Q E h=>?_) (λcdv A outer s H vs Q E hr h=>?_)
 ·obtain ⟨_,_,_,_,_,rfl,_⟩:=h
  rfl
 ·obtain ⟨b,nb,kd,v,β,rfl,⟨r,q0,rs,hb,hr',rl⟩,h,k⟩:=h
  refine ⟨_,(aD (bF (aS dB (pv 1) aU (aV _))
    (aG (aL (iW (aJ cW hr rfl aQ (aA (pv 2) aC)) (fY (rB aDl wA aE (pv 2) (aT bC rfl T.len BC (aA (pit 0 0) aC)))))))
    aP)
   (aD (bF (aS dB (pv 1) aU (aV _))
    (aG (aL (aJ cI hr rfl aQ (aA (pv 2) aC))))
    aP)
   (aD (bF (eD (cV (aJ cA hr rfl aQ (aA (pv 2) aC))))
    (aG (aL eY))
    aP)
   (aD (bF (aS dB (pv 1) aU (aV _))
    (aG (aL eY))
    aP)
   (aG (aL (iW (dH (vZ hr.units) (pv 2) (dP (v:=.ref aN) rfl mN rfl) (aV _)) (fY (aDd (dH dB (pv 1) aU (aV _)) (fY (vT (aJ cL hr rfl aQ (aA (dP (v:=.ref aO) rfl mO rfl) (aA (pv 2) aC)))))))))))))),?_⟩
  refine cut5 ?_
  intros
  have k0:=k H (Same.refl _);have eqS:∀ {x y:Str} {B:Prop},x≠y->decide (V.str x=V.str y)=false:=λ{x y B} n=>decide_eq_false λz=>n (V.str.inj z);cases h with
  |@ph n=>
   refine ⟨_,rfl,rfl,_,rfl,iteT ⟨_,rfl,_,true,rfl,.int,_,rfl,iteT ⟨_,rfl,_,_,rfl,rfl,_,rfl,ite2 (λh0=>?_) (λh0=>?_)⟩⟩⟩
   ·have n0:0<=n:=of_decide_eq_true h0
    refine ⟨b,_,_,rfl,SqT.of hb,rfl,r,_,rfl,.inr (SqT.of hr'),_,_,rfl,rfl,?_⟩;rw [rl];rw [decide_eq_true n0] at k0;exact k0
   ·have n0:¬ 0<=n:=λz=>h0 (decide_eq_true z)
    rw [decide_eq_false n0] at k0;exact k0
  |phb h=>exact ⟨_,rfl,rfl,_,rfl,iteT ⟨_,rfl,_,false,rfl,h,_,rfl,iteF k0⟩⟩
  |@wa x xl=>
   refine ⟨_,rfl,rfl,_,rfl,iteF ⟨_,rfl,rfl,_,rfl,iteT ⟨_,rfl,_,rfl,.inr ⟨x,rfl,xl,λw1 H' s'=>?_,λw1 H' s'=>?_⟩⟩⟩⟩
   ·have:=k H' s'
    rw [decide_eq_true w1] at this;exact this
   ·have:=k H' s'
    rw [decide_eq_false w1] at this;exact this
  |wo h=>exact ⟨_,rfl,rfl,_,rfl,iteF ⟨_,rfl,rfl,_,rfl,iteT ⟨_,rfl,_,rfl,.inl ⟨.inl h,k0⟩⟩⟩⟩
  |am hk h=>
   rcases hk with rfl|rfl|rfl<;>exact ⟨_,rfl,rfl,_,rfl,iteF ⟨_,rfl,rfl,_,rfl,iteF ⟨_,rfl,_,false,rfl,h,_,rfl,iteT k0⟩⟩⟩
  |lv h=>exact ⟨_,rfl,rfl,_,rfl,iteF ⟨_,rfl,rfl,_,rfl,iteF ⟨_,rfl,_,true,rfl,pZ h,_,rfl,iteF ⟨_,rfl,rfl,_,rfl,iteT k0⟩⟩⟩⟩
  |@mu a t b h=>
   refine ⟨_,rfl,rfl,_,rfl,iteF ⟨_,rfl,rfl,_,rfl,iteF ⟨_,rfl,_,true,rfl,pZ h,_,rfl,iteF ⟨_,rfl,rfl,_,rfl,iteF ⟨_,rfl,a,aN,[t,b],[0,1],rfl,rfl,h.sq,sN H,_,rfl,ite2 (λhc=>?_) (λhc=>?_)⟩⟩⟩⟩⟩
   ·rw [hc] at k0
    exact ⟨_,rfl,rfl,_,rfl,iteT k0⟩
   ·rw [show (!decide ([t,b]=[0,1]))=false by simpa using hc] at k0
    exact k0
  |@pa a t b h=>
   refine ⟨_,rfl,rfl,_,rfl,iteF ⟨_,rfl,rfl,_,rfl,iteF ⟨_,rfl,_,true,rfl,pZ h,_,rfl,iteF ⟨_,rfl,rfl,_,rfl,iteF ⟨_,rfl,a,aN,[t,b],[0,1],rfl,rfl,h.sq,sN H,_,rfl,ite2 (λhc=>?_) (λhc=>?_)⟩⟩⟩⟩⟩
   ·rw [hc,Bool.true_and] at k0
    exact ⟨_,rfl,rfl,_,rfl,iteF ⟨_,rfl,a,t,b,rfl,h.sq,_,rfl,k0⟩⟩
   ·rw [show (!decide ([t,b]=[0,1]))=false by simpa using hc,Bool.false_and] at k0
    exact k0
end
def frm (x:Str):Option (List Str):=if x = "draw" then some ["phial","ware","amount"] else if x = "fill" then some ["phial","ware","level"] else if x = "pour" then some ["phial","phial","part"] else if x = "empty" then some ["phial"] else if x = "rinse" then some ["phial"] else none
def aEf (h:frm x=some ks):ks.length<=3:=by
  unfold frm at h
  repeat' split at h
  all_goals first|(cases h;decide)|cases h
structure FormsK (w:World)(K:Aa)(mg:Str->Option Value)(aF:Addr)(f:Str->Option Addr):Prop where
 d:KDict w K aF f
 m:mg "FORMS" = some (.ref aF)
 y:∀ x ks,frm x=some ks->∃ a,f x=some a/\∀ H:Hp,SqT K H a (ks.map V.str)
 n:∀ x,frm x=none->f x=none
def aEs (K:Aa)(H:Hp)(nb:Nat)(ks:List Str)(us:List V)(βs:List Bool):Prop:=us.length=ks.length/\βs.length=ks.length/\∀ (i:Nat) k u β,ks[i]?=some k->us[i]?=some u->βs[i]?=some β->KindV K H nb k u β
inductive RowE (K:Aa)(H:Hp):V->Prop where
 |notT {v}:Isi K H v "tuple" false->RowE K H v
 |nil {a}:H a=some (.tup [])->RowE K H (.ref a)
 |head {a u us}:H a=some (.tup (u::us))->Isi K H u "str" false->RowE K H (.ref a)
 |word {a x us}:H a=some (.tup (.str x::us))->frm x=none->RowE K H (.ref a)
 |len {a x us ks}:H a=some (.tup (.str x::us))->frm x=some ks->us.length≠ks.length->RowE K H (.ref a)
inductive RowV (K:Aa)(H:Hp)(nb:Nat):V->Bool->Prop where
 |early {v}:RowE K H v->RowV K H nb v false
 |big {a x us ks βs β}:H a=some (.tup (.str x::us))->frm x=some ks->aEs K H nb ks us βs->(βs.all id=false->β=false)->(βs.all id=true->(x ≠ "pour" /\ β=true)\/(x = "pour" /\ ∃ p o w',us=[.int p,.int o,w']/\β=!decide (V.int p=V.int o)))->RowV K H nb (.ref a) β
def oX (K:Aa):Sp:=λvs H Q _=>∃ b nb v β,vs=[.ref b,v]/\BnV H b nb/\RowV K H nb v β/\∀ H',Same H H'->Q (.bl β) H'
def KindV.keep {K:Aa}{H H':Hp}{nb:Nat}{k:Str}{v:V}{β:Bool}(s:Same H H')(h:KindV K H nb k v β):KindV K H' nb k v β:=by
 have ki:∀ {v T b},Isi K H v T b->Isi K H' v T b:=λ{v T b} h=>by
  cases h
  case tup_tuple h=>exact .tup_tuple (s.tup h)
  case tup_int h=>exact .tup_int (s.tup h)
  case tup_str h=>exact .tup_str (s.tup h)
  case tup_list h=>exact .tup_list (s.tup h)
  case lst_tuple h=>exact .lst_tuple (s.seq h)
  case lst_int h=>exact .lst_int (s.seq h)
  case lst_str h=>exact .lst_str (s.seq h)
  case lst_list h=>exact .lst_list (s.seq h)
  all_goals constructor
 have ka:∀ {v β},AmV K H v β->AmV K H' v β:=λ{v β} h=>by
  cases h with
  |two h=>exact .two (s.tup h)
  |tru h=>exact .tru (s.tup h)
  |len h n=>exact .len (s.tup h) n
  |oth h=>exact .oth (ki h)
 have kg:∀ {a t b},AmG K H a t b->AmG K H' a t b:=λh=>⟨s.tup h.sq,h.t0,h.b1,h.g1⟩;cases h with
 |ph=>exact .ph
 |phb h=>
  cases h with
  |bl=>exact .phb .bl
  |oth h=>exact .phb (.oth (ki h))
 |wa h=>exact .wa h
 |wo h=>exact .wo (ki h)
 |am a h=>exact .am a (ka h)
 |lv h=>exact .lv (kg h)
 |mu h=>exact .mu (kg h)
 |pa h=>exact .pa (kg h)
def aA4 {j:Nat}(h:j<=xs.length):cutV xs (some (j:Int)) none=xs.drop j:=by
 unfold cutV;rw [HT.sIx_nat,HT.sIx_none,Nat.min_eq_left h];exact EE (by rw [List.length_drop];omega)
def yE (x:Str)(us:List V):cutV (V.str x::us) (some 1) none=us:=by
 have:=aA4 (xs:=V.str x::us) (j:=1) (by simp)
 simpa using this
section
variable {P:Az}{w:World}{K:Aa}{mg:Str->Option Value}{base:Heap}
def aGc:(["kind","thing","bench"]:List Str).Nodup:=by decide +kernel
abbrev Nrow:List Str:=["bench","row","form"]
def vD:FnScope Nrow ["bench","row"] (aI sIsRow):=fnScOk (by decide +kernel)
def aAe {f aF:Addr}{fF:Str->Option Addr}{fd:Bf}(F:Fun K "is_row" "is_row" sIsRow f fd)(T:Txt mg)(FK:FormsK w K mg aF fF)(cK:Cal P w K mg base CX0 3 "is_of_kind" ["bench","kind","thing"] (kR K)):FnOk P w K mg base CX0 4 f fd ["bench","row"] (oX K):=by
 refine F.ok vD (λvs H Q E h=>?_) (λcdv A outer s H vs Q E hr h=>?_)
 ·obtain ⟨_,_,_,_,rfl,_⟩:=h
  rfl
 ·obtain ⟨b,nb,v,β,rfl,bn,h,k⟩:=h
  refine ⟨_,(aD (bF (PW.pt (hU (eD (cV (aT eF rfl T.isi BA (aA (pv 1) (aA (eM (v:=.ty "tuple") rfl T.tup' dS rfl) aC))))) (hU (aS dB (aT bC rfl T.len BC (aA (pv 1) aC)) aE (aV _)) (fH (eD (cV (aT eF rfl T.isi BA (aA (pit 1 0) (aA (eM (v:=.ty "str") rfl T.str' aB8 rfl) aC)))))))))
    (aG (aL eY))
    aP)
   (aD (aM (i:=2) vD.nd rfl (Or.inl rfl) (aDe FK.d rfl FK.m (pit 1 0) ⟨rfl,rfl,rfl,rfl⟩))
   (aD (bF (PW.pt (hU (aS aBq (pv 2) dU (aV _)) (fH (aS nA (aT bC rfl T.len BC (aA (pv 1) aC)) (aK bK (aT bC rfl T.len BC (aA (pv 2) aC)) aE) (aV _)))))
    (aG (aL eY))
    aP)
   (aD (bF (eD (cV (aT (oE rfl) rfl T.all' boot_all (aA (iB (N':=["kind","thing","bench"]) (g:=gTup K 2 (aEe (L2.gName 0) (aEe (L2.gName 1) gNil))) (λσ=>[none,none,some 0].map λt=>t.bind λj=>(σ[j]?).join) rfl rfl (by decide +kernel) (by decide +kernel)
      (aAu (sc:=aI sIsRow) rfl (by decide +kernel)) (λ_ _ _=>lX (sc:=aI sIsRow) (N:=Nrow) [none,none,some 0] rfl rfl rfl rfl (by decide +kernel))
      (aDc rfl T.zip' (aA (pv 2) (aA (zQ aCs (pv 1) (aDa aE) aDb) aC))) (λ_ _ _ _ _ _=>iT rfl (cY (bA (i:=0) aGc rfl (Or.inl rfl)) (cY (bA (i:=1) aGc rfl (Or.inl rfl)) fK)))
      (λ_ _ _ _ _ _=>fW)
      (λ_ _ _ _ _ _=>aJ cK hr rfl aQ (aA (pv 2) (aA (pv 0) (aA (pv 1) aC))))) aC))))
    (aG (aL eY))
    aP)
   (aG (aL (aDd (dH nA (pit 1 0) aU (aV _)) (fY (dH nA (pit 1 1) (pit 1 2) (aV _)))))))))),?_⟩
  refine cut5 ?_
  intros
  have k0:=k H (Same.refl _);cases h with
  |early h=>
   cases h with
   |notT h=>exact ⟨_,rfl,_,"tuple",false,rfl,h,_,rfl,iteT k0⟩
   |@nil a ha=>exact ⟨_,rfl,_,"tuple",true,rfl,.tup_tuple (SqT.of ha),_,rfl,iteF ⟨_,rfl,a,_,rfl,.inr (SqT.of ha),rfl,_,rfl,iteT k0⟩⟩
   |@head a u us ha hu=>
    refine ⟨_,rfl,_,"tuple",true,rfl,.tup_tuple (SqT.of ha),_,rfl,iteF ⟨_,rfl,a,_,rfl,.inr (SqT.of ha),rfl,_,rfl,ite2 (λhc=>?_) (λ_=>⟨a,_,_,rfl,SqT.of ha,rfl,_,"str",false,rfl,hu,_,rfl,iteT k0⟩)⟩⟩;have:=V.int.inj (of_decide_eq_true hc);rw [AI] at this;omega
   |@word a x us ha hf=>
    refine ⟨_,rfl,_,"tuple",true,rfl,.tup_tuple (SqT.of ha),_,rfl,iteF ⟨_,rfl,a,_,rfl,.inr (SqT.of ha),rfl,_,rfl,ite2 (λhc=>?_) (λ_=>⟨a,_,_,rfl,SqT.of ha,rfl,_,"str",true,rfl,.str_str,_,rfl,iteF ?_⟩)⟩⟩
    ·have:=V.int.inj (of_decide_eq_true hc)
     rw [AI] at this;omega
    ·refine ⟨a,_,_,rfl,SqT.of ha,rfl,x,rfl,?_⟩
     rw [FK.n x hf];exact ⟨_,rfl,rfl,_,rfl,iteT k0⟩
   |@len a x us ks ha hf ne=>
    refine ⟨_,rfl,_,"tuple",true,rfl,.tup_tuple (SqT.of ha),_,rfl,iteF ⟨_,rfl,a,_,rfl,.inr (SqT.of ha),rfl,_,rfl,ite2 (λhc=>?_) (λ_=>⟨a,_,_,rfl,SqT.of ha,rfl,_,"str",true,rfl,.str_str,_,rfl,iteF ?_⟩)⟩⟩
    ·have:=V.int.inj (of_decide_eq_true hc)
     rw [AI] at this;omega
    ·obtain ⟨g,eg,hg⟩:=FK.y x ks hf
     refine ⟨a,_,_,rfl,SqT.of ha,rfl,x,rfl,?_⟩;rw [eg];refine ⟨_,rfl,rfl,_,rfl,iteF ⟨_,rfl,a,_,rfl,.inr (SqT.of ha),_,rfl,g,_,rfl,.inr (hg H),_,_,rfl,rfl,rfl,_,rfl,ite2 (λ_=>k0) (λhc=>?_)⟩⟩;exfalso;refine hc ?_;have e:decide (V.int (((V.str x::us).length:Nat):Int)=V.int (((ks.map V.str).length:Nat)+1))=false:=decide_eq_false λz=>ne (by have:=V.int.inj z;rw [AI,Ag] at this;omega);show (!decide (V.int (((V.str x::us).length:Nat):Int)=V.int (((ks.map V.str).length:Nat)+1)))=true;rw [e];rfl
  |@big a x us ks βs β ha hf ek n1 n2=>
   obtain ⟨ul,bl',eq⟩:=ek;obtain ⟨g,eg,hg⟩:=FK.y x ks hf;have k3:=aEf hf;refine ⟨_,rfl,_,"tuple",true,rfl,.tup_tuple (SqT.of ha),_,rfl,iteF ⟨_,rfl,a,_,rfl,.inr (SqT.of ha),rfl,_,rfl,ite2 (λhc=>?_) (λ_=>⟨a,_,_,rfl,SqT.of ha,rfl,_,"str",true,rfl,.str_str,_,rfl,iteF ?_⟩)⟩⟩
   ·have:=V.int.inj (of_decide_eq_true hc)
    rw [AI] at this;omega
   refine ⟨a,_,_,rfl,SqT.of ha,rfl,x,rfl,?_⟩;rw [eg];refine ⟨_,rfl,rfl,_,rfl,iteF ⟨_,rfl,a,_,rfl,.inr (SqT.of ha),_,rfl,g,_,rfl,.inr (hg H),_,_,rfl,rfl,rfl,_,rfl,ite2 (λhc=>?_) (λ_=>?_)⟩⟩
   ·exfalso
    have hc':(!decide (V.int (((V.str x::us).length:Nat):Int)=V.int (((ks.map V.str).length:Nat)+1)))=true:=hc;rw [decide_eq_true (by rw [AI,Ag,ul];rfl)] at hc';cases hc'
   refine ⟨_,rfl,_,rfl,_,rfl,a,_,rfl,ha,λc H1 s1 hc=>?_⟩;have ec:cutV (V.str x::us) (some 1) none=us:=by
    have:=yE x us;exact this
   rw [ec] at hc;refine ⟨g,c,rfl,⟨_,hg H1⟩,⟨_,SqT.of hc⟩,λD nD=>?_⟩;refine yF (hg H1) (SqT.of hc) (by rw [Ag,ul]) (λi v=>∀ β,βs[i]?=some β->v=.bl β) nD (by omega) (λi kx u T' Hx R hk hu sx hT hR=>?_) (λzs H2 s2 hD zl hz=>?_)
   ·rw [As] at hk
    obtain ⟨kd,hkd,rfl⟩:=BB.mp hk;obtain ⟨β',hβ⟩:∃ β,βs[i]?=some β:=⟨_,Ad (by have:=(Ae.mp hkd).1;omega)⟩;refine ⟨T',_,rfl,SqT.of hT,rfl,_,_,rfl,_,_,rfl,rfl,((Keep.refl _).set rfl).set rfl,_,rfl,_,rfl,_,rfl,b,nb,kd,u,β',rfl,bn.keep (s1.trans sx),(eq i kd u β' hkd hu hβ).keep (s1.trans sx),λH3 s3=>hR _ _ s3 λβ2 h2=>?_⟩;rw [hβ] at h2;cases h2;rfl
   have ez:zs=βs.map V.bl:=by
    refine list_eq (by rw [zl,Ag,Ag,bl']) λi x' y' hx' hy'=>?_;rw [As] at hx';obtain ⟨β',hβ,rfl⟩:=BB.mp hx';exact hz i y' hy' β' hβ
   subst ez;have s02:=s1.trans s2;refine ⟨D,βs,rfl,SqL.of hD,_,rfl,ite2 (λhc=>?_) (λhc=>?_)⟩
   ·have hf':βs.all id=false:=by simpa using hc
    have:=k H2 s02;rw [n1 hf'] at this;exact this
   ·have ht:βs.all id=true:=by simpa using hc
    have kk:=k H2 s02;have ha2:=s02 _ _ ha;refine ⟨a,_,_,rfl,SqT.of ha2,rfl,rfl,_,rfl,?_⟩
    rcases n2 ht with ⟨nx,e⟩|⟨rfl,p,o,w',rfl,e⟩
    ·refine ite2 (λ_=>by rw [e] at kk;exact kk) (λhc2=>?_)
     exfalso;refine hc2 ?_;show (!decide (V.str x=V.str "pour"))=true;rw [decide_eq_false λz=>nx (V.str.inj z)];rfl
    ·refine iteF ⟨a,_,_,rfl,SqT.of ha2,rfl,a,_,_,rfl,SqT.of ha2,rfl,rfl,?_⟩
     rw [e] at kk;exact kk
end
def uU:Sp:=λvs H Q _=>∃ t b:Int,vs=[.int t,.int b]/\0<=t/\1<=b/\Bt 9000 b/\RetT H Q [t/G t b,b/G t b]
section
variable {P:Az}{w:World}{K:Aa}{mg:Str->Option Value}{base:Heap}
def aFe:FnScope ["top","bottom","divisor"] ["top","bottom"] (aI sLow):=fnScOk (by decide +kernel)
def aF3 (F:Fun K "lowest_terms" "lowest_terms" sLow f fd)(cG:Cal P w K mg base CX0 1 "common_divisor" ["one","other"] zB):FnOk P w K mg base CX0 2 f fd ["top","bottom"] uU:=by
 refine F.ok aFe (λvs H Q E h=>?_) (λcdv A outer s H vs Q E hr h=>?_)
 ·obtain ⟨a,b,rfl,_⟩:=h
  rfl
 ·obtain ⟨t,b,rfl,ht,hb,hs,k⟩:=h
  refine ⟨_,aD (aM (i:=2) aFe.nd rfl (Or.inl rfl) (aJ cG hr rfl aQ (aA (pv 0) (aA (pv 1) aC))))
   (aG (aL (aW (aA (aK aX (pv 0) (pv 2)) (aA (aK aX (pv 1) (pv 2)) aC))))),?_⟩
  refine ⟨_,rfl,_,rfl,t,b,rfl,ht,by omega,?_⟩;have g:=nG (t:=t) hb hs;refine ⟨_,rfl,_,rfl,_,_,rfl,rfl,g,_,rfl,_,rfl,_,_,rfl,rfl,g,zLn2,λp hp=>?_⟩;exact k p _ (Same.upd hp) aB
end
def Pr (H:Hp)(v:V)(x:Str×Int×Int):Prop:=∃ p q,v=.ref p/\H p=some (.tup [.str x.1,.ref q])/\H q=some (.tup [.int x.2.1,.int x.2.2])
def Pr.keep (h:Pr H v x)(k:Tk H H'):Pr H' v x:=by
 obtain ⟨p,q,e,h1,h2⟩:=h;exact ⟨p,q,e,k _ _ h1,k _ _ h2⟩
inductive PrL (H:Hp):List V->List (Str×Int×Int)->Prop where
 |nil:PrL H [] []
 |cons {v x vs xs}:Pr H v x->PrL H vs xs->PrL H (v::vs) (x::xs)
def PrL.keep (h:PrL H vs xs)(k:Tk H H'):PrL H' vs xs:=by
 induction h with
 |nil=>exact .nil
 |cons p _ ih=>exact .cons (p.keep k) ih
def PrL.snoc (h:PrL H vs xs)(p:Pr H v x):PrL H (vs++[v]) (xs++[x]):=by
 induction h with
 |nil=>exact .cons p .nil
 |cons q _ ih=>exact .cons q ih
theorem PrL.length (h:PrL H vs xs):vs.length=xs.length:=by
 induction h with
 |nil=>rfl
 |cons _ _ ih=>simp [ih]
structure Two (K:Aa)(H:Hp)(p q:Addr)(t1 b1 t2 b2:Int):Prop where
 sp:SqT K H p [.int t1,.int b1]
 sq:H q=some (.tup [.int t2,.int b2])
 ht1:0<=t1
 hb1:1<=b1
 am:Amt t2 b2
 st1:Bt 4000 t1
 sb1:Bt 4000 b1
 st2:Bt 4000 t2
 sb2:Bt 4000 b2
def qL (K:Aa):Sp:=λvs H Q _=>∃ (p q:Addr) (t1 b1 t2 b2:Int),vs=[.ref p,.ref q]/\Two K H p q t1 b1 t2 b2 /\
 RetT H Q [(t1*b2+t2*b1)/G (t1*b2+t2*b1) (b1*b2),(b1*b2)/G (t1*b2+t2*b1) (b1*b2)]
theorem PrL.get (h:PrL H vs xs):∀ {i:Nat} {v:V},vs[i]?=some v->∃ x,xs[i]?=some x/\Pr H v x:=by
 induction h with
 |nil=>intro i v e;simp at e
 |cons p _ ih=>
  intro i v e;cases i with
  |zero=>cases e;exact ⟨_,rfl,p⟩
  |succ i=>exact ih (by simpa using e)
def nOf (M:Int)(x:Str×Int×Int):Int:=x.2.1*(M/x.2.2)
def sumN (M:Int)(xs:List (Str×Int×Int)):Int:=(xs.map (nOf M)).sum
theorem iI {M:Int}{xs:List (Str×Int×Int)}{i:Nat}{x:Str×Int×Int}(h:xs[i]?=some x):sumN M (xs.take (i+1))=sumN M (xs.take i)+nOf M x:=by
 unfold sumN;rw [CQ,h,Bs,Fh];simp
def dQ {M t b N:Int}(hM:0<M)(h:Fr M t b N):t<=N/\b<=M:=by
 have hb:=Fg hM h.dvd;refine ⟨?_,hb⟩;have n0:=h.nonneg hM;have:=Bg hb n0;rw [<- h.e] at this;exact Eb this hM
def Over (M:Int)(xs:List (Str×Int×Int)):Prop:=∀ x∈xs,Amt x.2.1 x.2.2/\x.2.2∣M
def hW (K:Aa):Sp:=λvs H Q _=>∃ (m:Addr) (us:List V) (xs:List (Str×Int×Int)) (M:Int),vs=[.ref m]/\SqT K H m us/\PrL H us xs/\Over M xs/\0<M/\Bt 3000 M/\(∀ i,Bt 3000 (sumN M (xs.take i))) /\
 ∀ (f:Addr) (t b:Int) H',Same H H'->SqT K H' f [.int t,.int b]->Fr M t b (sumN M xs)->Q (.ref f) H'
section
variable {P:Az}{w:World}{K:Aa}{mg:Str->Option Value}{base:Heap}
def Two.botS {p q:Addr}{t1 b1 t2 b2:Int}(T:Two K H p q t1 b1 t2 b2):1<=b1*b2/\Bt 8000 (b1*b2):=by
 have:=ER T.hb1 T.am.b1 (by decide) (by have:=T.hb1;omega);exact ⟨by omega,T.sb1.mul T.sb2⟩
def aFc:FnScope ["one","other"] ["one","other"] (aI sPlus):=fnScOk (by decide +kernel)
def aDr (F:Fun K "plus" "plus" sPlus f fd)(mN:mg "NOUGHT" = some (.ref aN))(sN:∀ H:Hp,SqT K H aN [.int 0,.int 1])(cL:Cal P w K mg base CX0 2 "lowest_terms" ["top","bottom"] uU):FnOk P w K mg base CX0 3 f fd ["one","other"] (qL K):=by
 refine F.ok aFc (λvs H Q E h=>?_) (λcdv A outer s H vs Q E hr h=>?_)
 ·obtain ⟨_,_,_,_,_,_,rfl,_⟩:=h
  rfl
 ·obtain ⟨p,q,t1,b1,t2,b2,rfl,T,k⟩:=h
  refine ⟨_,aD (bF (aS (aBs hr.units) (pv 0) (dP (v:=.ref aN) rfl mN rfl) (aV _)) (aG (aL (pv 1))) aP)
   (aG (aL (aJ cL hr rfl aQ (aA (aK bK (aK bL (pit 0 0) (pit 1 1)) (aK bL (pit 1 0) (pit 0 1))) (aA (aK bL (pit 0 1) (pit 1 1)) aC))))),?_⟩
  have bs:=T.botS;have hs:=SqT.of (K:=K) T.sq;have m1:=Bk T.ht1 (show 0<=b2 by have:=T.am.b1;omega);have m2:=Bk T.am.t0 (show 0<=b1 by have:=T.hb1;omega);have a0:=T.am.t0;have a1:=T.am.b1;refine ⟨_,rfl,p,aN,[t1,b1],[0,1],rfl,rfl,T.sp,sN H,_,rfl,ite2 (λhc=>?_) (λ_=>?_)⟩
  ·have e:=of_decide_eq_true hc
   injection e with e1 e;injection e with e2 e;subst e1 e2;refine ⟨_,rfl,?_⟩;have u:=jV (t:=0*b2+t2*1) (b:=1*b2) (by omega) (by omega) T.am (by rw [Co,Int.zero_add,Int.one_mul,Int.mul_one]);rw [u.1,u.2] at k;exact k q H (Same.refl H) T.sq
  ·refine ⟨p,_,_,rfl,T.sp,rfl,q,_,_,rfl,hs,rfl,_,_,rfl,rfl,⟨b6 T.st1,b6 T.sb2⟩,q,_,_,rfl,hs,rfl,p,_,_,rfl,T.sp,rfl,_,_,rfl,rfl,⟨b6 T.st2,b6 T.sb1⟩,_,_,rfl,rfl,?_⟩
   exact ⟨p,_,_,rfl,T.sp,rfl,q,_,_,rfl,hs,rfl,_,_,rfl,rfl,⟨b6 T.sb1,b6 T.sb2⟩,_,_,rfl,by omega,bs.1,bs.2.mono (by decide),k⟩
def fP:FnScope ["one","found","ware","part"] ["one"] (aI sWholeM):=fnScOk (by decide +kernel)
def wG {f aN:Addr}{fd:Bf}(F:Fun K "whole" "whole" sWholeM f fd)(mN:mg "NOUGHT" = some (.ref aN))(sN:∀ H:Hp,SqT K H aN [.int 0,.int 1])(cP:Cal P w K mg base CX0 3 "plus" ["one","other"] (qL K)):FnOk P w K mg base CX0 4 f fd ["one"] (hW K):=by
 refine F.ok fP (λvs H Q E h=>?_) (λcdv A outer s H vs Q E hr h=>?_)
 ·obtain ⟨_,_,_,_,rfl,_⟩:=h
  rfl
 ·obtain ⟨m,us,xs,M,rfl,hm,pr,ov,M0,bM,bS,k⟩:=h
  refine ⟨_,(aD (aM (i:=1) fP.nd rfl (Or.inl rfl) (dP (v:=.ref aN) rfl mN rfl))
   (aD (dN AV rfl (jR (pv 0)) (iT rfl (cY (bA (i:=2) fP.nd rfl (Or.inl rfl)) (cY (bA (i:=3) fP.nd rfl (Or.inl rfl)) fK)))
    (aG (aM (i:=1) fP.nd rfl (Or.inl rfl) (aJ cP hr rfl aQ (aA (pv 1) (aA (pv 3) aC))))))
   (aG (aL (pv 1))))),?_⟩
  refine cut3 ?_
  intros
  refine ⟨_,rfl,m,rfl,⟨_,hm⟩,?_⟩;refine lO (xs:=us) (λi σ H'=>∃ (g:Addr) (t b:Int) (v2 v3:Option V),σ=[some (.ref m),some (.ref g),v2,v3]/\SqT K H' g [.int t,.int b]/\Fr M t b (sumN M (xs.take i))/\Same H H')
   ⟨aN,0,1,none,none,rfl,sN H,Fr.zero,Same.refl H⟩ ?_ ?_ ?_
  ·rintro i σ H' hi ⟨_,_,_,_,_,rfl,_,_,s2⟩
   exact s2.tup hm
  ·rintro i v σ H2 hv ⟨g,t,b,v2,v3,rfl,hg,fr,s2⟩
   obtain ⟨x,hx,p,q,rfl,h1,h2⟩:=pr.get hv;refine ⟨p,_,rfl,SqT.of (s2 _ _ h1),rfl,_,_,rfl,_,_,rfl,rfl,?_⟩;obtain ⟨am,dv⟩:=ov x (Av hx);have frx:Fr M x.2.1 x.2.2 (nOf M x):=Fr.of am dv;have sm:=dQ M0 fr;have smx:=dQ M0 frx;have n1:=fr.nonneg M0;have n2:=frx.nonneg M0;have fb:=fr.am;have bN:=bS i;have bN1:=bS (i+1);rw [iI hx] at bN1;have bx:Bt 3000 (nOf M x):=bN1.le n2 (by omega);refine ⟨_,rfl,_,rfl,g,q,t,b,x.2.1,x.2.2,rfl,⟨hg,s2 _ _ h2,fb.t0,fb.b1,am,(bN.le fb.t0 sm.1).mono (by decide),(bM.le (by have:=fb.b1;omega) sm.2).mono (by decide),(bx.le am.t0 smx.1).mono (by decide),(bM.le (by have:=am.b1;omega) smx.2).mono (by decide)⟩,λr H3 s3 h3=>?_⟩;refine ⟨r,_,_,_,_,rfl,SqT.of h3,?_,s2.trans s3⟩;rw [iI hx];exact fr.plus frx
  ·rintro σ H2 ⟨g,t,b,v2,v3,rfl,hg,fr,s2⟩
   rw [pr.length,BH] at fr;exact ⟨_,rfl,k g t b H2 s2 hg fr⟩
end
def NW (M:Int)(xs:List (Str×Int×Int))(y:Str):Int:=sumN M (xs.filter λx=>decide (x.1=y))
theorem aEq {M:Int}{xs:List (Str×Int×Int)}{i:Nat}{x:Str×Int×Int}(h:xs[i]?=some x)(y:Str):NW M (xs.take (i+1)) y=NW M (xs.take i) y+(if x.1=y then nOf M x else 0):=by
 unfold NW sumN;rw [CQ,h,DI,Bs,Fh]
 congr 1
 by_cases e:x.1=y
 ·simp [e]
 ·simp [e]
theorem eP {M:Int}(h:y∉xs.map (·.1)):NW M xs y=0:=by
 unfold NW;rw [List.filter_eq_nil_iff.mpr (λx hx e=>h (AS.mpr ⟨x,hx,of_decide_eq_true e⟩))];rfl
def dA {M:Int}(hM:0<M)(h:Over M xs):0<=sumN M xs:=by
 induction xs with
 |nil=>exact DS _
 |cons x r ih=>
  have h1:=ih λy hy=>h y (Aj _ hy);have h2:=(Fr.of (h x Au).1 (h x Au).2).nonneg hM;show 0<=((x::r).map (nOf M)).sum;rw [Al,AL];exact Int.add_nonneg h2 h1
theorem qH {M:Int}(hM:0<M)(p:Str×Int×Int->Bool):∀ {xs:List (Str×Int×Int)},Over M xs->sumN M (xs.filter p)<=sumN M xs
 |[],_=>DS _
 |x::r,h=>by
  have h1:=qH hM p (xs:=r) λy hy=>h y (Aj _ hy);have h2:=(Fr.of (h x Au).1 (h x Au).2).nonneg hM;have e2:sumN M (x::r)=nOf M x+sumN M r:=by unfold sumN;rw [Al,AL]
  rw [e2];cases hp:p x with
  |true=>
   rw [Ey hp];have e1:sumN M (x::r.filter p)=nOf M x+sumN M (r.filter p):=by unfold sumN;rw [Al,AL]
   rw [e1];exact Int.add_le_add_left h1 _
  |false=>
   rw [Ez (by rw [hp];exact AC)];have:0<=nOf M x:=h2;omega
theorem eW {M:Int}(hM:0<M):∀ {xs:List (Str×Int×Int)} (i:Nat),Over M xs->sumN M (xs.take i)<=sumN M xs
 |[],i,_=>by rw [List.take_nil];exact DS _
 |x::r,0,h=>dA hM h
 |x::r,i+1,h=>by
  have h1:=eW hM (xs:=r) i λy hy=>h y (Aj _ hy);have e2:sumN M (x::r)=nOf M x+sumN M r:=by unfold sumN;rw [Al,AL]
  have e1:sumN M (x::r.take i)=nOf M x+sumN M (r.take i):=by unfold sumN;rw [Al,AL]
  rw [List.take_succ_cons,e1,e2];exact Int.add_le_add_left h1 _
def Over.take {M:Int}(h:Over M xs)(i:Nat):Over M (xs.take i):=λx hx=>h x (List.mem_of_mem_take hx)
def Over.filter {M:Int}(h:Over M xs)(p:Str×Int×Int->Bool):Over M (xs.filter p):=λx hx=>h x (List.mem_filter.mp hx).1
def uE {M:Int}(hM:0<M)(h:Over M xs)(i:Nat)(y:Str):0<=NW M (xs.take i) y/\NW M (xs.take i) y<=sumN M xs:=
 ⟨dA hM ((h.take i).filter _),Ep (qH hM _ (h.take i)) (eW hM i h)⟩
def aG4 (M:Int)(xs ys:List (Str×Int×Int)):Prop:=∃ ks:List Str,sortedS ks=true/\ks.Nodup/\(∀ y,y∈ks↔y∈xs.map (·.1))/\ys.map (·.1)=ks.filter (λy=>decide (NW M xs y≠0))/\∀ p∈ys,Fr M p.2.1 p.2.2 (NW M xs p.1)
theorem rC {M:Int}(hM:0<M){f:Str->Int}:∀ {ys zs:List (Str×Int×Int)},ys.map (·.1)=zs.map (·.1)->(∀ p∈ys,Fr M p.2.1 p.2.2 (f p.1))->(∀ p∈zs,Fr M p.2.1 p.2.2 (f p.1))->ys=zs
  |[],[],_,_,_=>rfl
  |[],_::_,e,_,_=>by simp at e
  |_::_,[],e,_,_=>by simp at e
  |(w1,t1,b1)::ys,(w2,t2,b2)::zs,e,h1,h2=>by
    simp only [Al,List.cons.injEq] at e;obtain ⟨e1,e2⟩:=e;subst e1;have a1:=h1 _ Au;have a2:=h2 _ Au;obtain ⟨u1,u2⟩:=Fr.uniq hM a1 a2;simp only at u1 u2;subst u1 u2;rw [rC hM e2 (λp hp=>h1 p (Aj _ hp)) (λp hp=>h2 p (Aj _ hp))]
structure DK (kvs:List (Key×V))(ks:List Str):Prop where
 keys:kvs.map (·.1)=ks.map AN
 nd:ks.Nodup
def DK.nil:DK [] []:=⟨rfl,.nil⟩
theorem DK.len (h:DK kvs ks):kvs.length=ks.length:=by
 have:=congrArg List.length h.keys;rwa [Ag,Ag] at this
theorem DK.get (h:DK kvs ks)(y:Str):(valV kvs (AN y)).isSome=true↔y∈ks:=by
 rw [<- eS,List.any_eq_true];constructor
 ·rintro ⟨kv,hm,e⟩
  have e':kv.1=AN y:=of_decide_eq_true e;have:kv.1∈ks.map AN:=by rw [<- h.keys];exact AS.mpr ⟨kv,hm,rfl⟩
  obtain ⟨z,hz,ez⟩:=AS.mp this;rw [e'] at ez;cases ez;exact hz
 ·intro hy
  have:AN y∈kvs.map (·.1):=by rw [h.keys];exact AS.mpr ⟨y,hy,rfl⟩
  obtain ⟨kv,hm,e⟩:=AS.mp this;exact ⟨kv,hm,decide_eq_true e⟩
def DK.put (h:DK kvs ks)(y:Str)(v:V):∃ ks',DK (putK kvs (AN y) v) ks'/\(∀ z,z∈ks'↔z∈ks\/z=y)/\ks'.length<=ks.length+1:=by
 unfold putK;split
 ·rename_i hany
  have hy:y∈ks:=(h.get y).mp (by rw [<- eS];exact hany);refine ⟨ks,⟨?_,h.nd⟩,λz=>⟨.inl,λq=>q.elim id λe=>e▸hy⟩,Dm _⟩;rw [<- h.keys,CC];refine Em λkv _=>?_;show (if kv.1=AN y then (kv.1,v) else kv).1=kv.1;split<;>rfl
 ·rename_i hany
  have hy:y∉ks:=λq=>hany (by rw [eS];exact (h.get y).mpr q);refine ⟨ks++[y],⟨by rw [Bs,Bs,h.keys];rfl,?_⟩,λz=>by simp,by simp⟩;exact List.nodup_append.mpr ⟨h.nd,by simp,λa ha b hb e=>hy (by rw [AB.mp hb] at e;exact e▸ha)⟩
def DN (M:Int)(xs:List (Str×Int×Int))(kvs:List (Key×V))(ks:List Str):Prop:=DK kvs ks/\(∀ y,y∈ks↔y∈xs.map (·.1))/\∀ y,y∈ks->valV kvs (AN y)=some (.int (NW M xs y))
def DA (H:Hp)(M:Int)(xs:List (Str×Int×Int))(kvs:List (Key×V))(ks:List Str):Prop:=DK kvs ks/\(∀ y,y∈ks↔y∈xs.map (·.1))/\∀ y,y∈ks->∃ (p:Addr) (t b:Int),valV kvs (AN y)=some (.ref p)/\H p=some (.tup [.int t,.int b])/\Fr M t b (NW M xs y)
def DA.keep {M:Int}(h:DA H M xs kvs ks)(k:Tk H H'):DA H' M xs kvs ks:=⟨h.1,h.2.1,λy hy=>by
 obtain ⟨p,t,b,e1,e2,e3⟩:=h.2.2 y hy;exact ⟨p,t,b,e1,k _ _ e2,e3⟩⟩
theorem sL {xs:List (Str×Int×Int)}{i:Nat}{x:Str×Int×Int}(h:xs[i]?=some x)(y:Str):y∈(xs.take (i+1)).map (·.1)↔y∈(xs.take i).map (·.1)\/y=x.1:=by
 rw [CQ,h,Bs,Br];simp
def DA.step {H:Hp}{M:Int}{xs:List (Str×Int×Int)}{kvs:List (Key×V)}{ks:List Str}{i:Nat}{x:Str×Int×Int}{r:Addr}{t b:Int}(hx:xs[i]?=some x)(h:DA H M (xs.take i) kvs ks)(hr:H r=some (.tup [.int t,.int b]))(fr:Fr M t b (NW M (xs.take i) x.1+nOf M x)) :
  ∃ ks',DA H M (xs.take (i+1)) (putK kvs (AN x.1) (.ref r)) ks'/\ks'.length<=ks.length+1:=by
 obtain ⟨ks',d',m',l'⟩:=h.1.put x.1 (.ref r);refine ⟨ks',⟨d',λy=>by rw [m',h.2.1,sL hx],λy hy=>?_⟩,l'⟩;rw [qB,aEq hx]
 by_cases e:y=x.1
 ·subst e
  rw [if_pos rfl,if_pos rfl];exact ⟨r,t,b,rfl,hr,fr⟩
 ·rw [if_neg (λz=>e (AN.inj z)),if_neg (λz=>e z.symm),Int.add_zero]
  exact h.2.2 y (((m' y).mp hy).resolve_right e)
def Tk.dk {l:Addr}(h:H l=some (.dK kvs)):Tk H (upd H l o):=λb ys e=>by
 have ne:b≠l:=λz=>by rw [z,h] at e;cases e
 rw [aH ne];exact e
def vTx:V->Str
 |.str s=>s
 |_=>""
def MixP (M:Int)(xs:List (Str×Int×Int))(x y:V)(H:Hp):Prop:=∃ (p q:Addr) (t b:Int),y=.ref p/\H p=some (.tup [x,.ref q])/\H q=some (.tup [.int t,.int b])/\Fr M t b (NW M xs (vTx x))
theorem rK {M:Int}:∀ (ss:List Str) (ys:List V),ys.length=ss.length->(∀ (i:Nat) (x y:V),(ss.map V.str)[i]?=some x->ys[i]?=some y->MixP M xs x y H)->∃ zs,PrL H ys zs/\zs.map (·.1)=ss/\∀ p∈zs,Fr M p.2.1 p.2.2 (NW M xs p.1)
 |[],[],_,_=>⟨[],.nil,rfl,(λ_ h=>nomatch h)⟩
 |s::ss,y::ys,hl,h=>by
  obtain ⟨zs,z1,z2,z3⟩:=rK ss ys (by simpa using hl) λi x y hx hy=>h (i+1) x y (by simpa using hx) (by simpa using hy);obtain ⟨p,q,t,b,rfl,hp,hq,fr⟩:=h 0 (.str s) y rfl rfl;refine ⟨(s,t,b)::zs,.cons ⟨p,q,rfl,hp,hq⟩ z1,by rw [Al,z2],λr hr=>?_⟩
  rcases AE.mp hr with rfl|hr
  ·exact fr
  ·exact z3 r hr
 |[],_::_,hl,_=>by simp at hl
 |_::_,[],hl,_=>by simp at hl
theorem rS (p:V->Bool)(q:Str->Bool)(e:∀ s,p (.str s)=q s):∀ ss:List Str,(ss.map V.str).filter p=(ss.filter q).map V.str
 |[]=>rfl
 |s::r=>by
  rw [Al,List.filter_cons,List.filter_cons,e,rS p q e r];split<;>rfl
def iK (K:Aa):Sp:=λvs H Q _=>∃ (l:Addr) (us:List V) (xs:List (Str×Int×Int)) (M:Int),vs=[.ref l]/\SqL K H l us/\PrL H us xs/\xs.length<=63/\Over M xs/\0<M/\Bt 3000 M/\Bt 3000 (sumN M xs) /\
 ∀ m zs ys H',Same H H'->H' m=some (.tup zs)->PrL H' zs ys->aG4 M xs ys->Q (.ref m) H'
section
variable {P:Az}{w:World}{K:Aa}{mg:Str->Option Value}{base:Heap}
def fQ:FnScope ["pairs","sums","ware","part"] ["pairs"] (aI sMixture):=fnScOk (by decide +kernel)
def nd2:(["ware","sums"]:List Str).Nodup:=by decide +kernel
def tI {f aN:Addr}{fd:Bf}(F:Fun K "mixture" "mixture" sMixture f fd)(T:Txt mg)(mN:mg "NOUGHT" = some (.ref aN))(sN:∀ H:Hp,SqT K H aN [.int 0,.int 1])(cP:Cal P w K mg base CX0 3 "plus" ["one","other"] (qL K)):FnOk P w K mg base CX0 4 f fd ["pairs"] (iK K):=by
 refine F.ok fQ (λvs H Q E h=>?_) (λcdv A outer s H vs Q E hr h=>?_)
 ·obtain ⟨_,_,_,_,rfl,_⟩:=h
  rfl
 ·obtain ⟨l,us,xs,M,rfl,hl,pr,xl,ov,M0,bM,bS,k⟩:=h
  refine ⟨_,(aD (aM (i:=1) fQ.nd rfl (Or.inr rfl) qZ)
   (aD (dN AV rfl (vQ (pv 0)) (iT rfl (cY (bA (i:=2) fQ.nd rfl (Or.inl rfl)) (cY (bA (i:=3) fQ.nd rfl (Or.inl rfl)) fK)))
    (aG (pD (jK hr) (pv 1) (pv 2) (aJ cP hr rfl aQ (aA (rA (jK hr) (pv 1) (pv 2) (dP (v:=.ref aN) rfl mN rfl) ⟨rfl,rfl,rfl,rfl⟩) (aA (pv 3) aC))) rfl)))
   (aG (aL (aZ bR rfl T.tup' dS (aA (iB (N':=["ware","sums"]) (λσ=>[none,some 1].map λt=>t.bind λj=>(σ[j]?).join) rfl rfl (by decide +kernel) (by decide +kernel)
     (aAu (sc:=aI sMixture) rfl (by decide +kernel)) (λ_ _ _=>lX (sc:=aI sMixture) (N:=["pairs","sums","ware","part"]) [none,some 1] rfl rfl rfl rfl (by decide +kernel))
     (vQ (aT (pW rfl) rfl T.sorted' boot_sorted (aA (pv 1) aC))) (λ_ _ _ _ _ _=>bA (i:=0) nd2 rfl (Or.inl rfl))
     (λ_ _ _ _ _ _=>zN (aS (aDk (K:=K) rfl hr.units) (iU (jK hr) (pv 1) (pv 0) (λ_ _=>rfl)) (dP (v:=.ref aN) rfl mN rfl) (aV _)))
     (λ_ _ _ _ _ _=>aW (aA (pv 0) (aA (iU (jK hr) (pv 1) (pv 0) (λ_ _=>rfl)) aC)))) aC)))))),?_⟩
  refine cut3 ?_
  intros
  intro d hd;have s1:Same H (upd H d (.dK [])):=Same.upd hd;refine ⟨_,rfl,l,rfl,⟨_,s1.seq hl⟩,?_⟩;refine aAz (xs:=us) (λi σ H'=>∃ (kvs:List (Key×V)) (ks:List Str) (v4 v5:Option V),σ=[some (.ref l),some (.ref d),v4,v5]/\Same H H'/\H' d=some (.dK kvs)/\DA H' M (xs.take i) kvs ks/\ks.length<=i)
   ⟨[],[],none,none,rfl,s1,aB,⟨.nil,λy=>by simp,λy hy=>by simp at hy⟩,Ak _⟩ ?_ ?_ ?_
  ·rintro i σ H' _ ⟨_,_,_,_,rfl,sm,_⟩
   exact sm.seq hl
  ·rintro i v σ H2 hv ⟨kvs,ks,v4,v5,rfl,s2,hd2,da,kl⟩
   obtain ⟨x,hx,p,q,rfl,h1,h2⟩:=pr.get hv;have hi:=(Ae.mp hx).1;have xm:=Av hx;obtain ⟨am,dv⟩:=ov x xm;have frx:Fr M x.2.1 x.2.2 (nOf M x):=Fr.of am dv;obtain ⟨g,t,b,eg,hg,fr⟩:∃ (g:Addr) (t b:Int),(valV kvs (AN x.1)).getD (.ref aN)=.ref g/\SqT K H2 g [.int t,.int b]/\Fr M t b (NW M (xs.take i) x.1):=by
    by_cases hy:x.1∈ks
    ·obtain ⟨p,t,b,e1,e2,e3⟩:=da.2.2 _ hy
     exact ⟨p,t,b,by rw [e1];rfl,SqT.of e2,e3⟩
    ·have:valV kvs (AN x.1)=none:=by
      cases e:valV kvs (AN x.1) with
      |none=>rfl
      |some v=>exact absurd ((da.1.get x.1).mp (by rw [e];rfl)) hy
     refine ⟨aN,0,1,by rw [this];rfl,sN _,?_⟩;rw [eP (λz=>hy ((da.2.1 _).mpr z))];exact Fr.zero
   have two:Two K H2 g q t b x.2.1 x.2.2:=by
    have nw:=uE M0 ov i x.1;have sm:=dQ M0 fr;have smx:=dQ M0 frx;have nx:nOf M x<=sumN M xs:=by
     have e:=iI (M:=M) hx;have:=eW M0 (i+1) ov;have:=dA M0 (ov.take i);omega
    exact ⟨hg,s2 _ _ h2,fr.am.t0,fr.am.b1,am,(bS.le fr.am.t0 (by omega)).mono (by decide),(bM.le (by have:=fr.am.b1;omega) sm.2).mono (by decide),(bS.le am.t0 (by omega)).mono (by decide),(bM.le (by have:=am.b1;omega) smx.2).mono (by decide)⟩
   refine ⟨p,_,rfl,SqT.of (s2 _ _ h1),rfl,_,_,rfl,_,_,rfl,rfl,?_⟩;refine ⟨_,rfl,d,rfl,.inl ⟨kvs,.inl hd2⟩,_,rfl,_,DGet.k (k:=AN x.1) hd2,?_⟩;rw [eg];refine ⟨_,rfl,_,q,t,b,x.2.1,x.2.2,rfl,two,λr H3 s3 h3=>?_⟩;obtain ⟨ks',da',kl'⟩:=(da.keep (Same.tk s3)).step hx h3 (fr.plus frx);have hd3:=s3 _ _ hd2;refine ⟨_,rfl,_,rfl,d,_,rfl,DPut.k (k:=AN x.1) hd3 (bP (by rw [da.1.len];omega)),?_⟩;refine ⟨_,ks',_,_,rfl,λb o hb=>?_,aB,da'.keep (Tk.dk hd3),by omega⟩;rw [aH (bE hb hd)];exact s3 _ _ (s2 _ _ hb)
  ·rintro σ H2 ⟨kvs,ks,v4,v5,rfl,s2,hd2,da,kl⟩
   rw [pr.length,BH] at da;have kl2:ks.length<=63:=by have:=pr.length;omega
   refine ⟨_,rfl,d,kvs,ks,rfl,hd2,da.1.keys,(by rw [da.1.len];omega),λa ss' pm so ha=>?_⟩;have hd3:upd H2 a (.lst (ss'.map V.str)) d=some (.dK kvs):=Same.upd ha _ _ hd2;have da3:=da.keep (Same.tk (Same.upd ha (o:=.lst (ss'.map V.str))));have sl:(ss'.map V.str).length=ss'.length:=Ag ..;have pl:=pm.length_eq;refine ⟨a,rfl,⟨_,SqL.of aB⟩,λD hD=>?_⟩;refine yG (Ys.list (SqL.of aB)) (λv=>decide (NW M xs (vTx v)≠0)) (MixP M xs) ?_ hD (by omega) (λi x H' R1 R2 hx sm h1 h2=>?_) (λys H4 sm4 hD4 yl hy=>?_)
   ·rintro x y H5 H6 ⟨p,q,t,b,e,hp,hq,fr⟩ tk
    exact ⟨p,q,t,b,e,tk _ _ hp,tk _ _ hq,fr⟩
   ·rw [As] at hx
    obtain ⟨c,hc,rfl⟩:=BB.mp hx;obtain ⟨g,t,b,e1,e2,e3⟩:=da3.2.2 c (pm.mem_iff.mp (Av hc));have hdd:=sm _ _ hd3;have e2':=sm _ _ e2;have nz:=e3.nought M0;have gg:DGet H' d (.str c) (some (.ref g)):=by
     have:=DGet.k (k:=AN c) hdd;rw [e1] at this;exact this
    refine ⟨(Keep.refl _).set rfl,_,rfl,_,rfl,d,_,rfl,gg,g,aN,[t,b],[0,1],rfl,rfl,SqT.of e2',sN _,_,rfl,ite2 (λhf=>?_) (λhf=>?_)⟩
    ·have hn:NW M xs c≠0:=λz=>by
      have t0:=nz.mp z;rw [z,t0] at e3;obtain ⟨_,u2⟩:=Fr.uniq M0 e3 Fr.zero;rw [t0,u2] at hf;exact absurd hf (by decide)
     refine ⟨_,rfl,_,rfl,_,rfl,d,_,rfl,gg,(show 2<=Ax by decide +kernel),λl' hl'=>?_⟩;exact h1 (decide_eq_true hn) _ _ (Same.upd hl') ⟨l',g,t,b,rfl,aB,Same.upd hl' _ _ e2',e3⟩
    ·have hn:NW M xs c=0:=nz.mpr (by
      by_cases e:[t,b]=[0,1]
      ·injection e
      ·exact absurd (by rw [decide_eq_false e];rfl) hf)
     exact h2 (decide_eq_false λz=>z hn) _ (Same.refl _)
   ·have ef:=rS (λv=>decide (NW M xs (vTx v)≠0)) (λy=>decide (NW M xs y≠0)) (λ_=>rfl) ss'
    rw [ef] at yl hy;obtain ⟨zs,z1,z2,z3⟩:=rK _ ys (by rw [yl,Ag]) hy;refine ⟨D,ys,rfl,.inl ⟨SqL.of hD4,λm hm=>?_⟩⟩;have s5:Same H4 (upd H4 m (.tup ys)):=Same.upd hm;exact k m ys zs _ (((s2.trans (Same.upd ha)).trans sm4).trans s5) aB (z1.keep (Same.tk s5)) ⟨ss',so,pm.nodup_iff.mpr da.1.nd,λy=>by rw [pm.mem_iff,da.2.1],z2,z3⟩
end
def dOf (x:Str×Int×Int):Dt:=.t [.s x.1,.t [.i x.2.1,.i x.2.2]]
def PrL.append (h:PrL H vs xs)(k:PrL H us ys):PrL H (vs++us) (xs++ys):=by
 induction h with
 |nil=>exact k
 |cons p _ ih=>exact .cons p ih
theorem aGs {M:Int}{N:Int}(h:Fr M x.2.1 x.2.2 N):nOf M x=N:=by
 have e:=h.e;obtain ⟨c,hc⟩:=h.dvd;have b1:=h.am.b1;unfold K33.nOf;rw [hc,Dw _ (by omega)];rw [hc] at e;have e2:x.2.2*(x.2.1*c)=x.2.2*N:=by
  rw [BZ _ N,<- e,<- Bp,<- Bp,BZ x.2.2]
 exact Int.eq_of_mul_eq_mul_left (by omega) e2
theorem aBd {n:Int}:∀ {ks:List Str},ks.Nodup->y∈ks->(ks.map λk=>if y=k then n else 0).sum=n
 |[],_,h=>by simp at h
 |k::ks,nd,h=>by
  rw [Al,AL];have nd':=BO.mp nd
  by_cases e:y=k
  ·subst e
   rw [if_pos rfl];have:∀ (ks:List Str),y∉ks->(ks.map λk=>if y=k then n else 0).sum=0:=by
    intro ks
    induction ks with
    |nil=>intro _;rfl
    |cons z r ih=>
     intro hz;rw [Al,AL,if_neg (λe:y=z=>hz (e▸Au)),ih (λq=>hz (Aj _ q))];rfl
   rw [this ks nd'.1];omega
  ·rw [if_neg e,aBd nd'.2 ((AE.mp h).resolve_left e)]
   omega
theorem mB {M:Int}(y:Str):NW M (x::xs) y=(if x.1=y then nOf M x else 0)+NW M xs y:=by
 unfold NW sumN
 by_cases e:x.1=y
 ·rw [Ey (by simpa using e),if_pos e,Al,AL]
 ·rw [Ez (by simpa using e),if_neg e]
  omega
theorem sum_add {f g:Str->Int}:∀ (ks:List Str),(ks.map λk=>f k+g k).sum=(ks.map f).sum+(ks.map g).sum
 |[]=>rfl
 |k::r=>by
  rw [Al,Al,Al,AL,AL,AL,sum_add r];omega
theorem oO {M:Int}{ks:List Str}(nd:ks.Nodup):∀ {xs:List (Str×Int×Int)},(∀ x∈xs,x.1∈ks)->(ks.map (NW M xs)).sum=sumN M xs
 |[],_=>by
  have:∀ r:List Str,(r.map (NW M [])).sum=0:=by
   intro r
   induction r with
   |nil=>rfl
   |cons k r ih=>rw [Al,AL,ih];rfl
  exact this ks
 |x::xs,h=>by
  have e:(ks.map (NW M (x::xs)))=ks.map λk=>(if x.1=k then nOf M x else 0)+NW M xs k:=Em λk _=>mB k;rw [e,sum_add,aBd nd (h x Au),oO nd λy hy=>h y (Aj _ hy)];unfold sumN;rw [Al,AL]
abbrev leS (a b:Str):Prop:=a.cps.toList<=b.cps.toList
def aC7 {a b:List Str}(h:a.Perm b)(ha:a.Pairwise leS)(hb:b.Pairwise leS):a=b:=
 h.eq_of_pairwise (le:=leS) (λx y _ _ h1 h2=>TM.ext (EU h1 h2)) ha hb
structure IsMx (M:Int)(f:Str->Int)(ys:List (Str×Int×Int)):Prop where
 pw:(ys.map (·.1)).Pairwise leS
 nd:(ys.map (·.1)).Nodup
 mem:∀ y,y∈ys.map (·.1)↔f y≠0
 fr:∀ p∈ys,Fr M p.2.1 p.2.2 (f p.1)
def IsMx.of {M:Int}(h:aG4 M xs ys):IsMx M (NW M xs) ys:=by
 obtain ⟨ks,so,nd,mm,em,fr⟩:=h;refine ⟨?_,?_,λy=>?_,fr⟩
 ·rw [em]
  exact (iN so).filter _
 ·rw [em]
  exact nd.filter _
 ·rw [em,List.mem_filter]
  constructor
  ·exact λz=>of_decide_eq_true z.2
  ·intro z
   refine ⟨(mm y).mpr ?_,decide_eq_true z⟩
   by_cases hy:y∈xs.map (·.1)
   ·exact hy
   ·exact absurd (eP hy) z
def IsMx.congr {M:Int}{f g:Str->Int}(h:IsMx M f ys)(e:∀ y,f y=g y):IsMx M g ys:=by
 have:f=g:=funext e;exact this▸h
def IsMx.uniq {M:Int}(hM:0<M){f:Str->Int}(h:IsMx M f ys)(k:IsMx M f zs):ys=zs:=by
 have e:ys.map (·.1)=zs.map (·.1):=aC7 ((List.perm_ext_iff_of_nodup h.nd k.nd).mpr λy=>by rw [h.mem,k.mem]) h.pw k.pw;exact rC hM e h.fr k.fr
def IsMx.over {M:Int}{f:Str->Int}(h:IsMx M f ys):Over M ys:=λx hx=>⟨(h.fr x hx).am,(h.fr x hx).dvd⟩
theorem IsMx.nw {M:Int}{f:Str->Int}(h:IsMx M f ys)(y:Str):NW M ys y=f y:=by
 have key:∀ (ys:List (Str×Int×Int)),(ys.map (·.1)).Nodup->(∀ p∈ys,Fr M p.2.1 p.2.2 (f p.1))->NW M ys y=if y∈ys.map (·.1) then f y else 0:=by
  intro ys
  induction ys with
  |nil=>intro _ _;rfl
  |cons x r ih=>
   intro nd fr;rw [Al] at nd;have nd':=BO.mp nd;rw [mB,ih nd'.2 λp hp=>fr p (Aj _ hp)]
   by_cases e:x.1=y
   ·subst e
    rw [if_pos rfl,if_neg nd'.1,if_pos (by simp),aGs (fr x Au)];omega
   ·rw [if_neg e]
    by_cases m:y∈r.map (·.1)
    ·rw [if_pos m,if_pos (by rw [Al];exact Aj _ m)]
     omega
    ·rw [if_neg m,if_neg (by
      rw [Al,AE]
      rintro (z|z)
      ·exact e z.symm
      ·exact m z)]
     rfl
 rw [key ys h.nd h.fr];split
 ·rfl
 ·rename_i hn
  by_cases z:f y=0
  ·exact z.symm
  ·exact absurd ((h.mem y).mpr z) hn
theorem jI {M:Int}(xs ys:List (Str×Int×Int))(y:Str):NW M (xs++ys) y=NW M xs y+NW M ys y:=by
 unfold NW sumN;rw [DI,Bs,Fh]
theorem oS {M:Int}(xs ys:List (Str×Int×Int)):sumN M (xs++ys)=sumN M xs+sumN M ys:=by
 unfold sumN;rw [Bs,Fh]
def Brt (M N ta ba:Int):List (Str×Int×Int)->List (Str×Int×Int)->Prop
 |[],[]=>True
 |x::xs,z::zs=>z.1=x.1/\Fr (N*ba) z.2.1 z.2.2 (nOf M x*ta)/\Brt M N ta ba xs zs
 |_,_=>False
structure Tw (K:Aa)(H:Hp)(p q:Addr)(t1 b1 t2 b2:Int):Prop where
 sp:SqT K H p [.int t1,.int b1]
 sq:SqT K H q [.int t2,.int b2]
 a1:Amt t1 b1
 a2:Amt t2 b2
 st1:Bt 4000 t1
 sb1:Bt 4000 b1
 st2:Bt 4000 t2
 sb2:Bt 4000 b2
def uR (K:Aa):Sp:=λvs H Q _=>∃ (p q:Addr) (t1 b1 t2 b2:Int),vs=[.ref p,.ref q]/\Tw K H p q t1 b1 t2 b2 /\
 RetT H Q [(t1*t2)/G (t1*t2) (b1*b2),(b1*b2)/G (t1*t2) (b1*b2)]
def aCp (K:Aa):Sp:=λvs H Q _=>∃ (m1 m2:Addr) (us1 us2:List V) (ys1 ys2:List (Str×Int×Int)) (M:Int),vs=[.ref m1,.ref m2]/\SqT K H m1 us1/\PrL H us1 ys1/\SqT K H m2 us2/\PrL H us2 ys2 /\
 ys1.length+ys2.length<=63/\Over M ys1/\Over M ys2/\0<M/\Bt 3000 M/\Bt 3000 (sumN M (ys1++ys2)) /\
 ∀ m zs ys H',Same H H'->H' m=some (.tup zs)->PrL H' zs ys->IsMx M (λy=>NW M ys1 y+NW M ys2 y) ys->Q (.ref m) H'
def mul1 {a b:Int}(ha:1<=a)(hb:1<=b):1<=a*b:=by
 have:=ER ha hb (by decide) (by omega);omega
def fO (K:Aa):Sp:=λvs H Q _=>∃ (p q:Addr) (t1 b1 t2 b2:Int),vs=[.ref p,.ref q]/\Tw K H p q t1 b1 t2 b2/\Q (.bl (decide (t1*b2<t2*b1))) H
def kU (K:Aa):Sp:=λvs H Q _=>∃ (p q:Addr) (t1 b1 t2 b2:Int),vs=[.ref p,.ref q]/\Tw K H p q t1 b1 t2 b2/\t2*b1<=t1*b2 /\
 RetT H Q [(t1*b2-t2*b1)/G (t1*b2-t2*b1) (b1*b2),(b1*b2)/G (t1*b2-t2*b1) (b1*b2)]
def iE {M1 M2 t1 b1 n1 t2 b2 n2:Int}(h1:0<M1)(h2:0<M2)(f1:Fr M1 t1 b1 n1)(f2:Fr M2 t2 b2 n2)(le:n2*M1<=n1*M2):t2*b1<=t1*b2/\Fr (M1*M2) ((t1*b2-t2*b1)/G (t1*b2-t2*b1) (b1*b2)) ((b1*b2)/G (t1*b2-t2*b1) (b1*b2)) (n1*M2-n2*M1):=by
 have e1:=f1.e;have e2:=f2.e;have a1:=f1.am.b1;have a2:=f2.am.b1;have bb:1<=b1*b2:=mul1 a1 a2;have MM:0<M1*M2:=Ba h1 h2;have key:(t1*b2-t2*b1)*(M1*M2)=(n1*M2-n2*M1)*(b1*b2):=by grind
 have le':0<=t1*b2-t2*b1:=by
  have r:0<=(n1*M2-n2*M1)*(b1*b2):=Bk (by omega) (by omega);rw [<- key] at r;exact Int.nonneg_of_mul_nonneg_left r MM
 refine ⟨by omega,gN le' bb,?_⟩;have c:=gA (t1*b2-t2*b1) (b1*b2);generalize (t1*b2-t2*b1)/G (t1*b2-t2*b1) (b1*b2)=x at *
 generalize b1*b2/G (t1*b2-t2*b1) (b1*b2)=y at *
 refine BF (show b1*b2≠0 by omega) ?_
 grind
section
variable {P:Az}{w:World}{K:Aa}{mg:Str->Option Value}{base:Heap}
def aCw:FnScope ["one","other"] ["one","other"] (aI sTimes):=fnScOk (by decide +kernel)
def zX (F:Fun K "times" "times" sTimes f fd)(cL:Cal P w K mg base CX0 2 "lowest_terms" ["top","bottom"] uU):FnOk P w K mg base CX0 3 f fd ["one","other"] (uR K):=by
 refine F.ok aCw (λvs H Q E h=>?_) (λcdv A outer s H vs Q E hr h=>?_)
 ·obtain ⟨_,_,_,_,_,_,rfl,_⟩:=h
  rfl
 ·obtain ⟨p,q,t1,b1,t2,b2,rfl,T,k⟩:=h
  refine ⟨_,aG (aL (aJ cL hr rfl aQ (aA (aK bL (pit 0 0) (pit 1 0)) (aA (aK bL (pit 0 1) (pit 1 1)) aC)))),?_⟩;refine ⟨p,_,_,rfl,T.sp,rfl,q,_,_,rfl,T.sq,rfl,_,_,rfl,rfl,⟨b6 T.st1,b6 T.st2⟩,?_⟩;exact ⟨p,_,_,rfl,T.sp,rfl,q,_,_,rfl,T.sq,rfl,_,_,rfl,rfl,⟨b6 T.sb1,b6 T.sb2⟩,_,_,rfl,Bk T.a1.t0 T.a2.t0,mul1 T.a1.b1 T.a2.b1,(T.sb1.mul T.sb2).mono (by decide),k⟩
def sZ:FnScope ["one","other"] ["one","other"] (aI sTogether):=fnScOk (by decide +kernel)
def pH (F:Fun K "together" "together" sTogether f fd)(T:Txt mg)(cM:Cal P w K mg base CX0 4 "mixture" ["pairs"] (iK K)):FnOk P w K mg base CX0 5 f fd ["one","other"] (aCp K):=by
 refine F.ok sZ (λvs H Q E h=>?_) (λcdv A outer s H vs Q E hr h=>?_)
 ·obtain ⟨_,_,_,_,_,_,_,rfl,_⟩:=h
  rfl
 ·obtain ⟨m1,m2,us1,us2,ys1,ys2,M,rfl,q1,p1,q2,p2,yl,o1,o2,M0,bM,bS,k⟩:=h
  refine ⟨_,(aG (aL (aJ cM hr rfl aQ (aA (aK wC (aZ bX rfl T.list' eO (aA (pv 0) aC)) (aZ bX rfl T.list' eO (aA (pv 1) aC))) aC)))),?_⟩;refine ⟨_,rfl,m1,us1,rfl,.inr q1,λc1 hc1=>?_⟩;have s1:Same H (upd H c1 (.lst us1)):=Same.upd hc1;refine ⟨_,rfl,m2,us2,rfl,.inr (s1.tup q2),λc2 hc2=>?_⟩;have s2:Same (upd H c1 (.lst us1)) (upd (upd H c1 (.lst us1)) c2 (.lst us2)):=Same.upd hc2;have l1:=p1.length;have l2:=p2.length;refine ⟨c1,c2,us1,us2,rfl,rfl,s2 _ _ aB,aB,bO (by omega),λc3 hc3=>?_⟩;have s3:Same (upd (upd H c1 (.lst us1)) c2 (.lst us2)) (upd (upd (upd H c1 (.lst us1)) c2 (.lst us2)) c3 (.lst (us1++us2))):=Same.upd hc3;have s13:=(s1.trans s2).trans s3;refine ⟨c3,us1++us2,ys1++ys2,M,rfl,SqL.of aB,(p1.keep (Same.tk s13)).append (p2.keep (Same.tk s13)),by rw [AF];omega,λx hx=>(Br.mp hx).elim (o1 x) (o2 x),M0,bM,bS,λm zs ys H' s' hm pm mx=>?_⟩;exact k m zs ys H' (s13.trans s') hm pm ((IsMx.of mx).congr λy=>jI ys1 ys2 y)
def aDu (F:Fun K "less" "less" sLess f fd):FnOk P w K mg base CX0 1 f fd ["one","other"] (fO K):=by
 refine F.ok aBg (λvs H Q E h=>?_) (λcdv A outer s H vs Q E hr h=>?_)
 ·obtain ⟨_,_,_,_,_,_,rfl,_⟩:=h
  rfl
 ·obtain ⟨p,q,t1,b1,t2,b2,rfl,T,k⟩:=h
  refine ⟨_,aG (aL (dH wA (aK bL (pit 0 0) (pit 1 1)) (aK bL (pit 1 0) (pit 0 1)) (aV _))),?_⟩;refine ⟨p,_,_,rfl,T.sp,rfl,q,_,_,rfl,T.sq,rfl,_,_,rfl,rfl,⟨b6 T.st1,b6 T.sb2⟩,q,_,_,rfl,T.sq,rfl,p,_,_,rfl,T.sp,rfl,_,_,rfl,rfl,⟨b6 T.st2,b6 T.sb1⟩,_,_,rfl,rfl,k⟩
def aCz:FnScope ["one","other"] ["one","other"] (aI sMinus):=fnScOk (by decide +kernel)
def aAc (F:Fun K "minus" "minus" sMinus f fd)(cE:Cal P w K mg base CX0 2 "less" ["one","other"] (fO K))(cL:Cal P w K mg base CX0 2 "lowest_terms" ["top","bottom"] uU):FnOk P w K mg base CX0 3 f fd ["one","other"] (kU K):=by
 refine F.ok aCz (λvs H Q E h=>?_) (λcdv A outer s H vs Q E hr h=>?_)
 ·obtain ⟨_,_,_,_,_,_,rfl,_⟩:=h
  rfl
 ·obtain ⟨p,q,t1,b1,t2,b2,rfl,T,le,k⟩:=h
  refine ⟨_,aD (bF (cV (aJ cE hr rfl aQ (aA (pv 0) (aA (pv 1) aC)))) (aG zM) aP)
   (aG (aL (aJ cL hr rfl aQ (aA (aK rE (aK bL (pit 0 0) (pit 1 1)) (aK bL (pit 1 0) (pit 0 1))) (aA (aK bL (pit 0 1) (pit 1 1)) aC))))),?_⟩
  refine ⟨_,rfl,_,rfl,p,q,t1,b1,t2,b2,rfl,T,_,rfl,?_⟩;rw [decide_eq_false (by omega)];refine iteF ⟨p,_,_,rfl,T.sp,rfl,q,_,_,rfl,T.sq,rfl,_,_,rfl,rfl,⟨b6 T.st1,b6 T.sb2⟩,q,_,_,rfl,T.sq,rfl,p,_,_,rfl,T.sp,rfl,_,_,rfl,rfl,⟨b6 T.st2,b6 T.sb1⟩,_,_,rfl,rfl,?_⟩;exact ⟨p,_,_,rfl,T.sp,rfl,q,_,_,rfl,T.sq,rfl,_,_,rfl,rfl,⟨b6 T.sb1,b6 T.sb2⟩,_,_,rfl,by omega,mul1 T.a1.b1 T.a2.b1,(T.sb1.mul T.sb2).mono (by decide),k⟩
end
def Tw.bot {K:Aa}{H:Hp}{p q:Addr}{t1 b1 t2 b2:Int}(T:Tw K H p q t1 b1 t2 b2):1<=b1*b2/\Bt 8000 (b1*b2):=by
 have:=ER T.a1.b1 T.a2.b1 (by decide) (by have:=T.a1.b1;omega);exact ⟨by omega,T.sb1.mul T.sb2⟩
def Tw.nn {K:Aa}{H:Hp}{p q:Addr}{t1 b1 t2 b2:Int}(T:Tw K H p q t1 b1 t2 b2):0<=t1*b2/\0<=t2*b1/\0<=t1*t2:=
 ⟨Bk T.a1.t0 (by have:=T.a2.b1;omega),Bk T.a2.t0 (by have:=T.a1.b1;omega),Bk T.a1.t0 T.a2.t0⟩
def sX (K:Aa):Sp:=λvs H Q _=>∃ (p q:Addr) (t1 b1 t2 b2:Int),vs=[.ref p,.ref q]/\Tw K H p q t1 b1 t2 b2 /\
 RetT H Q [(t1*b2+t2*b1)/G (t1*b2+t2*b1) (b1*b2),(b1*b2)/G (t1*b2+t2*b1) (b1*b2)]
def mG (K:Aa):Sp:=λvs H Q _=>∃ (p q:Addr) (t1 b1 t2 b2:Int),vs=[.ref p,.ref q]/\Tw K H p q t1 b1 t2 b2/\t2*b1<=t1*b2 /\
 RetT H Q [(t1*b2-t2*b1)/G (t1*b2-t2*b1) (b1*b2),(b1*b2)/G (t1*b2-t2*b1) (b1*b2)]
def spBy (K:Aa):Sp:=λvs H Q _=>∃ (p q:Addr) (t1 b1 t2 b2:Int),vs=[.ref p,.ref q]/\Tw K H p q t1 b1 t2 b2 /\
 RetT H Q [(t1*t2)/G (t1*t2) (b1*b2),(b1*b2)/G (t1*t2) (b1*b2)]
def pairOf:List V->List (Str×Str)->List Str->V
 |u::us,p::ps,xs=>if p.1∈xs/\p.2∈xs then u else pairOf us ps xs
 |_,_,_=>.non
theorem iX {us:List V}{ps:List (Str×Str)}{xs:List Str}{i:Nat}{u:V}{p:Str×Str}(hu:us[i]?=some u)(hp:ps[i]?=some p):pairOf (us.drop i) (ps.drop i) xs=if p.1∈xs/\p.2∈xs then u else pairOf (us.drop (i+1)) (ps.drop (i+1)) xs:=by
 obtain ⟨h1,e1⟩:=Ae.mp hu;obtain ⟨h2,e2⟩:=Ae.mp hp;rw [List.drop_eq_getElem_cons h1,List.drop_eq_getElem_cons h2,e1,e2];rfl
theorem gM :pairOf [] ps xs=.non:=by
 cases ps<;>rfl
def kQ (K:Aa):Sp:=λvs H Q _=>∃ (p r q:Addr) (rs us:List V) (ps:List (Str×Str)) (nm:Addr) (xs:List Str),vs=[.ref p,.ref nm]/\Bn H p r q rs us ps/\SqT K H nm (xs.map V.str)/\Q (pairOf us ps xs) H
def RmL (H:Hp)(rs:List V)(rbs:List (Int×Int)):Prop:=rs.length=rbs.length/\∀ (i:Nat) v rb,rs[i]?=some v->rbs[i]?=some rb->∃ q,v=.ref q/\H q=some (.tup [.int rb.1,.int rb.2])/\Rm rb.1 rb.2
def RmL.keep (h:RmL H rs rbs)(k:Tk H H'):RmL H' rs rbs:=⟨h.1,λi v d hv hd=>by
 obtain ⟨q,e,h1,h2⟩:=h.2 i v d hv hd;exact ⟨q,e,k _ _ h1,h2⟩⟩
theorem RmL.get {ds:List (Int×Int)}(h:RmL H vs ds){i:Nat}(hv:vs[i]?=some v):∃ d,ds[i]?=some d/\∃ q,v=.ref q/\H q=some (.tup [.int d.1,.int d.2])/\Rm d.1 d.2:=by
 obtain ⟨d,hd⟩:∃ d,ds[i]?=some d:=⟨_,Ad (by rw [<- h.1];exact (Ae.mp hv).1)⟩;exact ⟨d,hd,h.2 i v d hv hd⟩
theorem RmsT.list :∀ {rs:List V},RmsT H rs->∃ rbs,RmL H rs rbs
 |[],_=>⟨[],rfl,λi v rb h=>by simp at h⟩
 |u::r,h=>by
  obtain ⟨q,t,b,rfl,sq,rm⟩:=h u (Au ..);obtain ⟨rbs,l,k⟩:=RmsT.list (rs:=r) λx hx=>h x (Aj _ hx);refine ⟨(t,b)::rbs,by rw [AI,AI,l],λi v rb hv hb=>?_⟩;cases i with
  |zero=>
   cases hv;cases hb;exact ⟨q,rfl,sq,rm⟩
  |succ i=>exact k i v rb (by simpa using hv) (by simpa using hb)
theorem xN {M t b N rt rb:Int}(hM:0<M)(h:Fr M t b N):decide (rt*b<t*rb)=decide (rt*M<N*rb):=by
 have b0:0<b:=by have:=h.am.b1;omega
 refine decide_eq_decide.mpr ?_;have e1:rt*b*M=rt*M*b:=AJ ..;have e2:t*rb*M=N*rb*b:=by rw [AJ,h.e,AJ]
 rw [<- Du hM,e1,e2,Du b0]
section
variable {P:Az}{w:World}{K:Aa}{mg:Str->Option Value}{base:Heap}
def aHo:FnScope ["_law_one","_law_other"] ["_law_one","_law_other"] (aI sAdd):=fnScOk (by decide +kernel)
def aF6 {f:Addr}{fd:Bf}(F:Fun K "_law_add" "_law_add" sAdd f fd)(cL:Cal P w K mg base CX0 1 "_law_lowest" ["_law_top","_law_bottom"] dZ):FnOk P w K mg base CX0 2 f fd ["_law_one","_law_other"] (sX K):=by
 refine F.ok aHo (λvs H Q E h=>?_) (λcdv A outer s H vs Q E hr h=>?_)
 ·obtain ⟨_,_,_,_,_,_,rfl,_⟩:=h
  rfl
 ·obtain ⟨p,q,t1,b1,t2,b2,rfl,T,k⟩:=h
  refine ⟨_,aG (aL (aJ cL hr rfl aQ (aA (aK bK (aK bL (pit 0 0) (pit 1 1)) (aK bL (pit 1 0) (pit 0 1))) (aA (aK bL (pit 0 1) (pit 1 1)) aC)))),?_⟩;have nn:=T.nn;refine ⟨p,_,_,rfl,T.sp,rfl,q,_,_,rfl,T.sq,rfl,_,_,rfl,rfl,⟨b6 T.st1,b6 T.sb2⟩,q,_,_,rfl,T.sq,rfl,p,_,_,rfl,T.sp,rfl,_,_,rfl,rfl,⟨b6 T.st2,b6 T.sb1⟩,_,_,rfl,rfl,?_⟩;exact ⟨p,_,_,rfl,T.sp,rfl,q,_,_,rfl,T.sq,rfl,_,_,rfl,rfl,⟨b6 T.sb1,b6 T.sb2⟩,_,_,rfl,by omega,T.bot.1,T.bot.2.mono (by decide),λz H' s _ e=>k z H' s e⟩
def aFb:FnScope ["_law_one","_law_other"] ["_law_one","_law_other"] (aI sTake):=fnScOk (by decide +kernel)
def aDq (F:Fun K "_law_take" "_law_take" sTake f fd)(cL:Cal P w K mg base CX0 1 "_law_lowest" ["_law_top","_law_bottom"] dZ):FnOk P w K mg base CX0 2 f fd ["_law_one","_law_other"] (mG K):=by
 refine F.ok aFb (λvs H Q E h=>?_) (λcdv A outer s H vs Q E hr h=>?_)
 ·obtain ⟨_,_,_,_,_,_,rfl,_⟩:=h
  rfl
 ·obtain ⟨p,q,t1,b1,t2,b2,rfl,T,le,k⟩:=h
  refine ⟨_,aG (aL (aJ cL hr rfl aQ (aA (aK rE (aK bL (pit 0 0) (pit 1 1)) (aK bL (pit 1 0) (pit 0 1))) (aA (aK bL (pit 0 1) (pit 1 1)) aC)))),?_⟩;refine ⟨p,_,_,rfl,T.sp,rfl,q,_,_,rfl,T.sq,rfl,_,_,rfl,rfl,⟨b6 T.st1,b6 T.sb2⟩,q,_,_,rfl,T.sq,rfl,p,_,_,rfl,T.sp,rfl,_,_,rfl,rfl,⟨b6 T.st2,b6 T.sb1⟩,_,_,rfl,rfl,?_⟩;exact ⟨p,_,_,rfl,T.sp,rfl,q,_,_,rfl,T.sq,rfl,_,_,rfl,rfl,⟨b6 T.sb1,b6 T.sb2⟩,_,_,rfl,by omega,T.bot.1,T.bot.2.mono (by decide),λz H' s _ e=>k z H' s e⟩
def scBy:FnScope ["_law_one","_law_other"] ["_law_one","_law_other"] (aI sBy):=fnScOk (by decide +kernel)
def aH5 (F:Fun K "_law_by" "_law_by" sBy f fd)(cL:Cal P w K mg base CX0 1 "_law_lowest" ["_law_top","_law_bottom"] dZ):FnOk P w K mg base CX0 2 f fd ["_law_one","_law_other"] (spBy K):=by
 refine F.ok scBy (λvs H Q E h=>?_) (λcdv A outer s H vs Q E hr h=>?_)
 ·obtain ⟨_,_,_,_,_,_,rfl,_⟩:=h
  rfl
 ·obtain ⟨p,q,t1,b1,t2,b2,rfl,T,k⟩:=h
  refine ⟨_,aG (aL (aJ cL hr rfl aQ (aA (aK bL (pit 0 0) (pit 1 0)) (aA (aK bL (pit 0 1) (pit 1 1)) aC)))),?_⟩;refine ⟨p,_,_,rfl,T.sp,rfl,q,_,_,rfl,T.sq,rfl,_,_,rfl,rfl,⟨b6 T.st1,b6 T.st2⟩,?_⟩;exact ⟨p,_,_,rfl,T.sp,rfl,q,_,_,rfl,T.sq,rfl,_,_,rfl,rfl,⟨b6 T.sb1,b6 T.sb2⟩,_,_,rfl,T.nn.2.2,T.bot.1,T.bot.2.mono (by decide),λz H' s _ e=>k z H' s e⟩
def aCv:FnScope ["_law_one","_law_other"] ["_law_one","_law_other"] (aI sUnder):=fnScOk (by decide +kernel)
def zW (F:Fun K "_law_under" "_law_under" sUnder f fd):FnOk P w K mg base CX0 1 f fd ["_law_one","_law_other"] (fO K):=by
 refine F.ok aCv (λvs H Q E h=>?_) (λcdv A outer s H vs Q E hr h=>?_)
 ·obtain ⟨_,_,_,_,_,_,rfl,_⟩:=h
  rfl
 ·obtain ⟨p,q,t1,b1,t2,b2,rfl,T,k⟩:=h
  refine ⟨_,aG (aL (dH wA (aK bL (pit 0 0) (pit 1 1)) (aK bL (pit 1 0) (pit 0 1)) (aV _))),?_⟩;refine ⟨p,_,_,rfl,T.sp,rfl,q,_,_,rfl,T.sq,rfl,_,_,rfl,rfl,⟨b6 T.st1,b6 T.sb2⟩,q,_,_,rfl,T.sq,rfl,p,_,_,rfl,T.sp,rfl,_,_,rfl,rfl,⟨b6 T.st2,b6 T.sb1⟩,_,_,rfl,rfl,k⟩
def qQ:FnScope ["bench","names","pair"] ["bench","names"] (aI sPairIn):=fnScOk (by decide +kernel)
def wJ {f:Addr}{fd:Bf}(F:Fun K "pair_in" "pair_in" sPairIn f fd):FnOk P w K mg base CX0 1 f fd ["bench","names"] (kQ K):=by
 refine F.ok qQ (λvs H Q E h=>?_) (λcdv A outer s H vs Q E hr h=>?_)
 ·obtain ⟨_,_,_,_,_,_,_,_,rfl,_⟩:=h
  rfl
 ·obtain ⟨p,r,q,rs,us,ps,nm,xs,rfl,bn,hn,k⟩:=h
  refine ⟨_,(aD (dN AV rfl (jR (pit 0 1)) (bA (i:=2) qQ.nd rfl (Or.inl rfl))
    (aG (bF (PW.pt (mT (aS eZ (pit 2 0) (pv 1) rfl) (iQ (aS eZ (pit 2 1) (pv 1) rfl)))) (aG (aL (pv 2))) aP)))
   (aG (aL dU))),?_⟩
  have hq:SqT K H q us:=SqT.of bn.hq;refine ⟨p,_,_,rfl,SqT.of bn.hp,rfl,q,rfl,⟨_,hq⟩,?_⟩;refine lO (xs:=us) (λi σ H'=>∃ v2:Option V,σ=[some (.ref p),some (.ref nm),v2]/\pairOf us ps xs=pairOf (us.drop i) (ps.drop i) xs/\H'=H) ⟨none,rfl,rfl,rfl⟩ ?_ ?_ ?_
  ·rintro i σ H' hi ⟨_,rfl,_,rfl⟩
   exact hq
  ·rintro i v σ H2 hv ⟨v2,rfl,e,rfl⟩
   obtain ⟨y,hy⟩:∃ y,ps[i]?=some y:=⟨_,Ad (by rw [<- bn.pt.1];exact (Ae.mp hv).1)⟩;obtain ⟨z,rfl,hz⟩:=bn.pt.2 i v y hv hy;have hz':SqT K H2 z [.str y.1,.str y.2]:=SqT.of hz;rw [iX hv hy] at e;refine ⟨z,_,_,rfl,hz',rfl,_,rfl,nm,_,rfl,.inr hn,rfl,fB xs,_,rfl,ite2 (λh1=>?_) (λh1=>?_)⟩
   ·have m1:=eN.mp h1
    refine ⟨z,_,_,rfl,hz',rfl,_,rfl,nm,_,rfl,.inr hn,rfl,fB xs,_,rfl,ite2 (λh2=>?_) (λh2=>?_)⟩
    ·rw [if_pos ⟨m1,eN.mp h2⟩] at e
     rw [e] at k;exact ⟨_,rfl,k⟩
    ·rw [if_neg λz=>h2 (eN.mpr z.2)] at e
     exact ⟨_,rfl,e,rfl⟩
   ·rw [if_neg λz=>h1 (eN.mpr z.1)] at e
    exact ⟨_,rfl,e,rfl⟩
  ·rintro σ H2 ⟨v2,rfl,e,rfl⟩
   rw [List.drop_length,gM] at e;rw [e] at k;exact k
end
end K33
namespace L2
open PySem PySem.Spec PyProof.Rows PySem.W
def tTryN (K:Frag)(Dc:Addr)(tb:St->XK->TS)(th:TS):TS:=λD σ H=>tb σ (λcls _ H'=>∃ C,cls=.ref C/\ExK K C/\subIn K (.ref C) (.ref Dc)=some true/\th D σ H') D σ H
section
variable {X:Cx}
end
section
variable {X:Cx}
def aDi (hu:X.A.units+64<cLine):OpR X (BN .NotEq) (λx y H Q=>∃ a b xs,x=.ref a/\y=.ref b/\SqT X.K H a xs/\SqT X.K H b []/\Q (.bl (!xs.isEmpty)) H):=by
 intro pins s σ H x y v u Q I rx ry h;obtain ⟨a,b,xs,rfl,rfl,ha,hb,q⟩:=h;cases rx;cases ry;obtain ⟨its,r,p,_⟩:=I.tuple ha;obtain ⟨its',r',p',_⟩:=I.tuple hb;cases r';obtain ⟨o,o1,o2,n,o3⟩:=p;obtain ⟨o',o1',o2',n',o3'⟩:=p';have key:=SeqAt.RcNeAt.tuples (A:=X.A) (s:=s) (l:=a) (b:=b) (items:=its.toArray) (items2:=#[]) (e:=λ_=>true) ⟨o,o1,o2,n,o3⟩ ⟨o',o1',o2',n',o3'⟩ (by omega) (λj h1 h2=>absurd h2 (by simp));cases r with
 |nil=>exact key X.prog X.w X.xe _ ⟨.bl _,H,I,rfl,q⟩
 |cons r t=>exact key X.prog X.w X.xe _ ⟨.bl _,H,I,rfl,q⟩
end
end L2
namespace L2
open PySem PySem.Spec PyProof.Rows PySem.W PySem.Builtin PySem.Builtin.ObjectAttr
section
variable {X:Cx}{o value:Expr}{x:Str}{pos pos':Pos}{ta tv:TE}{C P f:Addr}
def sExM (K:Frag)(C P f:Addr)(ta tv:TE)(x:Str):TS:=λD σ H=>tv σ H λy H1=>ta σ H1 λz H2=>∃ a dx fs,z=.ref a/\H2 a=some (exN a C (some dx))/\H2 dx=some (xdE dx fs)/\fs.length<=90/\ExF K C P f x /\
 D.nx σ (upd H2 dx (xdE dx ((x,y)::fs)))
def mU (ha:PE X o ta)(hv:PE X value tv)(hs:swapsWith value (some (.Attribute o x pos')) pos.line X.env=pure false):PS X (.Assign [.Attribute o x pos'] value pos) (sExM X.K C P f ta tv x):=by
 intro pins s σ H D I h;refine EX (thn (hv pins s σ H _ I h) λu s1 ⟨y,H1,I1,ry,q⟩=>thn (ha pins s1 σ H1 _ I1 q) λov s2 ⟨z,H2,I2,rx,a,dx,fs,ez,ea,ed,hl,F,q2⟩=>?_) hs;subst ez;obtain rfl:ov=AD a:=rx;obtain ⟨⟨ob,t',⟨o1,o2,o3⟩,o4⟩,_⟩:=I2.hok _ _ ea;obtain ⟨⟨mA,n1,r1,w1⟩,_⟩:=I2.hok _ _ ed;obtain ⟨hh,g,d,tk,os⟩:=s2;refine nQ I2.kIn (jG I2.kIn F.i.xi) F.i.k F.sa F.nn ⟨o1,o2⟩ o3 n1 w1 (by rw [Ag];omega) λh' tk' hn' ks=>?_;have hx:∃ u,h'.get? dx=some u:=by
  obtain ⟨o,es,ep,e,q⟩:=id hn';exact ⟨o,e⟩
 refine ⟨σ,_,I2.write (x:=dx) (e:=dx) (t':=tk') (by rw [ed];exact DF) (.inl rfl) ks hx ?_,q2⟩;refine aA8 hn' (λg=>?_) (λg hg=>?_)
 ·by_cases z:g=x
  ·subst z
   simp only [DB,beq_self_eq_true,if_true];exact ry
  ·have:((x,y)::fs:List (Str×V)).lookup g=fs.lookup g:=by
    simp only [DB];rw [beq_eq_false_iff_ne.mpr z]
   rw [this,if_neg z];exact r1 g
 ·by_cases z:g=x
  ·rw [z];simp
  ·rw [if_neg z] at hg
   exact Aj _ (w1 g hg)
end
end L2
namespace SX
open PySem PySem.Spec PyProof.Rows
def byT (w:World):Bool:=w.params.followText "set-order"
def kv:Value->Str
 |.str x _=>x
 |_=>⟨#[]⟩
def tP (t:BX)(es:Array (Int×Value))(c:Int)(x:Value):(layNew t es c x).2.1.led=t.led:=by
 unfold layNew;split
 ·unfold BX.orStandIn
  simp only;split<;>rfl
 ·rfl
def aAr {m f v:Nat}{l p:Bool}{r:BX×Array Nat}(h:BX.laid m f v l p hs=some r):r.1.led=l/\r.1.plain=p:=by
 unfold BX.laid at h;cases e:BX.layClean m hs with
 |none=>rw [e] at h;cases h
 |some o=>
  rw [e] at h;cases h;exact ⟨rfl,rfl⟩
def vF (t:BX)(es:Array (Int×Value))(n:Nat)(hp:t.plain=false):(relayAll t es n).2.1.led=t.led/\(relayAll t es n).2.1.plain=false:=by
 unfold relayAll;split
 ·next t' o e=>
  have q:=aAr (show BX.laid _ _ _ t.led t.plain _=some _ from e);simp only;split
  ·exact ⟨q.1,q.2.trans hp⟩
  ·exact ⟨rfl,rfl⟩
 ·exact ⟨rfl,rfl⟩
def setO (es:Array (Int×Value))(ep:Nat)(t:BX):Obj:={ cls:=.type "set",dict:=none,data:=.set es ep t,slots:=#[] }
structure SetS (P:Az)(w:World)(h:Heap)(a:Addr)(ks:List Str):Prop where
 ex:∃ es ep t,h.get? a=some (setO es ep t)/\ElemsOf (strKind P w) es.toList/\t.fits es.size=true/\t.led=(!byT w)/\(t.plain=false\/es.size=0)/\(es.toList.map λe=>kv e.2).Perm ks
 nd:ks.Nodup
 lt:ks.length<EL
def dd (ks:List Str)(x:Str):List Str:=if x∈ks then ks else ks++[x]
def ddl (ss:List Str):List Str:=ss.foldl dd []
theorem aGy :y∈dd ks x↔y∈ks\/y=x:=by
 unfold dd;split
 ·next h=>exact ⟨.inl,λz=>z.elim id λe=>e▸h⟩
 ·simp
def rW (h:ks.Nodup):(dd ks x).Nodup:=by
 unfold dd;split
 ·exact h
 ·next n=>
  rw [List.nodup_append];refine ⟨h,by simp,λa ha b hb=>?_⟩;rw [AB.mp hb];exact λe=>n (e▸ha)
def aB7 :(dd ks x).length<=ks.length+1:=by
 unfold dd;split
 ·omega
 ·simp
theorem aA3 (ss:List Str)(x:Str):ddl (ss++[x])=dd (ddl ss) x:=by unfold ddl;rw [List.foldl_append];rfl
theorem lT:∀ (ss acc:List Str),acc.Nodup->(ss.foldl dd acc).Nodup/\(∀ y,y∈ss.foldl dd acc↔y∈acc\/y∈ss)/\(ss.foldl dd acc).length<=acc.length+ss.length
 |[],acc,h=>⟨h,λy=>by simp,by simp⟩
 |x::r,acc,h=>by
  obtain ⟨a,b,c⟩:=lT r (dd acc x) (rW h);refine ⟨a,λy=>?_,?_⟩
  ·rw [Fi,b,aGy,AE]
   exact or_assoc
  ·rw [Fi,AI]
   have:=aB7 (ks:=acc) (x:=x);omega
def ddl_nodup (ss:List Str):(ddl ss).Nodup:=(lT ss [] Ef).1
theorem ddl_mem :y∈ddl ss↔y∈ss:=((lT ss [] Ef).2.1 y).trans (by simp)
def ddl_len (ss:List Str):(ddl ss).length<=ss.length:=by
 have h:=(lT ss [] Ef).2.2;rw [List.length_nil,Nat.zero_add] at h;exact h
def aB4 {w:World}(el:ElemsOf (strKind P w) es)(h:e∈es):∃ t,e.2=.str (kv e.2) t:=by
 obtain ⟨⟨k,hk,_⟩,_⟩:=el e h;obtain ⟨t,ht⟩:=Dx (x:=k) (v:=e.2) hk;exact ⟨t,by rw [ht];rfl⟩
def aGv {w:World}(el:ElemsOf (strKind P w) es)(pm:(es.map λe=>kv e.2).Perm ks)(x:Str):x∈ks↔∃ e∈es,(strKind P w).is x e.2=true:=by
 rw [<- pm.mem_iff,AS];constructor
 ·rintro ⟨e,he,rfl⟩
  obtain ⟨t,ht⟩:=aB4 el he;exact ⟨e,he,by rw [ht];exact strKind_is P w _ t⟩
 ·rintro ⟨e,he,h⟩
  obtain ⟨t,ht⟩:=Dx (x:=x) (v:=e.2) h;exact ⟨e,he,by rw [ht];rfl⟩
section
variable {P:Az}{w:World}{A:Around}{E:Value->Shared->Prop}{s:Shared}
theorem SetS.stored {h:Heap}{a:Addr}{es es':Array (Int×Value)}{ep:Nat}{t t':BX}{ks:List Str}(ho:h.get? a=some (setO es ep t))(el:ElemsOf (strKind P w) es'.toList)(hf:t'.fits es'.size=true)(hl:t'.led=(!byT w))(hp:t'.plain=false)
  (pm:(es'.toList.map λe=>kv e.2).Perm ks) (nd:ks.Nodup) (lt:ks.length<EL):(h.update a (Obj.putSet es' t')).get? a=some (setO es' (ep+1) t')/\SetS P w (h.update a (Obj.putSet es' t')) a ks:=by
 have hg:(h.update a (Obj.putSet es' t')).get? a=some (setO es' (ep+1) t'):=by
  have:=BP (Obj.putSet es' t') ho (by rw [putSet_of es' t' rfl];rfl);rw [putSet_of es' t' rfl] at this;exact this
 exact ⟨hg,⟨_,_,_,hg,el,hf,hl,.inl hp,pm⟩,nd,lt⟩
def qG {g:Bool->Sem Unit}(hg:∀ (b:Bool) (s1:Shared) (Q':Unit->Shared->Prop),Q' () s1->wpAny (model P w) A (g b) Q' E s1){a:Addr}{es es1:Array (Int×Value)}{ep:Nat}{t t2:BX}{ks:List Str}{wd:Bool}{R:Option Bool->Shared->Prop}
  (ho:s.heap.get? a=some (setO es ep t)) (el:ElemsOf (strKind P w) es1.toList) (hf:t2.fits es1.size=true) (hl:t2.led=(!byT w)) (hp:t2.plain=false) (pm:(es1.toList.map λe=>kv e.2).Perm ks) (nd:ks.Nodup) (lt:ks.length<EL)
  (h:∀ h',Ci a s.heap h'->SetS P w h' a ks->R (some true) { s with heap:=h' }) :
  wpAny (model P w) A (do
    storeSet a es1 t2
    if (!wd&&t2.tooFull)=true then do
      g (relayAll t2 es1 (DU es1.size)).2.2;storeSet a (relayAll t2 es1 (DU es1.size)).1 (relayAll t2 es1 (DU es1.size)).2.1;pure (some true)
     else pure (some true)) R E s:=by
 have sz:es1.size=ks.length:=by rw [<- BE,<- Ag (f:=λe=>kv e.2),pm.length_eq]
 refine Ab (wpAny_storeSet_of ho rfl ?_ (EY (by omega)));obtain ⟨o1,S1⟩:=SetS.stored (P:=P) (w:=w) ho el hf hl hp pm nd lt;have b1:=EH s.heap a (Obj.putSet es1 t2);split
 ·have p2:=relayAll_perm t2 es1 (DU es1.size)
  have f2:=relayAll_fits t2 es1 (DU es1.size);have l2:=vF t2 es1 (DU es1.size) hp;generalize relayAll t2 es1 (DU es1.size)=r at p2 f2 l2 ⊢;obtain ⟨es2,t3,gv⟩:=r;dsimp only at p2 f2 l2 ⊢;have pm2:=(p2.map λe=>kv e.2).trans pm;have sz2:es2.size=ks.length:=by rw [<- BE,<- Ag (f:=λe=>kv e.2),pm2.length_eq]
  refine Ab (hg _ _ _ ?_);refine Ab (wpAny_storeSet_of o1 rfl ?_ (EY (by omega)));obtain ⟨_,S2⟩:=SetS.stored (P:=P) (w:=w) o1 (el.perm p2) f2 (l2.1.trans hl) l2.2 pm2 nd lt;exact Af (h _ (b1.trans (EH _ a _)) S2)
 ·exact Af (h _ b1 S1)
def add_str {tk:Tok}(S:SetS P w s.heap a ks)(hr:ks.length+1<EL)(h:∀ b h',Ci a s.heap h'->SetS P w h' a (dd ks x)->Q b { s with heap:=h' }) :
  wpAny (model P w) A (setAddHashed a (.str x tk) ((strKind P w).hash x)) Q E s:=by
 have S0:=S;obtain ⟨⟨es,ep,t,ho,el,hf,hl,hp,pm⟩,nd,lt⟩:=S;have sz:es.size=ks.length:=by rw [<- BE,<- Ag (f:=λe=>kv e.2),pm.length_eq]
 have key:=strKind_is P w x tk;have hsc:(Value.str x tk).scannable=true:=rfl;unfold setAddHashed setAddHashedIn;refine Bw (Ab (Eh ho rfl hf ?_));dsimp only;rw [byScan_of (knd:=strKind P w) hsc (by omega) el];simp only [↓reduceIte];unfold setAddByScan;refine Ab (Ab (Dp (Ab (wpAny_setScan_of key ho rfl hf el ?_))));have mem:=aGv el pm x;cases q:List.findIdx? (λe=>(strKind P w).is x e.2) es.toList with
 |some j=>
  dsimp only;obtain ⟨hj,hpj,_⟩:=List.findIdx?_eq_some_iff_getElem.mp q;have hin:x∈ks:=mem.mpr ⟨es.toList[j],DE hj,hpj⟩;refine Af (Af ?_);have e:dd ks x=ks:=by unfold dd;rw [if_pos hin]
  exact h false s.heap (Ci.refl a s.heap) (by rw [e];exact S0)
 |none=>
  dsimp only;have hin:x∉ks:=λz=>by
   obtain ⟨e,he,hpe⟩:=mem.mp z;have:=List.findIdx?_eq_none_iff.mp q e he;rw [hpe] at this;cases this
  have e:dd ks x=ks++[x]:=by unfold dd;rw [if_neg hin]
  have hgw:∀ (b:Bool) {s1:Shared} {Q':Unit->Shared->Prop},Q' () s1->wpAny (model P w) A (match b with|true=>rule "set.scan.the-table-gave-way" | false=>pure ()) Q' E s1:=λb s1 Q' z=>by
   cases b
   ·exact Af z
   ·exact Dp z
  have lp:=layNew_perm t es ((strKind P w).hash x) (.str x tk);have lf:=layNew_fits t es ((strKind P w).hash x) (.str x tk);have ll:=tP t es ((strKind P w).hash x) (.str x tk);generalize layNew t es ((strKind P w).hash x) (.str x tk)=r at lp lf ll ⊢;obtain ⟨es1,t1,wd,gv⟩:=r;dsimp only at lp lf ll ⊢;rw [Array.toList_push] at lp;have el1:ElemsOf (strKind P w) es1.toList:=(el.push key hsc).perm lp;have pm1:(es1.toList.map λe=>kv e.2).Perm (dd ks x):=by
   rw [e];refine (lp.map _).trans ?_;rw [Bs];exact pm.append_right _
  have nd1:=rW (x:=x) nd;have lt1:(dd ks x).length<EL:=by have:=aB7 (ks:=ks) (x:=x);omega
  refine Ab (hgw _ ?_);split
  ·refine Ab ?_
   rw [hashByValue_scannable 8 hsc];refine Af ?_;refine qG (ks:=dd ks x) ?_ ho el1 (BX.fits_plain_off lf) (ll.trans hl) rfl pm1 nd1 lt1 ?_
   ·intro b s1 Q' z
    cases b
    ·exact Af z
    ·exact Dp z
   ·intro h' sb S'
    exact Af (h _ h' sb S')
  ·next np=>
   refine Ab (Af ?_);simp only [↓reduceIte];refine qG (ks:=dd ks x) ?_ ho el1 lf (ll.trans hl) (by simpa using np) pm1 nd1 lt1 ?_
   ·intro b s1 Q' z
    cases b
    ·exact Af z
    ·exact Dp z
   ·intro h' sb S'
    exact Af (h _ h' sb S')
end
theorem SetS.at {w:World}(S:SetS P w h a ks)(k:∀ o,h.get? a=some o->h'.get? a=some o):SetS P w h' a ks:=by
 obtain ⟨⟨es,ep,t,ho,r⟩,nd,lt⟩:=S;exact ⟨⟨es,ep,t,k _ ho,r⟩,nd,lt⟩
theorem oT:∀ {vs:List Value} {ss:List Str},EN vs ss->∀ (i:Nat) (v:Value),vs[i]?=some v->∃ x t,ss[i]?=some x/\v=.str x t
 |_,_,.nil,i,v,h=>by simp at h
 |_,_,.cons y t hr,0,v,h=>by simp at h;exact ⟨y,t,rfl,h.symm⟩
 |_,_,.cons y t hr,i+1,v,h=>by
  obtain ⟨x,u,h1,h2⟩:=oT hr i v (by simpa using h);exact ⟨x,u,by simpa using h1,h2⟩
section
variable {P:Az}{w:World}{A:Around}{R:Result->Shared->Prop}{I:Addr}{fp wr:List Addr}{G:Array GenState->Array GenState->Prop}{n:Nat}{Pr:Nat->Value->Prop}{St:Nat->Shared->Prop}
def qD (W:WalksS P w A.in1 I fp wr G n Pr St)(a:Addr)(haf:a∉fp)(ss:List Str)(hl:ss.length=n)(hval:∀ i v,Pr i v->∃ x t,ss[i]?=some x/\v=.str x t)(hb:n+1<EL) :
  ∀ (k i:Nat) (s:Shared),n-i=k->i<=n->St i s->SetS P w s.heap a (ddl (ss.take i))->(∀ s',Moved (a::wr) G s s'->SetS P w s'.heap a (ddl ss)->R (.ok (.ret .none)) s') ->
   DR (model P w) A (.builtin "set.update.loop" ⟨[.ref a,.ref I],[]⟩) R s:=by
 have haw:a∉wr:=λh=>haf (W.sub _ h);have sub:∀ b∈wr,b∈a::wr:=λb hb=>Aj _ hb;intro k
 induction k with
 |zero=>
  intro i s hk hi st S q;obtain rfl:i=n:=by omega
  refine Cr F.entry_set_update_loop ?_;rw [CL FD _];show wpAny _ A.in1 (pyNext (.ref I) >>= _) _ _ s;refine Ab (W.done s _ _ st λs' hm=>?_);show wpAny _ A.in1 (ret BR) _ _ s';refine Af (q s' (hm.mono sub) ?_);rw [EE (by omega)] at S;exact S.at λo e=>hm.heap a o haw e
 |succ k ih=>
  intro i s hk hi st S q;have lt:i<n:=by omega
  refine Cr F.entry_set_update_loop ?_;rw [CL FD _];show wpAny _ A.in1 (pyNext (.ref I) >>= _) _ _ s;refine Ab (W.item i s _ _ lt st λv s' hP st' hm=>?_);obtain ⟨x,t,hx,rfl⟩:=hval i v hP;have S':SetS P w s'.heap a (ddl (ss.take i)):=S.at λo e=>hm.heap a o haw e;show wpAny _ A.in1 (holding [Value.str x t] (setAdd a (.str x t)) >>= _) _ _ s';refine Ab (Bw ?_);unfold setAdd;refine Bw ?_;refine Ab ((strKind P w).pyHash (k:=x) (strKind_is _ _ _ _) ?_);have room:(ddl (ss.take i)).length+1<EL:=by
   have h1:=ddl_len (ss.take i);rw [El] at h1;omega
  refine add_str (s:={ s' with toks:=s'.toks+1 }) S' room λb h' sb S2=>?_;have S3:SetS P w h' a (ddl (ss.take (i+1))):=by
   have e:ss.take (i+1)=ss.take i++[x]:=by rw [List.take_succ,hx];rfl
   rw [e,aA3];exact S2
  refine Af ⟨EM FD _,ih (i+1) _ (by omega) lt (W.frame _ s' _ _ st' (Dm _) λb hb o e=>?_) S3 λs2 m2 z2=>?_⟩
  ·rw [sb.2 b (λh:b=a=>haf (by rw [<- h];exact hb))];exact e
  ·refine q s2 (Moved.trans W.gtrans ((hm.mono sub).then_heap (Dm _) λb o hb e=>?_) m2) z2
   rw [sb.2 b (λh:b=a=>hb (by rw [h];exact Au))];exact e
end
section
variable {P:Az}{w:World}{A:Around}{E:Value->Shared->Prop}{s:Shared}
abbrev eQ (w:World):Obj:=setO #[] 0 (.fresh 0 0 (!byT w))
def wV (v:Value)(h:Q1 (.ref s.heap.objs.size) { s with heap:=s.heap.push (eQ w) }) :
  DR (model P w) A (.call (.builtin "set.__new__") ⟨[.type "set",v],[]⟩) (wants Q1 E) s:=by
 refine Fy ?_;show wpAny _ A.in1 (do checkBuiltinCall "set.__new__" ⟨[.type "set",v],[]⟩;again (.builtin "set.__new__" ⟨[.type "set",v],[]⟩)) _ _ s;refine Ab (EB (F.newCall_set_1 v) (Af ⟨EM F.plain_set_new _,Cr F.entry_set_new ?_⟩));rw [CL F.plain_set_new _];unfold AH.«set.__new__» AH.Frozenset.newClass;have sub:=sub_set_self;obtain ⟨hp,g,d,tk,os⟩:=s;dsimp only
 wp_walk
 refine Eu (Af ?_);dsimp only;simp only [newObj];refine Ab (wpAny_alloc (Af ?_));exact Af h
def rF (h:Heap):SetS P w (h.push (eQ w)) h.objs.size []:=
 ⟨⟨#[],0,_,Ah _ rfl,λe he=>by simp at he,rfl,rfl,.inr rfl,.refl _⟩,Ef,by decide⟩
def call_set_strs {l:Addr}(hh:A.handled=none)(hl:s.heap.IsList l its)(hi:EN its.toList ss)(hb:its.size+1<EL)(h:∀ (h':Heap) (tk:Nat),SetS P w h' s.heap.objs.size (ddl ss)->(∀ b o,s.heap.get? b=some o->h'.get? b=some o)->Q (.ref s.heap.objs.size) { s with heap:=h',toks:=tk }) :
  wpAny (model P w) A (call (.type "set") [.ref l]) Q E s:=by
 obtain ⟨c,tl,hmro⟩:=Cc.mro;have hmade:=Cc.made;have hsub:=Cc.sub;refine ED (Fy ?_);show wpAny _ _ (callAny (.type "set") _) _ _ _;refine Af ⟨DJ _ (by decide +kernel),Cr F.entry_type_call ?_⟩;rw [Around.under_plain (weight_type_call_type "set" [.ref l] []) rfl];have h1:=Cc.notType;have h2:=Cc.canCreate;have hct:=F.typeCall_set_1 (.ref l)
 repeat (any_goals (first|assumption|wp_step))
 refine Ck (wV (.ref l) (E:=E) (Q1:=λobj s1=>obj=.ref s.heap.objs.size/\s1={ s with heap:=s.heap.push (eQ w) }) ⟨rfl,rfl⟩) λr s1 hr=>?_;cases r with
 |error e=>exact hr
 |ok fl=>
  cases fl with
  |ret obj=>
   obtain ⟨rfl,rfl⟩:=hr;have hS:(s.heap.push (eQ w)).get? s.heap.objs.size=some (eQ w):=Ah _ rfl;have hT:Shared.TypeIs { s with heap:=s.heap.push (eQ w) } (.ref s.heap.objs.size) "set":=⟨_,hS,rfl⟩;have hli:=Cc.init.lookup;have hbi:=Cc.init.bind (.ref s.heap.objs.size)
   repeat (any_goals (first|assumption|wp_step))
   refine Ck (Cv (R:=wants (λr s2=>r=.none/\∃ h' tk,s2={ s with heap:=h',toks:=tk }/\SetS P w h' s.heap.objs.size (ddl ss)/\(∀ b o,s.heap.get? b=some o->h'.get? b=some o)) E) Cc.init.plain F.entry_set_init (check_set_init_1 hT ?_)) λr2 s2 hr2=>?_
   ·obtain ⟨ol,hol,hcl,nl,hdl⟩:=hl
    obtain ⟨ocls,odict,odata,oslots⟩:=ol;simp only at hcl hdl;subst hcl;subst hdl;have hol':(s.heap.push (eQ w)).get? l=some { cls:=.type "list",dict:=odict,data:=.seq its nl,slots:=oslots }:=Ac _ hol;have hsls:=F.sub_list_set;have hslf:=F.sub_list_frozenset;have hne:(CY "list" == CY "dict")=false:=by decide
    have hl1:(s.heap.push (eQ w)).IsList l its:=⟨_,hol',rfl,nl,rfl⟩;unfold AH.«set.__init__» noKeywords AH.Frozenset.updateFrom;generalize hPI:pyIter=PI
    wp_walk
    subst hPI;refine wpAny_pyIter_list hl1 ?_;refine Ab (wpAny_runValue ?_);have hlS:l<s.heap.objs.size:=Aq hol;have hh3:A.in1.in1.in1.handled=none:=by simp [hh]
    have hz:(s.heap.push (eQ w)).objs.size=s.heap.objs.size+1:=BJ ..;have hneI:l≠(s.heap.push (eQ w)).objs.size:=by
     rw [hz];exact Aw (Cj hlS)
    have haf:s.heap.objs.size∉[(s.heap.push (eQ w)).objs.size,l]:=by
     simp only [AE,Ek,or_false,not_or];rw [hz];exact ⟨Aw (Cn _),Dz hlS⟩
    have hlen:ss.length=its.size:=by rw [<- BE];exact (EN.length hi).symm
    refine qD ((Walks.list hh3 _ l hneI its).toS) s.heap.objs.size haf ss hlen (λi v hv=>oT hi i v (by rw [Bq];exact hv)) hb (its.size-0) 0 _ (by omega) (BK _) ⟨⟨_,Ah _ rfl,rfl,rfl⟩,(hl1.push _)⟩ ((rF s.heap).at λo e=>Ac _ e) λs' hm S'=>?_;obtain ⟨h',g',d',tk',os'⟩:=s';have eg:g'=s.gens:=hm.gens;have ed:d'=s.drawn:=hm.drawn;have eo:os'=s.os:=hm.os;subst eg;subst ed;subst eo;show wpAny _ _ _ _ _ _;refine Af ?_;show wpAny _ _ (ret BR) _ _ _;refine Af ⟨rfl,h',tk',rfl,S',λb o e=>?_⟩;have hb0:=Aq e;refine hm.heap b o ?_ (Ac _ (Ac _ e));simp only [AE,Ek,or_false,not_or];rw [hz];exact ⟨Aw hb0,Aw (Cj hb0)⟩
   ·cases r2 with
    |error e=>exact hr2
    |ok f2=>
     cases f2 with
     |ret r=>
      obtain ⟨rfl,h',tk,rfl,S',hk'⟩:=hr2
      repeat (any_goals (first|assumption|wp_step))
      exact h _ _ S' hk'
     |_=>exact hr2.elim
  |_=>exact hr.elim
end
end SX
namespace DX
open PySem PySem.Spec PyProof.Rows
theorem fV:plainId "dict.update.loop" = true:=by decide +kernel
def nW:entryFor table "dict.update.loop" = some AH.«dict.update.loop»:=entryFor_of_tree (by kernel_rfl)
section
variable {P:Az}{w:World}{A:Around}{E:Value->Shared->Prop}{s:Shared}
def TupAt (h:Heap)(z:Addr)(x y:Value):Prop:=∃ o n,h.get? z=some o/\o.cls=.type "tuple" /\ o.data=.seq #[x,y] n
def lF (ht:TupAt s.heap z x y)(h:Q [x,y] s):wpAny (model P w) A (AH.Dict.pairItems (.ref z)) Q E s:=by
 obtain ⟨o,n,ho,hc,hd⟩:=ht;unfold AH.Dict.pairItems;refine Ab (Ed (T:="tuple") ⟨_,ho,hc⟩ ?_)
 wp_walk
 rw [hd];exact Af (Af h)
end
section
variable {P:Az}{w:World}{K:Type}[DecidableEq K]{knd:KeyKind P w K}{A:Around}{R:Result->Shared->Prop}
def sU (acc:List (K×Value))(k:K)(v:Value):(stored acc k v).length<=acc.length+1:=by
 unfold stored;split
 ·rw [Ag];omega
 ·rw [AF];exact Ak _
end
section
variable {P:Az}{w:World}{K:Type}[DecidableEq K]{knd:KeyKind P w K}{A:Around}{E:Value->Shared->Prop}{s:Shared}
abbrev nuD:Obj:={ cls:=.type "dict",data:=.dict #[] }
end
end DX
namespace L2
open PySem PySem.Spec PyProof.Rows
section
variable {X:Cx}
def rDictL (K:Aa):List V->Hp->VK->Prop:=λxs H Q=>∃ (a:Addr) (us:List V) (kvs:List (Key×V)),xs=[.ref a]/\H a=some (.lst us)/\us.length=kvs.length/\(kvs.map (·.1)).Nodup /\
 (∀ (i:Nat) u kv,us[i]?=some u->kvs[i]?=some kv->∃ z,u=.ref z/\H z=some (.tup [kV kv.1,kv.2]))/\∀ p,H p=none->Q (.ref p) (upd H p (.dK kvs))
theorem rR:∀ (kvs acc:List (Key×V)),(kvs.map (·.1)).Nodup->(∀ kv∈kvs,∀ kw∈acc,kv.1≠kw.1)->kvs.foldl (λacc kv=>putK acc kv.1 kv.2) acc=acc++kvs
 |[],acc,_,_=>by simp
 |kv::r,acc,nd,h=>by
  rw [Al] at nd;have nd':=BO.mp nd;have e:putK acc kv.1 kv.2=acc++[kv]:=by
   unfold putK;rw [if_neg];intro z;obtain ⟨kw,hk,e⟩:=List.any_eq_true.mp z;exact h kv (Au ..) kw hk (of_decide_eq_true e).symm
  rw [Fi,e,rR r (acc++[kv]) nd'.2 λk1 h1 k2 h2=>?_,List.append_assoc]
  ·rfl
  ·rcases Br.mp h2 with h2|h2
   ·exact h k1 (Aj _ h1) k2 h2
   ·rw [AB.mp h2]
    exact λz=>nd'.1 (z▸Cy h1)
theorem xB:∀ {kvs:List (Key×V)} {vs:List (Key×Value)} {acc:List (Key×V)} {bcc:List (Key×Value)},KV kvs vs->KV acc bcc->KV (kvs.foldl (λacc kv=>putK acc kv.1 kv.2) acc) (vs.foldl (λacc kv=>stored acc kv.1 kv.2) bcc)
 |[],[],_,_,_,h=>h
 |kv::r,v::q,acc,bcc,.cons ⟨e,rv⟩ t,h=>by
  have h1:=h.put kv.1 rv;rw [e] at h1;rw [Fi,Fi,e];exact xB t h1
end
end L2
namespace L2.TS
open PySem PySem.Spec PyProof.Rows
abbrev Ky:=List Nat
def xA {a b:Ky}(hn:a≠b)(hl:¬ a<b):b<a:=by
 by_cases hb:b<a
 ·exact hb
 ·exact absurd (EU (List.not_lt.mp hb) (List.not_lt.mp hl)) hn
def ka (f:Value->Ky)(xs:Array Keyed)(i:Nat):Ky:=(xs[i]?.map λp=>f p.1).getD []
theorem xE {i j:Nat}(e:xs[i]?=ys[j]?):ka f xs i=ka f ys j:=by
 unfold ka;rw [e]
def Up (f:Value->Ky)(xs:Array Keyed)(n:Nat):Prop:=∀ i j,i<j->j<n->ka f xs i<ka f xs j
def Dn (f:Value->Ky)(xs:Array Keyed)(n:Nat):Prop:=∀ i j,i<j->j<n->ka f xs j<ka f xs i
def Df (f:Value->Ky)(xs:List Keyed):Prop:=xs.Pairwise λp q=>f p.1≠f q.1
structure Sb (f:Value->Ky)(kd:SortKind)(o:Array Keyed)(st:SortSt):Prop where
 pm:(arrOf st).Perm o
 kn:kindOf st=kd
 fl:failedOf st=none
 pe:pendingOf st=#[]
 df:Df f (arrOf st).toList
section
variable {prog:Az}{w:World}{A:Around}{E:Value->Shared->Prop}{s:Shared}{o:Array Keyed}{f:Value->Ky}{kd:SortKind}
theorem Sb.sz {st:SortSt}(b:Sb f kd o st):(arrOf st).size=o.size:=b.pm.size_eq
def Sb.put {st:SortSt}(b:Sb f kd o st)(p:xs.Perm (arrOf st)):Sb f kd o (setArr st xs):=
 ⟨p.trans b.pm,b.kn,b.fl,b.pe,((DW.mp p).symm.pairwise_iff λh=>AQ h).mp b.df⟩
theorem Sb.ne {st:SortSt}(b:Sb f kd o st){i j:Nat}(hi:i<o.size)(hj:j<o.size)(hij:i≠j):ka f (arrOf st) i≠ka f (arrOf st) j:=by
 have h:=Di.mp b.df;have hi':i<(arrOf st).size:=by rw [b.sz];exact hi
 have hj':j<(arrOf st).size:=by rw [b.sz];exact hj
 have e1:ka f (arrOf st) i=f (arrOf st)[i].1:=by unfold ka;rw [getElem?_pos (arrOf st) i hi'];rfl
 have e2:ka f (arrOf st) j=f (arrOf st)[j].1:=by unfold ka;rw [getElem?_pos (arrOf st) j hj'];rfl
 rw [e1,e2]
 rcases Nat.lt_or_gt_of_ne hij with l|l
 ·exact h i j (by simpa using hi') (by simpa using hj') l
 ·exact (h j i (by simpa using hj') (by simpa using hi') l).symm
def Cmp (prog:Az)(w:World)(A:Around)(s:Shared)(kd:SortKind)(f:Value->Ky)(o:Array Keyed):Prop:=
 ∀ (p q:Keyed) (E:Value->Shared->Prop) (Q:Bool->Shared->Prop),p∈o.toList->q∈o.toList->f p.1≠f q.1->Q (decide (f p.1<f q.1)) s->wpAny (model prog w) A (keyLt' kd p.1 q.1) Q E s
def wX (C:Cmp prog w A s kd f o){st:SortSt}(b:Sb f kd o st){i j:Nat}(hi:i<o.size)(hj:j<o.size)(hij:i≠j)(h:Q (some (decide (ka f (arrOf st) i<ka f (arrOf st) j))) st):wpS (model prog w) A E s (ltAt' i j) Q st:=by
 have hd:=b.ne hi hj hij;have hi':i<(arrOf st).size:=by rw [b.sz];exact hi
 have hj':j<(arrOf st).size:=by rw [b.sz];exact hj
 have g1:(arrOf st)[i]?=some (arrOf st)[i]:=getElem?_pos _ i hi';have g2:(arrOf st)[j]?=some (arrOf st)[j]:=getElem?_pos _ j hj';have m1:(arrOf st)[i]∈o.toList:=(DW.mp b.pm).mem_iff.mp (Array.getElem_mem_toList _);have m2:(arrOf st)[j]∈o.toList:=(DW.mp b.pm).mem_iff.mp (Array.getElem_mem_toList _);have k1:ka f (arrOf st) i=f (arrOf st)[i].1:=by unfold ka;rw [g1];rfl
 have k2:ka f (arrOf st) j=f (arrOf st)[j].1:=by unfold ka;rw [g2];rfl
 rw [k1,k2] at h hd;rw [ltAt'_eq];refine BV (wpS_get ?_);dsimp only;rw [elem'_eq,elem'_eq,g1,g2];refine BV (Dd (BV (Dd ?_)));rw [lt'_eq];refine BV (wpS_get ?_);rw [b.kn];exact BV (wpS_lift (DG (C _ _ _ _ m1 m2 hd ⟨rfl,Dd h⟩)))
def aEw :Up f xs 1:=λi j h1 h2=>by omega
def asc (C:Cmp prog w A s kd f o){st:SortSt}(b:Sb f kd o st){a r:Nat}(hr:r<=o.size)(ha:1<=a)(har:a<=r)(hs:Up f (arrOf st) a){Q:AscSt->SortSt->Prop}
  (h:∀ n,a<=n->n<=r->Up f (arrOf st) n->(n=r\/ka f (arrOf st) n<ka f (arrOf st) (n-1))->Q (none,n) st):wpS (model prog w) A E s (ascLoop a r) Q st:=by
 unfold ascLoop;refine wpS_forRange (I:=λx c u=>u=st/\c=(none,x)/\Up f (arrOf st) x) (λx c u h1 h2 h3=>?_) (λc u h3=>?_) ⟨rfl,rfl,hs⟩
 ·obtain ⟨rfl,rfl,up⟩:=h3
  refine BV (wX C b (by omega) (by omega) (by omega) ?_)
  by_cases l:ka f (arrOf u) x<ka f (arrOf u) (x-1)
  ·simp only [l,decide_true,if_true]
   exact Dd (h x h1 (by omega) up (.inr l))
  ·simp only [l,decide_false,De,if_false]
   have l':=xA (b.ne (by omega) (by omega) (by omega)) l;refine Dd ⟨rfl,rfl,λi j hij hj=>?_⟩
   by_cases jx:j<x
   ·exact up i j hij jx
   ·obtain rfl:j=x:=by omega
    by_cases ix:i=j-1
    ·rw [ix];exact l'
    ·exact List.lt_trans (up i (j-1) (by omega) (by omega)) l'
 ·obtain ⟨rfl,rfl,up⟩:=h3
  rw [show max a r=r by omega] at up ⊢;exact h r har (Ak _) up (.inl rfl)
theorem nJ {n:Nat}(hn:n<=xs.size)(k:Nat):ka f (mirror xs 0 n ((n-0)/2)) k=if k<n then ka f xs (n-1-k) else ka f xs k:=by
 have e:=getElem?_mirror_all (i:=0) hn k
 by_cases l:k<n
 ·rw [if_pos ⟨BK _,l⟩] at e
  rw [if_pos l,xE e,Nat.zero_add]
 ·rw [if_neg λq=>l q.2] at e
  rw [if_neg l,xE e]
def tail (C:Cmp prog w A s kd f o){st:SortSt}(b:Sb f kd o st){n r:Nat}(hr:r<=o.size)(h1:1<=n)(hn:n<=r)(hs:Dn f (arrOf st) n)(h:∀ m u,Sb f kd o u->1<=m->m<=r->Up f (arrOf u) m->Q (some m) u):wpS (model prog w) A E s (tail3 n r) Q st:=by
 unfold tail3;have z:n<=(arrOf st).size:=by rw [b.sz];omega
 refine BV (wpS_reverse ?_);have b':=b.put (mirror_perm (arrOf st) 0 n ((n-0)/2));refine BV (asc C b' hr h1 hn (λi j hij hj=>?_) λm q1 q2 q3 _=>Dd (h m _ b' (by omega) q2 q3));show ka f (mirror _ 0 n _) i<ka f (mirror _ 0 n _) j;rw [nJ z,nJ z,if_pos (by omega),if_pos hj];exact hs _ _ (by omega) (by omega)
def desc (C:Cmp prog w A s kd f o){st:SortSt}(b:Sb f kd o st){n r:Nat}(hr:r<=o.size)(h1:1<=n)(hn:n<=r)(hs:Dn f (arrOf st) n){Q:DescSt->SortSt->Prop}
  (h:∀ m,n<=m->m<=r->Dn f (arrOf st) m->Q (none,m,0) st):wpS (model prog w) A E s (descLoop n r) Q st:=by
 unfold descLoop;refine wpS_forRange (I:=λx c u=>u=st/\c=(none,x,0)/\Dn f (arrOf st) x) (λx c u q1 q2 q3=>?_) (λc u q3=>?_) ⟨rfl,rfl,hs⟩
 ·obtain ⟨rfl,rfl,dn⟩:=q3
  dsimp only;refine BV (wX C b (by omega) (by omega) (by omega) ?_)
  by_cases l:ka f (arrOf u) x<ka f (arrOf u) (x-1)
  ·simp only [l,decide_true,if_true,gt_iff_lt,CB,if_false]
   refine Dd ⟨rfl,rfl,λi j hij hj=>?_⟩
   by_cases jx:j<x
   ·exact dn i j hij jx
   ·obtain rfl:j=x:=by omega
    by_cases ix:i=j-1
    ·rw [ix];exact l
    ·exact List.lt_trans l (dn i (j-1) (by omega) (by omega))
  ·simp only [l,decide_false,De,if_false]
   have l':=xA (b.ne (by omega) (by omega) (by omega)) l;refine BV (wX C b (by omega) (by omega) (by omega) ?_);simp only [l',decide_true,if_true];exact Dd (h x q1 (by omega) dn)
 ·obtain ⟨rfl,rfl,dn⟩:=q3
  rw [show max n r=r by omega] at dn ⊢;exact h r hn (Ak _) dn
def count (C:Cmp prog w A s kd f o){st:SortSt}(b:Sb f kd o st){r:Nat}(hr:r<=o.size)(h1:1<=r)(h:∀ m u,Sb f kd o u->1<=m->m<=r->Up f (arrOf u) m->Q (some m) u):wpS (model prog w) A E s (countRun' 0 r) Q st:=by
 rw [countRun0_eq];refine BV (asc C b hr (Ak 1) h1 aEw λn q1 q2 up or=>?_);dsimp only
 by_cases nr:n=r
 ·rw [if_pos (by simpa using nr)]
  exact Dd (h n st b q1 q2 up)
 ·rw [if_neg (by simpa using nr)]
  by_cases n1:n > 1
  ·rw [if_pos n1]
   refine BV (wX C b (by omega) (by omega) (by omega) ?_);have l:=up 0 (n-1) (by omega) (by omega);simp only [l,decide_true,if_true];exact Dd (h n st b q1 q2 up)
  ·rw [if_neg n1]
   obtain rfl:n=1:=by omega
   have l:=or.resolve_left nr;unfold descPart;refine BV (wpS_lift (Dp ⟨rfl,?_⟩));refine BV (desc C b hr (by omega) (by omega) (λi j hij hj=>?_) λm p1 p2 dn=>?_)
   ·obtain rfl:i=0:=by omega
    obtain rfl:j=1:=by omega
    exact l
   ·simp only [gt_iff_lt,CB,if_false]
    exact tail C b hr (by omega) p2 dn h
theorem nK {k l:Nat}(hk:k<xs.size)(hl:l<=k)(i:Nat):ka f (bubble xs k (k-l)) i=if i=l then ka f xs k else if l<i/\i<=k then ka f xs (i-1) else ka f xs i:=by
 have e:=getElem?_bubble hk (k-l) (Nat.sub_le _ _) i;rw [show k-(k-l)=l by omega] at e
 by_cases c1:i=l
 ·rw [if_pos c1] at e ⊢;exact xE e
 ·rw [if_neg c1] at e ⊢
  by_cases c2:l<i/\i<=k
  ·rw [if_pos c2] at e ⊢;exact xE e
  ·rw [if_neg c2] at e ⊢;exact xE e
end
section
variable {prog:Az}{w:World}{A:Around}{E:Value->Shared->Prop}{s:Shared}{o:Array Keyed}{f:Value->Ky}{kd:SortKind}
def At (f:Value->Ky)(xs:Array Keyed)(k l r:Nat):Prop:=(∀ i,i<l->ka f xs i<ka f xs k)/\∀ i,r<=i->i<k->ka f xs k<ka f xs i
def aEv {k l:Nat}(hk:k<xs.size)(hl:l<=k)(up:Up f xs k)(a:At f xs k l l):Up f (bubble xs k (k-l)) (k+1):=by
 intro i j hij hj;rw [nK hk hl,nK hk hl]
 by_cases c1:i=l
 ·subst c1
  rw [if_pos rfl,if_neg (by omega),if_pos (by omega)];exact a.2 _ (by omega) (by omega)
 ·rw [if_neg c1]
  by_cases c2:j=l
  ·subst c2
   rw [if_pos rfl,if_neg (by omega)];exact a.1 _ hij
  ·rw [if_neg c2]
   by_cases c3:l<i/\i<=k
   ·rw [if_pos c3,if_pos (by omega)]
    exact up _ _ (by omega) (by omega)
   ·rw [if_neg c3]
    by_cases c4:l<j/\j<=k
    ·rw [if_pos c4]
     exact up _ _ (by omega) (by omega)
    ·rw [if_neg c4]
     exact up _ _ hij (by omega)
def binary (C:Cmp prog w A s kd f o){st:SortSt}(b:Sb f kd o st){n m:Nat}(hn:n<=o.size)(hm:m<=n)(hs:Up f (arrOf st) m){Q:Bool->SortSt->Prop}
  (h:∀ u,Sb f kd o u->Up f (arrOf u) n->Q true u):wpS (model prog w) A E s (binarySort' 0 n m) Q st:=by
 rw [binarySort'_eq];simp only [Nat.zero_add];refine BV (wpS_mono (wpS_forRange (I:=λk c u=>c=(none,())/\Sb f kd o u/\Up f (arrOf u) (min k n)) (Q:=λc u=>c=(none,())/\Sb f kd o u/\Up f (arrOf u) n)
  (λk c u q1 q2 q3=>?_) (λc u q3=>?_) ⟨rfl,b,λi j hij hj=>hs i j hij (by omega)⟩) λc u q=>?_)
 ·obtain ⟨rfl,b',up⟩:=q3
  rw [show min k n=k by omega] at up;have ko:k<o.size:=by omega
  refine BV (wpS_mono (wpS_forRange (I:=λx c v=>v=u/\∃ l r,c=(none,l,r)/\l<=r/\r<=k/\r-l<=k-x/\At f (arrOf u) k l r) (Q:=λc v=>v=u/\∃ l r,c=(none,l,r)/\l<=k/\At f (arrOf u) k l l)
   (λx c v p1 p2 p3=>?_) (λc v p3=>?_) ⟨rfl,0,k,rfl,by omega,by omega,by omega,λi hi=>by omega,λi g1 g2=>by omega⟩) λc v p=>?_)
  ·obtain ⟨rfl,l,r,rfl,g1,g2,g3,a1,a2⟩:=p3
   dsimp only
   by_cases lr:l ≥ r
   ·rw [if_pos lr]
    obtain rfl:l=r:=by omega
    exact Dd ⟨rfl,l,l,rfl,g2,a1,a2⟩
   ·rw [if_neg lr]
    refine BV (wX C b' ko (by omega) (by omega) ?_)
    by_cases ls:ka f (arrOf v) k<ka f (arrOf v) ((l+r)/2)
    ·simp only [ls,decide_true,if_true]
     refine Dd ⟨rfl,l,(l+r)/2,rfl,by omega,by omega,by omega,a1,λi t1 t2=>?_⟩
     by_cases im:i=(l+r)/2
     ·rw [im];exact ls
     ·exact List.lt_trans ls (up _ _ (by omega) t2)
    ·simp only [ls,decide_false,De,if_false]
     have ls':=xA (b'.ne ko (by omega) (by omega)) ls;refine Dd ⟨rfl,(l+r)/2+1,r,rfl,by omega,by omega,by omega,λi t1=>?_,a2⟩
     by_cases im:i=(l+r)/2
     ·rw [im];exact ls'
     ·exact List.lt_trans (up _ _ (by omega) (by omega)) ls'
  ·obtain ⟨rfl,l,r,rfl,g1,g2,g3,a1⟩:=p3
   obtain rfl:l=r:=by omega
   exact ⟨rfl,l,l,rfl,g2,a1⟩
  ·obtain ⟨rfl,l,r,rfl,g2,a1⟩:=p
   dsimp only;rw [moveDown'_eq];refine BV (wpS_modify (Dd ⟨rfl,b'.put (bubble_perm _ _ _),?_⟩));rw [show min (k+1) n=k+1 by omega];exact aEv (by rw [b'.sz];exact ko) g2 up a1
 ·obtain ⟨rfl,b',up⟩:=q3
  rw [show min (max (max m 1) n) n=n by omega] at up;exact ⟨rfl,b',up⟩
 ·obtain ⟨rfl,b',up⟩:=q
  exact Dd (h u b' up)
def Dne (f:Value->Ky)(o:Array Keyed)(st:SortSt):Prop:=(arrOf st).Perm o/\failedOf st=none/\(pendingOf st).size=1/\Up f (arrOf st) o.size
def Sb.dne {st:SortSt}(b:Sb f kd o st)(up:Up f (arrOf st) o.size):Dne f o (setPending st ((pendingOf st).push x)):=
 ⟨b.pm,b.fl,by show ((pendingOf st).push x).size=1;rw [b.pe];rfl,up⟩
def runs (C:Cmp prog w A s kd f o){st:SortSt}(b:Sb f kd o st)(h2:2<=o.size)(h64:o.size<64)(h:∀ u,(arrOf u).Perm o->failedOf u=none->Up f (arrOf u) o.size->Q () u):wpS (model prog w) A E s sortRuns' Q st:=by
 rw [sortRuns'_eq];refine BV (wpS_get ?_);dsimp only;have mr:minRun' o.size o.size 0=o.size:=by
  generalize hz:o.size=z at h2 h64;cases z with
  |zero=>omega
  |succ z=>rw [minRun'_succ,if_pos h64]
 simp only [b.sz,mr];refine BV (wpS_mono (wpS_forRange (I:=λx c u=>(x=0/\c=(none,0)/\Sb f kd o u)\/(0<x/\c=(none,o.size)/\Dne f o u)) (Q:=λc u=>c=(none,o.size)/\Dne f o u)
  (λx c u q1 q2 q3=>?_) (λc u q3=>?_) (.inl ⟨rfl,rfl,b⟩)) λc u q=>?_)
 ·rcases q3 with ⟨rfl,rfl,b'⟩|⟨x1,rfl,d⟩
  ·dsimp only
   rw [if_neg (by omega)];simp only [Nat.sub_zero,Nat.min_self,Nat.zero_add];refine BV (count C b' (Ak _) (by omega) λm v b2 m1 m2 up=>?_);dsimp only
   by_cases lt:m<o.size
   ·rw [if_pos lt]
    refine BV (wpS_lift (Dp ⟨rfl,?_⟩));refine BV (binary C b2 (Ak _) m2 up λv3 b3 up3=>?_);simp only [Bool.not_true,De,if_false];refine BV (wpS_get ?_);rw [show (pendingOf v3).back?=none by rw [b3.pe];rfl];exact BV (wpS_modify (Dd (.inr ⟨by omega,rfl,b3.dne up3⟩)))
   ·rw [if_neg lt]
    obtain rfl:m=o.size:=by omega
    refine BV (wpS_get ?_);rw [show (pendingOf v).back?=none by rw [b2.pe];rfl];exact BV (wpS_modify (Dd (.inr ⟨by omega,rfl,b2.dne up⟩)))
  ·dsimp only
   rw [if_pos (Ak _)];exact Dd ⟨rfl,d⟩
 ·rcases q3 with ⟨x0,_,_⟩|⟨_,e,d⟩
  ·omega
  ·exact ⟨e,d⟩
 ·obtain ⟨rfl,d⟩:=q
  dsimp only;refine BV (wpS_mono (wpS_forRange (I:=λ_ c v=>v=u/\c=(none,())) (Q:=λc v=>v=u/\c=(none,())) (λx c v p1 p2 p3=>?_) (λ_ _ p=>p) ⟨rfl,rfl⟩) λc v p=>?_)
  ·obtain ⟨rfl,rfl⟩:=p3
   refine BV (wpS_get ?_);rw [if_pos (by rw [d.2.2.1];exact Ak 1)];exact Dd ⟨rfl,rfl⟩
  ·obtain ⟨rfl,rfl⟩:=p
   exact Dd (h _ d.1 d.2.1 d.2.2.2)
end
def Tp (h:Heap)(nm:Value->Str)(v:Value):Prop:=∃ a o xs n t r,v=.ref a/\h.get? a=some o/\o.cls=.type "tuple" /\ o.data=.seq xs n/\xs.toList=.str (nm v) t::r
def Tp.keep {m:Nat}(t:Tp h nm v)(ha:h.get? a=some (seqObj "list" its m))(k:∀ b o,b≠a->h.get? b=some o->h'.get? b=some o):Tp h' nm v:=by
 obtain ⟨b,o,xs,n,t,r,e,ho,hc,hd,hx⟩:=t;refine ⟨b,o,xs,n,t,r,e,k b o ?_ ho,hc,hd,hx⟩
 rintro rfl
 rw [ho] at ha;obtain rfl:=AK ha;exact absurd (show CY "list" = CY "tuple" from hc) (by simp)
def aBz :∀ (vs:List Value),(∀ v∈vs,Tp h nm v)->∃ fs,PySem.W.KatTups h vs fs/\fs.length=vs.length/\∀ v∈fs,∃ x t,v=.str x t
 |[],_=>⟨[],trivial,rfl,λv h=>nomatch h⟩
 |v::vs,H=>by
  obtain ⟨fs,k,l,e⟩:=aBz vs λu hu=>H u (Aj _ hu);obtain ⟨a,o,xs,n,t,r,rfl,ho,hc,hd,hx⟩:=H v (Au ..);refine ⟨_::fs,PySem.W.KatTups.cons ho hc hd (f:=.str (nm (.ref a)) t) ?_ k,by simp [l],?_⟩
  ·rw [<- Bq,hx];rfl
  ·intro u hu
   rcases AE.mp hu with rfl|hu
   ·exact ⟨_,_,rfl⟩
   ·exact e u hu
theorem oP:∀ vs:List Value,vs.zip vs=vs.map λv=>(v,v)
 |[]=>rfl
 |v::vs=>by rw [BY,oP vs,Al]
def aCo {x y:Str}(h:x.cps.toList=y.cps.toList):x=y:=by
 cases x;cases y
 simpa using h
section
variable {prog:Az}{w:World}{A:Around}{E:Value->Shared->Prop}{s:Shared}{nm:Value->Str}{vs:List Value}
abbrev kf (nm:Value->Str):Value->Ky:=λv=>(nm v).cps.toList
theorem kind {Q:SortKind->Shared->Prop}(h0:0<vs.length)(T:∀ v∈vs,Tp s.heap nm v)(h:Q (tuples' true) s):wpAny (model prog w) A (keyKind' vs.toArray) Q E s:=by
 obtain ⟨fs,k,l,e⟩:=aBz vs T;refine PySem.W.kat_kind (T:=.type "str") k (by omega) (λv hv=>?_) (by decide) ?_
 ·obtain ⟨x,t,rfl⟩:=e v hv
  exact PySem.W.Looks.now
 ·have hb:(CY "str" != CY "tuple")=true:=by decide
  rw [hb];exact h
def cmp (T:∀ v∈vs,Tp s.heap nm v):Cmp prog w A s (tuples' true) (kf nm) (pairsOf vs):=by
 intro p q E Q hp hq hn h;have m:∀ p∈(pairsOf vs).toList,p.1∈vs:=λp hp=>by rw [pairsOf_toList] at hp;exact (Ew hp).1
 obtain ⟨a,o,xs,n,t,r,ea,ho,hc,hd,hx⟩:=T _ (m p hp);obtain ⟨b,o',ys,n',t',r',eb,ho',hc',hd',hy⟩:=T _ (m q hq);have ne:nm p.1≠nm q.1:=λz=>hn (by show (nm p.1).cps.toList=_;rw [z]);rw [show keyLt' (tuples' true) p.1 q.1=keyLt' (tuples' true) (.ref a) (.ref b) by rw [ea,eb]];refine PySem.W.kat_lt ho hd ho' hd' ?_;rw [hx,hy,BY];refine PySem.W.kat_cons (wpAny_eqBool_str ?_);rw [decide_eq_false ne];exact PySem.W.kat_no (oneLt_str h)
def aFx (hp:xs.Perm (pairsOf vs))(hu:Up f xs (pairsOf vs).size):(xs.map (·.2)).toList.Perm vs/\(xs.map (·.2)).toList.Pairwise λu v=>f u<f v:=by
 have hl:=DW.mp hp;rw [pairsOf_toList,oP] at hl;have same:∀ p∈xs.toList,p.1=p.2:=λp h=>by
  obtain ⟨v,_,rfl⟩:=AS.mp (hl.mem_iff.mp h);rfl
 refine ⟨?_,?_⟩
 ·rw [Array.toList_map]
  refine (hl.map (·.2)).trans ?_;rw [CC,show ((λp:Keyed=>p.2) ∘ λv:Value=>(v,v))=id from rfl,List.map_id]
 ·rw [Array.toList_map,Cg,Di]
  intro i j hi hj hij;rw [<- same _ (DE hi),<- same _ (DE hj)];have hi':i<xs.size:=by simpa using hi
  have hj':j<xs.size:=by simpa using hj
  have g:=hu i j hij (by rw [<- hp.size_eq];exact hj');have e1:ka f xs i=f xs[i].1:=by unfold ka;rw [getElem?_pos xs i hi'];rfl
  have e2:ka f xs j=f xs[j].1:=by unfold ka;rw [getElem?_pos xs j hj'];rfl
  rw [e1,e2] at g
  simpa using g
def sort_tup {a:Addr}{n:Nat}{R:PySem.Fin->Shared->Prop}(ho:s.heap.get? a=some (seqObj "list" vs.toArray n))(T:∀ v∈vs,Tp s.heap nm v)(D:vs.Pairwise λu v=>nm u≠nm v)(h64:vs.length<64)
  (h:∀ out:List Value,out.Perm vs->(out.Pairwise λu v=>kf nm u<kf nm v)->R (.done (.ret .none)) { s with heap:=sortedHeap s.heap a vs out.toArray }):wpAny (model prog w) A (AH.«list.sort» ⟨[.ref a],[]⟩) R E s:=by
 have fin:∀ xs:Array Keyed,xs.Perm (pairsOf vs)->Up (kf nm) xs (pairsOf vs).size->R (.done (.ret .none)) { s with heap:=sortedHeap s.heap a vs (xs.map (·.2)) }:=λxs hp hu=>by
  obtain ⟨q1,q2⟩:=aFx hp hu;have e:=h _ q1 q2;rw [EW] at e;exact e
 rw [list_sort_plain];have lt:a<s.heap.objs.size:=Aq ho;refine Ab (listItems_at ho rfl (Ab (listUpdate_at ho rfl ?_)));obtain ⟨e1,o1⟩:∃ e1,(s.heap.update a (DZ λ_=>#[])).get? a=some (seqObj "list" #[] e1):=⟨_,get?_update_seq ho (λ_=>#[])⟩;refine Ab (seqEpoch_at o1 rfl (Ab (wpAny_newTuple (Ab (wpAny_newList (Bw ?_))))));show wpAny (model prog w) A _ R E { s with heap:=((s.heap.update a (DZ λ_=>#[])).push (seqObj "tuple" vs.toArray 0)).push (seqObj "list" #[] 0) };generalize hg:((s.heap.update a (DZ λ_=>#[])).push (seqObj "tuple" vs.toArray 0)).push (seqObj "list" #[] 0)=g;have keep:∀ b o,b≠a->s.heap.get? b=some o->g.get? b=some o:=λb o nb hb=>by
  have l:=Aq hb;rw [<- hg,EG _ _ _ (by rw [size_push',Heap.size_update];exact Aw (Cj l)),EG _ _ _ (by rw [Heap.size_update];exact Aw l),Heap.get?_update_ne _ _ _ _ nb];exact hb
 have o6:g.get? a=some (seqObj "list" #[] e1):=by
  rw [<- hg,EG _ _ _ (by rw [size_push',Heap.size_update];exact Aw (Cj lt)),EG _ _ _ (by rw [Heap.size_update];exact Aw lt)];exact o1
 have T':∀ v∈vs,Tp g nm v:=λv hv=>(T v hv).keep ho keep;have fin':∀ xs:Array Keyed,xs.Perm (pairsOf vs)->Up (kf nm) xs (pairsOf vs).size->R (.done (.ret .none)) { s with heap:=g.update a (DZ λ_=>xs.map (·.2)) }:=λxs hp hu=>by
  rw [<- hg];exact fin xs hp hu
 dsimp only;have z:vs.toArray.size=vs.length:=by simp
 by_cases h2:vs.toArray.size<2
 ·rw [if_pos h2,if_pos h2]
  refine Ab (Af ?_);rw [StateT.run_pure];refine Ab (Af ?_);dsimp only;refine Ab (seqEpoch_at o6 rfl (Ab (listUpdate_at o6 rfl ?_ (hsz2:=by rw [Array.size_map];show (pairsOf vs).size<=_;rw [pairsOf_size,sizeLine_eq];omega))));simp only [bne_self_eq_false,De,if_false];refine Af (fin' (vs.toArray.zip vs.toArray) (Array.Perm.refl _) λi j q1 q2=>?_);rw [pairsOf_size] at q2;omega
 ·rw [if_neg h2,if_neg h2]
  refine Ab (kind (by omega) T' ?_);refine Ab (BW (runs (kd:=tuples' true) (f:=kf nm) (o:=pairsOf vs) (st:=SortSt.mk' (tuples' true) (vs.toArray.zip vs.toArray) #[] 7 none) (Q:=λ_ st=>(arrOf st).Perm (pairsOf vs)/\failedOf st=none/\Up (kf nm) (arrOf st) (pairsOf vs).size)
   (cmp T') ⟨Array.Perm.refl _,rfl,rfl,rfl,?_⟩ (by rw [pairsOf_size];omega) (by rw [pairsOf_size];exact h64) λst x1 x2 x3=>⟨x1,x2,x3⟩) ?_ λ_ _ e=>e)
  ·show Df (kf nm) (pairsOf vs).toList
   rw [pairsOf_toList,oP];exact Cg.mpr (D.imp λne z=>ne (aCo z))
  ·rintro ⟨⟨⟩,st⟩ s' ⟨rfl,hp,hf,hs⟩
   dsimp only;refine Ab (seqEpoch_at o6 rfl (Ab (listUpdate_at o6 rfl ?_ (hsz2:=by refine Bh (Nat.le_of_eq ((Array.size_map ..).trans (hp.size_eq.trans (pairsOf_size _)))) ?_;rw [sizeLine_eq];omega))));rw [hf];simp only [bne_self_eq_false,De,if_false];exact Af (fin' _ hp hs)
end
end L2.TS
namespace L2
open PySem PySem.Spec PyProof.Rows
def nmH (H:Hp)(a:Addr):Str:=match H a with
 |some (.tup (.str x::_))=>x
 |_=>⟨#[]⟩
def nmV (H:Hp):Value->Str
 |.ref a=>nmH H a
 |_=>⟨#[]⟩
theorem mD:∀ as:List Addr,Vals (as.map V.ref) (as.map AD)
 |[]=>.nil
 |_::as=>.cons rfl (mD as)
def adOf:Value->Addr
 |.ref a=>a
 |_=>0
def rSortT (K:Aa):List V->Hp->VK->Prop:=λxs H Q=>∃ a as,xs=[.ref a]/\SqL K H a (as.map V.ref)/\as.length<64/\(∀ q∈as,∃ x r,H q=some (.tup (.str x::r)))/\(as.map (nmH H)).Nodup /\
 ∀ (p:Addr) (as':List Addr),as'.Perm as->(as'.Pairwise λu v=>(nmH H u).cps.toList<(nmH H v).cps.toList)->H p=none->Q (.ref p) (upd H p (.lst (as'.map V.ref)))
def lay (H g:Hp):Hp:=λb=>match g b with
 |some o=>some o
 |none=>H b
theorem rM (h:g b=some o):lay H g b=some o:=by unfold lay;rw [h]
theorem iC (h:g b=none):lay H g b=H b:=by unfold lay;rw [h]
section
variable {X:Cx}{pins:List (Addr×Obj)}{σ:St}{H g:Hp}{s:Shared}{h':Heap}{t':Nat}
def Inv.laidL (I:Inv X pins σ H s)(k:∀ b u,s.heap.get? b=some u->h'.get? b=some u)(hp:∀ a o,g a=some o->s.heap.objs.size<=a)(new:∀ a o,g a=some o->ObjOk X.prog X.w (lay H g) h' a o) :
  Inv X pins σ (lay H g) { s with heap:=h',toks:=t' }:=by
 have sm:∀ b o,H b=some o->lay H g b=some o:=λb o e=>by
  cases q:g b with
  |none=>rw [iC q];exact e
  |some u=>
   rw [I.hok.fresh (hp b u q)] at e;cases e
 refine I.un ⟨λb u q _ _ _=>k b u q,λb u q _ _ _=>⟨u.slots,k b u q⟩,λb u q n _=>?_,λb u q _=>⟨u,k b u q⟩,λb xs q=>sm b _ q,λb u xs q=>sm b _ q,λb ps q=>⟨#[],by rw [sm b _ q];simp⟩⟩ λb u e=>?_
 ·cases z:g b with
  |none=>rw [iC z];exact n
  |some v=>exact absurd (Aq q) (Nat.not_lt.mpr (hp b v z))
 ·cases z:g b with
  |some v=>
   rw [rM z] at e;obtain rfl:=AK e;exact new b _ z
  |none=>
   rw [iC z] at e;exact (I.hok b u e).stay (λc v _ q=>k c v q) (λc q=>sm c _ q) λc xs q=>sm c _ q
end
namespace TI
def zP {α β:Type}{as' as:List α}(p:as'.Perm as):∀ {zs:List β},as.length=zs.length->∃ zs',zs'.Perm zs/\(as'.zip zs').Perm (as.zip zs)/\as'.length=zs'.length:=by
 induction p with
 |nil=>exact λ{zs} h=>⟨zs,.refl _,.refl _,h⟩
 |cons x _ ih=>
  intro zs h
  match zs,h with
  |z::t,h=>
   obtain ⟨zs',p1,p2,p3⟩:=ih (zs:=t) (by simpa using h);exact ⟨z::zs',p1.cons z,by rw [BY,BY];exact p2.cons _,by simp [p3]⟩
 |swap x y l=>
  intro zs h
  match zs,h with
  |z1::z2::t,h=>exact ⟨z2::z1::t,.swap ..,by rw [BY,BY,BY,BY];exact .swap ..,by simpa using h⟩
 |trans _ _ i1 i2=>
  intro zs h;obtain ⟨z2,a1,a2,a3⟩:=i2 h;obtain ⟨z1,b1,b2,b3⟩:=i1 a3;exact ⟨z1,b1.trans a1,b2.trans a2,b3⟩
def lk_mem {β:Type}{b:Addr}{z:β}:∀ {l:List (Addr×β)},l.lookup b=some z->(b,z)∈l
  |[],h=>by cases h
  |(a,y)::l,h=>by
    rw [Da] at h;split at h
    · rename_i e;cases h;rw [Es e];exact Au ..
    · exact Aj _ (lk_mem h)
theorem mem_lk {β:Type}{b:Addr}{z:β}:∀ {l:List (Addr×β)},(l.map (·.1)).Nodup->(b,z)∈l->l.lookup b=some z
  |(a,y)::l,nd,h=>by
    rw [Al] at nd;have nd':=BO.mp nd;rw [Da]
    rcases AE.mp h with e|hm
    · cases e;rw [beq_self_eq_true]
    · have ne:(b==a)=false:=by
        rw [beq_eq_false_iff_ne]
        rintro rfl
        exact nd'.1 (AS.mpr ⟨_,hm,rfl⟩)
      rw [ne];exact mem_lk nd'.2 hm
def mZ {α β:Type}{R:α->β->Prop}:∀ {l:List α} {m:List β},Paired R l m->∀ {i:Nat} {a:α} {b:β},l[i]?=some a->m[i]?=some b->R a b
 |_,_,.nil,_,_,_,h,_=>by simp at h
 |_,_,.cons r t,0,_,_,h1,h2=>by
  simp at h1 h2;subst h1 h2;exact r
 |_,_,.cons r t,i+1,_,_,h1,h2=>mZ t (i:=i) (by simpa using h1) (by simpa using h2)
def nmG (h:Heap):Value->Str
 |.ref a=>match h.get? a with
  |some o=>match o.data with
   |.seq xs _=>match xs.toList with
    |.str x _::_=>x
    |_=>⟨#[]⟩
   |_=>⟨#[]⟩
  |none=>⟨#[]⟩
 |_=>⟨#[]⟩
theorem wR (e:h.get? a=some { cls:=.type "tuple",data:=.seq #[.str x t,u] }):nmG h (.ref a)=x:=by
 unfold nmG;simp only [e]
def sorted_items {w:World}{r d:Addr}{ep:Nat}(hh:A.handled=none)(hv:s.heap.IsItemsView r d)(hm:s.heap.DictAt (bI P w) d vs ep)(rel:KV (zs.map λz=>(AN z.1,z.2)) vs)(nd:(zs.map (·.1)).Nodup)(h64:zs.length<64)(h:∀ (h':Heap) (tk:Nat) (as as':List Addr) (zs':List (Str×V)) (out:List Value),(∀ b o,s.heap.get? b=some o->h'.get? b=some o)->as.length=zs.length->as.Pairwise (·<·)->(∀ a∈as,s.heap.objs.size<a) ->
   (∀ a z,(a,z)∈as.zip zs->∃ t u,h'.get? a=some { cls:=.type "tuple",data:=.seq #[.str z.1 t,u] }/\RelV z.2 u)->zs'.Perm zs->(as'.zip zs').Perm (as.zip zs)->as'.length=zs'.length->out=as'.map AD->(zs'.Pairwise λu v=>u.1.cps.toList<v.1.cps.toList) ->
   Q (.ref h'.objs.size) { s with heap:=sortedHeap (h'.push (seqObj "list" (as.map AD).toArray 0)) h'.objs.size (as.map AD) out.toArray,toks:=tk }) :
  wpAny (model P w) A (call (.builtin "sorted") [.ref r]) Q E s:=by
 have vl:vs.length=zs.length:=by rw [<- rel.length,Ag]
 refine Fq kind_sorted plain_sorted entry_sorted (args_sorted1 _) ?_;unfold AH.«sorted»;refine Ab (m:=checkCount "sorted" 1 1 _) (Af ?_);refine Ab (PySem.W.kdx_collect (A:=A.in1) (knd:=bI P w) (kvs:=vs) (ep:=ep) hh hv hm (by rw [vl];exact bO (by omega)) λh' tk as hk hl hG=>?_);have al:as.length=zs.length:=hl.trans vl;have fc:∀ (j:Nat) a z,as[j]?=some a->zs[j]?=some z->∃ t u,h'.get? a=some { cls:=.type "tuple",data:=.seq #[.str z.1 t,u] }/\RelV z.2 u:=λj a z ha hz=>by
  obtain ⟨key,k,x,e1,e2,e3⟩:=hG.pairs j a ha;have ez:(zs.map λz=>((AN z.1:Key),z.2))[j]?=some (AN z.1,z.2):=by rw [As,hz];rfl
  obtain ⟨ek,er⟩:=mZ rel ez e1;have ek':(AN z.1:Key)=k:=ek;subst ek';obtain ⟨t,rfl⟩:=Dx (x:=z.1) (v:=key) e2;exact ⟨t,x,e3,er⟩
 have fz:∀ a z,(a,z)∈as.zip zs->∃ t u,h'.get? a=some { cls:=.type "tuple",data:=.seq #[.str z.1 t,u] }/\RelV z.2 u:=λa z m=>by
  obtain ⟨j,hj⟩:=Fd m;obtain ⟨h1,h2⟩:=Fu.mp hj;exact fc j a z h1 h2
 refine Ab (wpAny_newList ?_ (by rw [Ag,al];exact bO (by omega)));have oL:(h'.push (seqObj "list" (as.map AD).toArray 0)).get? h'.objs.size=some (seqObj "list" (as.map AD).toArray 0):=Ah _ rfl;have nmz:as.map (λa=>nmG h' (.ref a))=zs.map (·.1):=by
  refine List.ext_getElem? λj=>?_;rw [As,As]
  by_cases lt:j<as.length
  ·have lt':j<zs.length:=by omega
   rw [Ad lt,Ad lt'];obtain ⟨t,u,e,_⟩:=fc j as[j] zs[j] (Ad lt) (Ad lt');rw [Dq,Dq,wR e]
  ·rw [Bu (by omega),Bu (by omega)]
   rfl
 have T':∀ v∈as.map AD,TS.Tp (h'.push (seqObj "list" (as.map AD).toArray 0)) (nmG h') v:=λv hv=>by
  obtain ⟨a,ha,rfl⟩:=AS.mp hv;obtain ⟨j,hj⟩:=Fd ha;have lt:j<zs.length:=by have:=(Ae.mp hj).1;omega
  obtain ⟨t,u,e,_⟩:=fc j a zs[j] hj (Ad lt);exact ⟨a,_,_,_,t,[u],rfl,Ac _ e,rfl,rfl,by rw [wR e]⟩
 have D:(as.map AD).Pairwise λu v=>nmG h' u≠nmG h' v:=by
  rw [Cg];have:=nd;rw [<- nmz] at this;exact Cg.mp this
 refine Ab (Bw (Bv slot_list_sort ⟨_,oL,rfl⟩ entry_list_sort (TS.sort_tup (nm:=nmG h') oL T' D (by rw [Ag,al];exact h64) λout x1 x2=>⟨_,rfl,Af ⟨_,rfl,?_⟩⟩) (args_list_sort _)));have er:∀ v∈out,v=.ref (adOf v):=λv hv=>by
  obtain ⟨b,_,rfl⟩:=AS.mp (x1.mem_iff.mp hv);rfl
 have eo:out=(out.map adOf).map AD:=by
  rw [CC]
  conv=>lhs;rw [<- List.map_id out]
  exact Em er
 have pm:(out.map adOf).Perm as:=by
  have:=x1.map adOf;rw [CC,show (adOf ∘ AD)=id from rfl,List.map_id] at this;exact this
 obtain ⟨zs',p1,p2,p3⟩:=zP pm al;refine h h' tk as (out.map adOf) zs' out hk al hG.rise (λa ha=>hG.above a ha) fz p1 p2 p3 eo ?_;rw [eo] at x2;have x3:=Cg.mp x2;rw [Di] at x3 ⊢;intro i j hi hj hij;have hi':i<(out.map adOf).length:=by omega
 have hj':j<(out.map adOf).length:=by omega
 have nz:∀ (i:Nat) (h1:i<(out.map adOf).length) (h2:i<zs'.length),nmG h' (.ref (out.map adOf)[i])=zs'[i].1:=λi h1 h2=>by
  have m:((out.map adOf)[i],zs'[i])∈(out.map adOf).zip zs':=by
   refine Av (i:=i) ?_;rw [Fu];exact ⟨Ad h1,Ad h2⟩
  obtain ⟨t,u,e,_⟩:=fz _ _ (p2.mem_iff.mp m);exact wR e
 have z:=x3 i j hi' hj' hij;have z':(nmG h' (.ref (out.map adOf)[i])).cps.toList<(nmG h' (.ref (out.map adOf)[j])).cps.toList:=z;rw [nz i hi' hi,nz j hj' hj] at z';exact z'
end TI
end L2
namespace L2
open PySem PySem.Spec PyProof.Rows
abbrev txK (zs:List (Str×V)):List (Key×V):=zs.map λz=>(AN z.1,z.2)
def sS (td:TE):TE:=λσ H Q=>td σ H λx H1=>∃ a zs,x=.ref a/\H1 a=some (.dK (txK zs))/\(zs.map (·.1)).Nodup/\zs.length<64 /\
 ∀ (p:Addr) (as:List Addr) (zs':List (Str×V)) (H':Hp),Same H1 H'->zs'.Perm zs->(zs'.Pairwise λu v=>u.1.cps.toList<v.1.cps.toList)->as.length=zs'.length ->
  (∀ a z,(a,z)∈as.zip zs'->H' a=some (.tup [.str z.1,z.2]))->H' p=some (.lst (as.map V.ref))->Q (.ref p) H'
def mX {X:Cx}{o:Expr}{td:TE}{p apos cpos pos:Pos}(hc:X.calm=true)(hg:Gl X "sorted")(hm:X.mg "sorted" = none)(ho:PE X o td)
  (hbase:Ej o "items" X.env (eval o X.env)=eval o X.env:=by rfl) (hline:(apos.endLine==cpos.line)=true:=by rfl)
  (hs3:AU [Expr.Call (.Attribute o "items" apos) [] [] cpos] X.env=[(false,eval (.Call (.Attribute o "items" apos) [] [] cpos) X.env)]:=by rfl) :
  PE X (.Call (.Name "sorted" p) [.Call (.Attribute o "items" apos) [] [] cpos] [] pos) (sS td):=by
 intro pins s σ H Q I h;refine Dr (jA I hg hm boot_sorted (PyProof.Rows.callWith_builtin1 ?_ hs3 rfl));rw [hs3];show wpAny _ _ (spliced ((false,eval (.Call (.Attribute o "items" apos) [] [] cpos) X.env)::backTo pos [])) _ _ s;refine Et ?_;refine wpAny_Call_method0_late hbase hline (thn (ho pins s σ H _ I h) λv s1 ⟨x,H1,I1,r1,a,zs,ex,hH,nd,h64,q⟩=>?_);subst ex;cases r1;obtain ⟨z,lo,vs,rel,dd⟩:=tX I1.hok hH;obtain ⟨t1,t2,_⟩:=aBx I1 (.inl ⟨_,.inl hH⟩);refine ⟨"dict","dict.items",FA,PySem.F.slot_dict_items,PySem.F.type_dict_items,t1,t2,CV rfl (PySem.evalArgs_none ?_)⟩;refine call_meetsIn PySem.F.slot_dict_items t1 PySem.F.entry_dict_items (PySem.F.args_dict_items_1 _) (meets_dict_items (bI X.prog X.w) a lo) ⟨⟨vs,dd⟩,Calls.spliced_nil ?_⟩;have I2:Inv X pins σ H1 { s1 with heap:=s1.heap.push { cls:=.type "dict_items",data:=.fields #[.ref a] } }:=I1.kept (t':=s1.toks) λb o e=>Ac _ e;obtain ⟨z2,lo2,vs2,rel2,dd2⟩:=tX I2.hok hH;obtain ⟨ep,hat⟩:=dd2.dictAt;refine TI.sorted_items (zs:=zs) (vs:=vs2) (ep:=ep) (I2.ok.hd hc) ⟨_,Ah _ rfl,rfl,rfl⟩ hat rel2 nd h64 λh' tk as as' zs' out keep al up ab fz p1 p2 p3 eo srt=>?_;have zk:((as.zip zs).map (·.1)).Nodup:=by
  rw [List.map_fst_zip (by omega)];exact up.imp λh e=>absurd (e▸h) (CB _)
 let g:Hp:=λb=>((as.zip zs).lookup b).map λz=>.tup [.str z.1,z.2]
 have gs:∀ b o,g b=some o->∃ z,(b,z)∈as.zip zs/\o=.tup [.str z.1,z.2]:=λb o e=>by
  obtain ⟨z,e1,e2⟩:=BB.mp e;exact ⟨z,TI.lk_mem e1,e2.symm⟩
 have gm:∀ b z,(b,z)∈as.zip zs->g b=some (.tup [.str z.1,z.2]):=λb z m=>by
  show ((as.zip zs).lookup b).map _=_;rw [TI.mem_lk zk m];rfl
 have I3:Inv X pins σ (lay H1 g) { s1 with heap:=h',toks:=tk }:=I2.laidL (t':=tk) keep (λb o e=>by
   obtain ⟨z,m,_⟩:=gs b o e;exact Nat.le_of_lt (ab b (Ew m).1)) λb o e=>by
   obtain ⟨z,m,rfl⟩:=gs b o e;obtain ⟨t,u,e1,e2⟩:=fz b z m;exact ⟨⟨zLn2,_,e1,rfl⟩,[.str z.1 t,u],.cons ⟨_,rfl⟩ (.cons e2 .nil),_,e1,rfl,_,rfl⟩
 have oL:(h'.push (seqObj "list" (as.map AD).toArray 0)).get? h'.objs.size=some (seqObj "list" (as.map AD).toArray 0):=Ah _ rfl;obtain ⟨e,he⟩:∃ e,(sortedHeap (h'.push (seqObj "list" (as.map AD).toArray 0)) h'.objs.size (as.map AD) out.toArray).get? h'.objs.size=some (seqObj "list" out.toArray e):=sortedHeap_at oL;have sm:Same H1 (lay H1 g):=λb o e=>by
  cases q:g b with
  |none=>rw [iC q];exact e
  |some u=>
   obtain ⟨z,m,_⟩:=gs b u q;rw [I2.hok.fresh (Nat.le_of_lt (ab b (Ew m).1))] at e;cases e
 have nL:lay H1 g h'.objs.size=none:=I3.hok.fresh (Ak _);refine ⟨.ref h'.objs.size,_,I3.laid (a:=h'.objs.size) (o:=.lst (as'.map V.ref)) (t':=tk) (λb o hb'=>?_) (Ak _) (rL (its:=out) (e:=e) (by rw [eo];exact mD as') ?_ he),rfl,q _ as' zs' _ (sm.trans (Same.upd nL)) p1 srt p3 (λb z m=>?_) aB⟩
 ·have lt:=Aq hb'
  rw [sortedHeap_old (Aw lt) (by rw [BJ];exact Cj lt)];exact Ac _ hb'
 ·rw [Ag,p3,p1.length_eq]
  exact bO (by omega)
 ·have m':=p2.mem_iff.mp m
  exact (Same.upd nL) _ _ (by rw [rM (gm b z m')])
end L2
namespace DX
open PySem PySem.Spec PyProof.Rows
def oQ:typeLookup (.type "tuple") (CP "keys")=pure none:=am_miss_of_fast (by decide +kernel)
section
variable {P:Az}{w:World}{A:Around}{E:Value->Shared->Prop}{s:Shared}
def pN {k:Nat}{sl:Array (Option Value)}(ho:s.heap.get? a=some { cls:=.type "tuple",dict:=none,data:=.seq xs k,slots:=sl })(hh:A.handled=none)(h:∀ h' tk,(∀ b ob,s.heap.get? b=some ob->h'.get? b=some ob)->Q none { s with heap:=h',toks:=tk }):wpAny (model P w) A (getAttr? (.ref a) "keys") Q E s:=by
 have ty:s.TypeIs (.ref a) "tuple":=⟨_,ho,rfl⟩;unfold getAttr?;refine Ab (wpAny_mkText ?_);unfold getAttrBy?;refine Ab (DG ?_);unfold getAttrBy;refine Bw ?_;refine Ab (Ed (T:="tuple") ⟨_,ho,rfl⟩ ?_);refine Ab (EB FC.lookup ?_);dsimp only;show wpAny _ _ (getAttrByItsOwn _ _ _ _ _ _) _ _ _;unfold getAttrByItsOwn;refine Ab (EB (a:=none) rfl ?_);refine Ab (DG (Bw ?_));show wpAny _ _ (boundAndCalled _ _ _) _ _ _;unfold boundAndCalled;refine Ab (EB (FC.bind _) ?_);dsimp only;refine call_meets FC ⟨_,ho,rfl⟩ am_entry_tuple_getattribute (F.args_tuple_getattribute_2 _ _) (meets_getattribute_miss_tuple a xs k sl "keys" _ oQ (by decide +kernel)) ⟨ho,hh,λh' tk e ne=>?_⟩;show wpAny _ _ (getattributeRaised _ _ _ _ _ _ _) _ _ _;obtain ⟨t,u,he⟩:=ne.there;unfold getattributeRaised;refine Ab (Fj (T:="AttributeError") ⟨_,he,rfl⟩ sub_AttributeError ?_);rw [if_pos rfl];refine Ab (EB am_tuple_getattr_none ?_);unfold hookOrError;dsimp only;unfold attributeErrorLeaves;refine Ab (wpAny_throw ?_);show wpAny _ _ (isInstance _ _ >>= _) _ _ _;refine Ab (Fj (T:="AttributeError") ⟨_,he,rfl⟩ sub_AttributeError ?_);rw [if_pos rfl];exact Af (h h' tk ne.keeps)
end
section
variable {P:Az}{w:World}{K:Type}[DecidableEq K]{knd:KeyKind P w K}{A:Around}{R:Result->Shared->Prop}
def uG (hh:A.in1.handled=none)(d it l:Addr)(its:Array Value)(ps:List (K×Value))(hdi:d≠it)(hdl:d≠l)(hil:it≠l)(hl:ps.length=its.size)(hz:ps.length<=Ax)(h0:Heap)(hL:h0.IsTuple l its)
  (hp:∀ (i:Nat) kv,ps[i]?=some kv->∃ z key,its[i]?=some (.ref z)/\knd.is kv.1 key=true/\z≠d/\z≠it/\TupAt h0 z key kv.2) :
  ∀ (n i:Nat) (s:Shared),its.size-i=n->i<=its.size->s.heap.IsTupleIter it l i->(∀ b o,b≠d->b≠it->h0.get? b=some o->s.heap.get? b=some o)->s.heap.DictOf knd d ((ps.take i).foldl (λacc kv=>stored acc kv.1 kv.2) [])->((ps.take i).foldl (λacc kv=>stored acc kv.1 kv.2) []).length<=i ->
   (∀ (h':Heap) (tk:Nat),(∀ b o,b≠d->b≠it->h0.get? b=some o->h'.get? b=some o)->h'.DictOf knd d (ps.foldl (λacc kv=>stored acc kv.1 kv.2) [])->R (.ok (.ret .none)) { s with heap:=h',toks:=tk }) ->
   DR (model P w) A (.builtin "dict.update.loop" ⟨[.ref d,.ref it,rawInt i,.none],[]⟩) R s:=by
 intro n
 induction n with
 |zero=>
  intro i s hk hi st fr D len q;obtain rfl:i=its.size:=by omega
  refine Cr nW ?_;rw [CL fV _];have hL':s.heap.IsTuple l its:=by
   obtain ⟨o,e,r⟩:=hL;exact ⟨o,fr l o (AQ hdl) (AQ hil) e,r⟩
  show wpAny _ A.in1 (pyNext (.ref it) >>= _) _ _ s;refine Ab (wpAny_pyNext_tuple_end hh st hL' (by simp) λh' eb=>?_);rw [EE (by omega)] at D;dsimp only;refine Ab (EB (a:=()) rfl ?_);refine Af (q h' s.toks (λb o b1 b2 e=>eb b o b2 (fr b o b1 b2 e)) ?_);obtain ⟨o,es,ep,ho,r⟩:=D;exact ⟨o,es,ep,eb d o hdi ho,r⟩
 |succ n ih=>
  intro i s hk hi st fr D len q;have lt:i<its.size:=by omega
  have hL':s.heap.IsTuple l its:=by
   obtain ⟨o,e,r⟩:=hL;exact ⟨o,fr l o (AQ hdl) (AQ hil) e,r⟩
  obtain ⟨kv,hkv⟩:∃ kv,ps[i]?=some kv:=⟨_,Ad (by omega)⟩;obtain ⟨z,key,e1,e2,z1,z2,tz⟩:=hp i kv hkv;refine Cr nW ?_;rw [CL fV _];show wpAny _ A.in1 (pyNext (.ref it) >>= _) _ _ s;refine Ab (wpAny_pyNext_tuple_item st hL' e1 λh' st' sb=>?_);have fr1:∀ b o,b≠d->b≠it->h0.get? b=some o->h'.get? b=some o:=λb o b1 b2 e=>(sb.2 b b2).trans (fr b o b1 b2 e);have D1:h'.DictOf knd d ((ps.take i).foldl (λacc kv=>stored acc kv.1 kv.2) []):=by
   obtain ⟨o,es,ep,ho,r⟩:=D;exact ⟨o,es,ep,(sb.2 d hdi).trans ho,r⟩
  have tz1:TupAt h' z key kv.2:=by
   obtain ⟨o,m,ho,r⟩:=tz;exact ⟨o,m,fr1 z o z1 z2 ho,r⟩
  dsimp only;refine Ab (Bw ?_);refine Ab (wpAny_tryCatch (lF tz1 ?_));dsimp only;refine Bw (wpAny_dictSet_pairs e2 D1 (λh2 D2 sb2=>?_) (by omega));have et:ps.take (i+1)=ps.take i++[kv]:=by rw [CQ,hkv];rfl
  refine Af ⟨EM fV _,?_⟩;have D3:h2.DictOf knd d ((ps.take (i+1)).foldl (λacc kv=>stored acc kv.1 kv.2) []):=by
   rw [et,List.foldl_append];exact D2
  have len3:((ps.take (i+1)).foldl (λacc kv=>stored acc kv.1 kv.2) []).length<=i+1:=by
   rw [et,List.foldl_append];have:=sU ((ps.take i).foldl (λacc kv=>stored acc kv.1 kv.2) []) kv.1 kv.2;show (stored _ kv.1 kv.2).length<=i+1;omega
  refine ih (i+1) _ (by omega) lt ?_ (λb o b1 b2 e=>(sb2.2 b b1).trans (fr1 b o b1 b2 e)) D3 len3 λh3 tk f3 d3=>q h3 tk f3 d3;obtain ⟨o,e,r⟩:=st';exact ⟨o,(sb2.2 it (AQ hdi)).trans e,r⟩
end
section
variable {P:Az}{w:World}{K:Type}[DecidableEq K]{knd:KeyKind P w K}{A:Around}{E:Value->Shared->Prop}{s:Shared}
def call_dict_tup {l:Addr}{its:Array Value}{n:Nat}{sl:Array (Option Value)}{ps:List (K×Value)}{Q:Value->Shared->Prop}(hh:A.handled=none)(hl:s.heap.get? l=some { cls:=.type "tuple",dict:=none,data:=.seq its n,slots:=sl })(hz:ps.length<=Ax)(hlen:ps.length=its.size)
  (hp:∀ (i:Nat) kv,ps[i]?=some kv->∃ z key,its[i]?=some (.ref z)/\knd.is kv.1 key=true/\TupAt s.heap z key kv.2)
  (h:∀ (h':Heap) (tk:Nat),(∀ b o,s.heap.get? b=some o->h'.get? b=some o)->h'.DictOf knd s.heap.objs.size (ps.foldl (λacc kv=>stored acc kv.1 kv.2) [])->Q (.ref s.heap.objs.size) { s with heap:=h',toks:=tk }) :
  wpAny (model P w) A (call (.type "dict") [.ref l]) Q E s:=by
 obtain ⟨c,tl,hmro⟩:=CM.mro;have hmade:=CM.made;have hsub:=CM.sub;refine ED (Fy ?_);show wpAny _ _ (callAny (.type "dict") _) _ _ _;refine Af ⟨DJ _ (by decide +kernel),Cr F.entry_type_call ?_⟩;rw [Around.under_plain (weight_type_call_type "dict" [.ref l] []) rfl];have h1:=CM.notType;have h2:=CM.canCreate;have hct:=F.kt_typeCall_dict_1 (.ref l)
 repeat (any_goals (first|assumption|wp_step))
 refine Ck (kt_code_dict_new (.ref l) (E:=E) (Q₁:=λobj s1=>obj=.ref s.heap.objs.size/\s1={ s with heap:=s.heap.push nuD }) ⟨rfl,rfl⟩) λr s1 hr=>?_;cases r with
 |error e=>exact hr
 |ok fl=>
  cases fl with
  |ret obj=>
   obtain ⟨rfl,rfl⟩:=hr;have hS:(s.heap.push nuD).get? s.heap.objs.size=some nuD:=Ah _ rfl;have hT:Shared.TypeIs { s with heap:=s.heap.push nuD } (.ref s.heap.objs.size) "dict":=⟨_,hS,rfl⟩;have hli:=CM.init.lookup;have hbi:=CM.init.bind (.ref s.heap.objs.size)
   repeat (any_goals (first|assumption|wp_step))
   refine Ck (Cv (R:=wants (λr s2=>r=.none/\∃ h' tk,s2={ s with heap:=h',toks:=tk }/\h'.DictOf knd s.heap.objs.size (ps.foldl (λacc kv=>stored acc kv.1 kv.2) [])/\(∀ b o,s.heap.get? b=some o->h'.get? b=some o)) E) CM.init.plain F.entry_dict_init (CM.init.check _ _ _ _ _ _ _ _ hT (F.args_dict_init_2 _ _) ?_)) λr2 s2 hr2=>?_
   ·have hl1:(s.heap.push nuD).get? l=some { cls:=.type "tuple",dict:=none,data:=.seq its n,slots:=sl }:=Ac _ hl
    have hlS:l<s.heap.objs.size:=Aq hl;have hz1:(s.heap.push nuD).objs.size=s.heap.objs.size+1:=BJ ..;show wpAny _ _ (AH.Dict.selfAndRest "__init__" ⟨[.ref s.heap.objs.size,.ref l],[]⟩ >>= _) _ _ _;refine Ab ?_;unfold AH.Dict.selfAndRest AH.Dict.notOrdered;rw [if_pos (by decide +kernel)];refine Ab (Ab (Ed (T:="dict") hT ?_));rw [if_neg (by decide +kernel)];refine Af ?_;refine Ab (EB (a:=s.heap.objs.size) rfl (Af ?_));show wpAny _ _ (AH.Dict.updateFrom "dict.__init__" s.heap.objs.size (.ref l) [] .none) _ _ _;unfold AH.Dict.updateFrom;refine Ab (Ed (T:="tuple") ⟨_,hl1,rfl⟩ ?_);rw [if_pos (by decide +kernel)];refine Ab (pN hl1 (by simp [hh]) λh3 tk3 k3=>?_);rw [if_pos (show (none:Option Value).isNone=true from rfl)];refine Ab (Dp ?_);have hl3:h3.get? l=some { cls:=.type "tuple",dict:=none,data:=.seq its n,slots:=sl }:=k3 _ _ hl1;have hL3:h3.IsTuple l its:=⟨_,hl3,rfl,n,rfl⟩;refine Ab (EJ hL3 ?_);have hd3:h3.get? s.heap.objs.size=some nuD:=k3 _ _ hS;have dlt:=Aq hd3;have llt:=Aq hl3;have old:∀ b o,s.heap.get? b=some o->(h3.push { cls:=.type "tuple_iterator",data:=.fields #[.ref l,.int 0 0] }).get? b=some o/\b≠s.heap.objs.size/\b≠h3.objs.size:=λb o e=>by
     have e3:=k3 _ _ (Ac nuD e);exact ⟨Ac _ e3,Aw (Aq e),Aw (Aq e3)⟩
    refine Af ⟨EM fV _,uG (knd:=knd) (by simp [hh]) s.heap.objs.size h3.objs.size l its ps (Aw dlt) (Dz hlS) (Dz llt) hlen hz (h3.push { cls:=.type "tuple_iterator",data:=.fields #[.ref l,.int 0 0] }) ⟨_,(old l _ hl).1,rfl,n,rfl⟩ (λi kv hkv=>?_) its.size 0 _ (by omega) (BK _) ⟨_,Ah _ rfl,rfl,rfl⟩ (λb o _ _ e=>e) ?_ (Ak _) λh' tk fr D=>⟨rfl,h',tk,rfl,D,λb o e=>fr b o (old b o e).2.1 (old b o e).2.2 (old b o e).1⟩⟩
    ·obtain ⟨z,key,e1,e2,o,m,e3,e4⟩:=hp i kv hkv
     exact ⟨z,key,e1,e2,(old z o e3).2.1,(old z o e3).2.2,o,m,(old z o e3).1,e4⟩
    ·exact ⟨nuD,#[],0,Ac _ hd3,⟨rfl,rfl,rfl⟩,rfl,(λe he=>by simp at he),.nil,Ef⟩
   ·cases r2 with
    |error e=>exact hr2
    |ok f2=>
     cases f2 with
     |ret r=>
      obtain ⟨rfl,h',tk,rfl,S',hk'⟩:=hr2
      repeat (any_goals (first|assumption|wp_step))
      exact h _ _ hk' S'
     |_=>exact hr2.elim
  |_=>exact hr.elim
end
end DX
namespace L2
open PySem PySem.Spec PyProof.Rows
section
variable {X:Cx}
def aFq:List V->Hp->VK->Prop:=λxs H Q=>∃ (a:Addr) (us:List V) (kvs:List (Key×V)),xs=[.ref a]/\H a=some (.tup us)/\us.length=kvs.length/\(kvs.map (·.1)).Nodup /\
 (∀ (i:Nat) u kv,us[i]?=some u->kvs[i]?=some kv->∃ z,u=.ref z/\H z=some (.tup [kV kv.1,kv.2]))/\∀ p,H p=none->Q (.ref p) (upd H p (.dK kvs))
def fE (hc:X.calm=true):eU X (.type "dict") (aFq):=by
 intro pins s σ H xs us' Q I r h;obtain ⟨a,us,kvs,rfl,hH,hl,nd,hp,q⟩:=h;obtain ⟨u,rfl,rx⟩:=vals1 r;cases rx;obtain ⟨⟨z,nd0⟩,its,rv,ob,e0,e1,n,e2⟩:(us.length<=Ax/\NoD s.heap a)/\∃ its:List Value,Vals us its/\PyProof.Rows.IsTup s.heap a its.toArray:=I.hok a _ hH;obtain ⟨oc,od,odt,osl⟩:=ob;have e3:od=none:=nd0.at e0;have e1':oc=.type "tuple":=e1;have e2':odt=.seq its.toArray n:=e2;subst e3 e1' e2';have e:=e0;have vl:=rv.length;have at':∀ (i:Nat) kv,kvs[i]?=some kv->∃ z key v,its[i]?=some (.ref z)/\RelV (kV kv.1) key/\RelV kv.2 v/\DX.TupAt s.heap z key v:=λi kv hkv=>by
  have hi:=(Ae.mp hkv).1;obtain ⟨u,hu⟩:∃ u,us[i]?=some u:=⟨_,Ad (by omega)⟩;obtain ⟨z,rfl,hz⟩:=hp i u kv hu hkv;obtain ⟨v,hv,ru⟩:=rv.get hu;cases ru;obtain ⟨_,ts,rt,o,ho,hc',m,hd⟩:_/\∃ ts,Vals [kV kv.1,kv.2] ts/\s.heap.IsTuple z ts.toArray:=I.hok z _ hz;obtain ⟨k1,v1,rfl,r1,r2⟩:=vals2 rt;exact ⟨z,k1,v1,hv,r1,r2,o,m,ho,hc',hd⟩
 obtain ⟨vs,kvr,vat⟩:∃ vs:List (Key×Value),KV kvs vs/\∀ (i:Nat) kv,vs[i]?=some kv->∃ z key,its.toArray[i]?=some (.ref z)/\(bI X.prog X.w).is kv.1 key=true/\DX.TupAt s.heap z key kv.2:=by
  have key:∀ (kvs:List (Key×V)) (j:Nat),(∀ (i:Nat) kv,kvs[i]?=some kv->∃ z key v,its[j+i]?=some (.ref z)/\RelV (kV kv.1) key/\RelV kv.2 v/\DX.TupAt s.heap z key v)->∃ vs:List (Key×Value),KV kvs vs/\∀ (i:Nat) kv,vs[i]?=some kv->∃ z key,its.toArray[j+i]?=some (.ref z)/\(bI X.prog X.w).is kv.1 key=true/\DX.TupAt s.heap z key kv.2:=by
   intro kvs
   induction kvs with
   |nil=>exact λj _=>⟨[],.nil,λi kv h=>by simp at h⟩
   |cons kv r ih=>
    intro j h;obtain ⟨vs,a1,a2⟩:=ih (j+1) λi kv hk=>by
     have:=h (i+1) kv (by simpa using hk);rwa [show j+(i+1)=j+1+i by omega] at this
    obtain ⟨z,key,v,b1,b2,b3,b4⟩:=h 0 kv rfl;refine ⟨(kv.1,v)::vs,.cons ⟨rfl,b3⟩ a1,λi kw hk=>?_⟩;cases i with
    |zero=>
     cases (show some (kv.1,v)=some kw from hk);exact ⟨z,key,by simpa using b1,tR b2,b4⟩
    |succ i=>
     have:=a2 i kw (by simpa using hk);rwa [show j+(i+1)=j+1+i by omega]
  obtain ⟨vs,a1,a2⟩:=key kvs 0 λi kv hk=>by rw [Nat.zero_add];exact at' i kv hk
  exact ⟨vs,a1,λi kv hk=>by have:=a2 i kv hk;rwa [Nat.zero_add] at this⟩
 have kl:=kvr.length;refine DX.call_dict_tup (knd:=bI X.prog X.w) (I.ok.hd hc) e (ps:=vs) (by omega) (by rw [Ai];omega) vat λh' tk k3 D=>?_;have rel:=xB kvr (acc:=[]) (bcc:=[]) .nil;rw [rR kvs [] nd (λ_ _ _ h=>nomatch h),List.nil_append] at rel;exact ⟨.ref _,_,I.laid (a:=s.heap.objs.size) (o:=.dK kvs) (t':=tk) k3 (Ak _) ⟨by omega,beq_eq_false_iff_ne.mpr (AQ (Aw I.big)),_,rel,D⟩,rfl,q _ (I.hok.fresh (Ak _))⟩
end
def aHh (K:Aa)(ta:TE):TE:=λσ H Q=>ta σ H λv H1=>∃ a x y,v=.ref a/\SqT K H1 a [.str x,.str y]/\(∀ c∈x.cps.toList,c<16^8)/\(∀ c∈y.cps.toList,c<16^8)/\x.length<=20/\y.length<=20 /\
 ∀ z:Str,z.length<=500->Q (.str z) H1
def aE9 (x y:Str):(PyData.tuple [.str x,.str y]).shown.length=(Ff x).length+(Ff y).length+4:=by
 have e:(PyData.tuple [.str x,.str y]).shown=tupleText [Ff x,Ff y]:=by
  simp only [PyData.shown,PyData.shownAll]
 rw [e];have j:=join_length_add [Ff x,Ff y] (by simp);unfold tupleText;have p:piled [Ff x,Ff y]=(Ff x).length+2+((Ff y).length+2):=by simp [piled]
 have c:(if ([Ff x,Ff y].length==1)=true then (",)":String) else ")") = ")":=rfl
 rw [c];have l1:(("(":Str)).length=1:=by decide +kernel
 have l2:(((")":String):Str)).length=1:=by decide +kernel
 rw [Str.length_append,Str.length_append];rw [l1];have l2':(CP ")").length=1:=l2
 rw [l2'];omega
def aDf {k:Nat}(hr:Room k X.A)(ha:PE X value ta):PE X (.FormattedValue value (-1) none pos) (aHh X.K ta):=by
 intro pins s σ H Q I h;refine FormattedValue_plain (thn (ha pins s σ H _ I h) λu s1 ⟨v,H1,I1,rv,a,x,y,ev,sq,cx,cy,lx,ly,q⟩=>?_);subst ev;cases rv;obtain ⟨its,r,⟨o,ho,hc,n,hd⟩,hz⟩:=I1.tuple sq;obtain ⟨u1,u2,rfl,⟨t1,rfl⟩,⟨t2,rfl⟩⟩:=vals2 r;have rd:Reads s1.heap (.ref a) (.tuple [.str x,.str y]) ([]++([]++[])):=.tuple ho hc hd (.cons (.str x t1) (.cons (.str y t2) .nil));have b1:=StrLaws.reprText_len x cx;have b2:=StrLaws.reprText_len y cy;have sl:=aE9 x y;have un:=hr.units;refine formatField_of_reads rd (by simp [PyData.showable,PyData.showableAll]) (λ_ h=>by simp at h) hr.gd (by simp only [PyData.depth,PyData.depthAll];omega) (λ_ _ e=>e) (λh' u tk k=>⟨.str _,H1,I1.kept (t':=tk) k,⟨_,rfl⟩,q _ (by omega)⟩) (by rw [sl];exact Bh (show _<=448 by omega) (by decide))
end L2
namespace K33
open PySem PySem.Spec PyProof.Rows L2 GM TM
abbrev sE0:Stmt:=inClass (top 5) 0
abbrev sE1:Stmt:=inClass (top 7) 0
abbrev sE2:Stmt:=inClass (top 6) 0
abbrev sE3:Stmt:=inClass (top 8) 0
abbrev sE4:Stmt:=inClass (top 9) 0
abbrev sE5:Stmt:=inClass (top 4) 0
abbrev qU:Stmt:=inClass (top 33) 0
abbrev qS:Stmt:=inClass (top 33) 1
abbrev qT:Stmt:=inClass (top 34) 0
abbrev qR:Stmt:=inClass (top 34) 1
abbrev sIPour:Stmt:=inClass (top 35) 0
abbrev sOPour:Stmt:=inClass (top 35) 1
abbrev sIEmpty:Stmt:=inClass (top 36) 0
abbrev sOEmpty:Stmt:=inClass (top 36) 1
abbrev sIRinse:Stmt:=inClass (top 37) 0
abbrev sORinse:Stmt:=inClass (top 37) 1
structure Er1 (K:Aa)(mg:Str->Option Value)(cP c f:Addr)(nm:Str)(fs:List Str):Prop where
 e:∀ x∈fs,ExF K c cP f x
 s:PySem.W.subIn K (.ref c) (.ref cP)=some true
 v:Ao K (.ref c) (.type "ValueError")=some true
 m:mg nm=some (.ref c)
structure ErB (K:Aa)(mg:Str->Option Value)(cP c0 c1 c2 c3 c4 c5 f1 f3 f4:Addr):Prop where
 ct:CtK K cP
 bi:BaseI K cP
 mP:mg "PhialError" = some (.ref cP)
 m0:mg "Dry" = some (.ref c0)
 r1:Er1 K mg cP c1 f1 "Low" ["place","phial"]
 m2:mg "Wet" = some (.ref c2)
 r3:Er1 K mg cP c3 f3 "Spilt" ["place","phial","over"]
 r4:Er1 K mg cP c4 f4 "Touch" ["place","phial","pair"]
 m5:mg "NoDeed" = some (.ref c5)
 i10:Ao K (.ref c1) (.ref c0)=some false
 i11:Ao K (.ref c1) (.ref c1)=some true
 i12:Ao K (.ref c1) (.ref c2)=some false
 i13:Ao K (.ref c1) (.ref c3)=some false
 i14:Ao K (.ref c1) (.ref c4)=some false
 i15:Ao K (.ref c1) (.ref c5)=some false
 i30:Ao K (.ref c3) (.ref c0)=some false
 i31:Ao K (.ref c3) (.ref c1)=some false
 i32:Ao K (.ref c3) (.ref c2)=some false
 i33:Ao K (.ref c3) (.ref c3)=some true
 i34:Ao K (.ref c3) (.ref c4)=some false
 i35:Ao K (.ref c3) (.ref c5)=some false
 i40:Ao K (.ref c4) (.ref c0)=some false
 i41:Ao K (.ref c4) (.ref c1)=some false
 i42:Ao K (.ref c4) (.ref c2)=some false
 i43:Ao K (.ref c4) (.ref c3)=some false
 i44:Ao K (.ref c4) (.ref c4)=some true
 i45:Ao K (.ref c4) (.ref c5)=some false
def yU (e c:Addr)(fl:List (Str×V))(H:Hp)(Q:VK):Prop:=∀ dx H',dx≠e->(∀ p o,p≠e->H p=some o->H' p=some o)->H' e=some (exN e c (some dx))->H' dx=some (xdE dx fl)->Q .non H'
def spI1 (c:Addr):Sp:=λvs H Q _=>∃ (e:Addr) (n:Nat),vs=[.ref e,.int (n:Nat)]/\n<1000/\H e=some (exN e c none)/\yU e c [("place",.int (n:Nat))] H Q
def spI2 (c:Addr):Sp:=λvs H Q _=>∃ (e:Addr) (n p:Nat),vs=[.ref e,.int (n:Nat),.int (p:Nat)]/\n<1000/\p<1000/\H e=some (exN e c none)/\yU e c [("phial",.int (p:Nat)),("place",.int (n:Nat))] H Q
def spI3 (c:Addr):Sp:=λvs H Q _=>∃ (e:Addr) (n p:Nat) (u:V),vs=[.ref e,.int (n:Nat),.int (p:Nat),u]/\n<1000/\p<1000/\H e=some (exN e c none)/\yU e c [("over",u),("phial",.int (p:Nat)),("place",.int (n:Nat))] H Q
def aCr (K:Aa)(c:Addr):Sp:=λvs H Q _=>∃ (e a:Addr) (n p:Nat) (x y:Str),vs=[.ref e,.int (n:Nat),.int (p:Nat),.ref a]/\n<1000/\p<1000/\SqT K H a [.str x,.str y]/\Wr x/\Wr y/\H e=some (exN e c none)/\yU e c [("pair",.ref a),("phial",.int (p:Nat)),("place",.int (n:Nat))] H Q
def BadE (c:Addr)(fl:List (Str×V))(H:Hp)(E:XK):Prop:=∀ dx H',Same H H'->H' dx=some (xdE dx fl)->E (.ref c) (some dx) H'
def BadE.mono (h:BadE c fl H E)(s:Same H H1):BadE c fl H1 E:=λdx H' s' hd=>h dx H' (s.trans s') hd
def pM (he:H e=none)(h:BadE c fl H E):yU e c fl (upd H e (exN e c none)) (λv H2=>v=.non/\∃ dd,H2 e=some (exN e c dd)/\E (.ref c) dd (rem H2 e)):=λdx H' ne sm hE hd=>by
 refine ⟨rfl,some dx,hE,h dx _ (λp o hp=>?_) (by rw [mR ne];exact hd)⟩;have n1:p≠e:=λz=>by rw [z,he] at hp;cases hp
 rw [mR n1];exact sm p o n1 (by rw [aH n1];exact hp)
abbrev yT (c:Addr)(vs:List V)(sp:Sp)(H:Hp)(E:XK):Prop:=vs.length<=Ax/\∀ e,H e=none->sp (.ref e::vs) (upd H e (exN e c none)) (λv H2=>v=.non/\∃ dd,H2 e=some (exN e c dd)/\E (.ref c) dd (rem H2 e)) E0
def aFo {n p:Nat}(hn:n<1000)(hp:p<1000)(h:BadE c [("phial",.int (p:Nat)),("place",.int (n:Nat))] H E):yT c [.int (n:Nat),.int (p:Nat)] (spI2 c) H E:=
 ⟨zLn2,λe he=>⟨e,n,p,rfl,hn,hp,aB,pM he h⟩⟩
def aFn {n p:Nat}(hn:n<1000)(hp:p<1000)(h:BadE c [("over",u),("phial",.int (p:Nat)),("place",.int (n:Nat))] H E):yT c [.int (n:Nat),.int (p:Nat),u] (spI3 c) H E:=
 ⟨zLn3,λe he=>⟨e,n,p,u,rfl,hn,hp,aB,pM he h⟩⟩
def aC4 {K:Aa}{c a:Addr}{n p:Nat}{x y:Str}{H:Hp}{E:XK}(hn:n<1000)(hp:p<1000)(sq:H a=some (.tup [.str x,.str y]))(wx:Wr x)(wy:Wr y)(h:BadE c [("pair",.ref a),("phial",.int (p:Nat)),("place",.int (n:Nat))] H E):yT c [.int (n:Nat),.int (p:Nat),.ref a] (aCr K c) H E:=
 ⟨zLn3,λe he=>⟨e,a,n,p,x,y,rfl,hn,hp,SqT.of ((Same.upd he) _ _ sq),wx,wy,aB,pM he h⟩⟩
theorem lE:Str.empty.length=0:=rfl
def fs3 (f1 f2 f3:Str)(u1 u2 u3:V):List (Str×V):=putF f3 u3 (putF f2 u2 (putF f1 u1 []))
def fs1 (f1:Str)(u1:V):List (Str×V):=putF f1 u1 []
def sW (C:Addr)(f1 f2 f3:Str):Sp:=λvs H Q _=>∃ (p dx:Addr) (u1 u2 u3:V),vs=[.ref p,u1,u2,u3]/\H p=some (.ins C dx [])/\∀ H',(∀ b o,b≠p->H b=some o->H' b=some o)->H' p=some (.ins C dx (fs3 f1 f2 f3 u1 u2 u3))->Q .non H'
def spMk1 (C:Addr)(f1:Str):Sp:=λvs H Q _=>∃ (p dx:Addr) (u1:V),vs=[.ref p,u1]/\H p=some (.ins C dx [])/\∀ H',(∀ b o,b≠p->H b=some o->H' b=some o)->H' p=some (.ins C dx (fs1 f1 u1))->Q .non H'
theorem lN (f:Str)(v:V):∀ fs:List (Str×V),(putF f v fs).length<=fs.length+1
  |[]=>Ak _
  |(g,x)::r=>by
    unfold putF;split
    · exact Dm _
    · exact Nat.succ_le_succ (lN f v r)
def aGr (n3:f1≠f3)(n2:f1≠f2):(fs3 f1 f2 f3 u1 u2 u3).lookup f1=some u1:=by
 unfold fs3;rw [bU,if_neg n3,bU,if_neg n2,bU,if_pos rfl]
def aGq (n3:f2≠f3):(fs3 f1 f2 f3 u1 u2 u3).lookup f2=some u2:=by
 unfold fs3;rw [bU,if_neg n3,bU,if_pos rfl]
def aGp :(fs3 f1 f2 f3 u1 u2 u3).lookup f3=some u3:=by
 unfold fs3;rw [bU,if_pos rfl]
def aBy (n1:m≠f1)(n2:m≠f2)(n3:m≠f3):(fs3 f1 f2 f3 u1 u2 u3).lookup m=none:=by
 unfold fs3;rw [bU,if_neg n3,bU,if_neg n2,bU,if_neg n1];rfl
structure DCl (K:Aa)(C:Addr)(fs:List Str):Prop where
 cl:Cls K C
 na:∀ f∈fs,NoAttr K C f
section
variable {P:Az}{w:World}{K:Aa}{mg:Str->Option Value}{base:Heap}{cP c0 c1 c2 c3 c4 c5 f1 f3 f4 C:Addr}
theorem cpsT (t:Nat):cps ((toString (t:Int):String):Str)=dg t:=PySem.W.KIN.signs_num t
def logT {t:Nat}(h:t<10^60):((t:Int)).natAbs.log2<1920:=by
 rw [Int.natAbs_natCast]
 by_cases z:t=0
 ·subst z
  decide
 ·exact (Nat.log2_lt z).mpr (CG h (by decide +kernel))
def gL {n:Nat}(h:n<1000):((toString (n:Int):String):Str).length<=60:=by
 rw [lenC,cpsT];exact aGx (CG h (by decide +kernel))
def mJ (h:Wr x):∀ c∈x.cps.toList,c<16^8:=λc hc=>by
 exact Dg (h.lt c hc).2 (by decide)
def scE1:FnScope ["self","place","phial"] ["self","place","phial"] (aI sE1):=fnScOk (by decide +kernel)
def aH3 (F:Fun K "__init__" "Low.__init__" sE1 f fd)(R:ErB K mg cP c0 c1 c2 c3 c4 c5 f1 f3 f4):FnOk P w K mg base CX0 1 f fd ["self","place","phial"] (spI2 c1):=by
 refine F.ok scE1 (λvs H Q E h=>?_) (λcdv A outer s H vs Q E hr h=>?_)
 ·obtain ⟨_,_,_,rfl,_⟩:=h
  rfl
 ·obtain ⟨e,n,p,rfl,hn,hp,he,k⟩:=h
  refine ⟨_,aD (dG (lD rfl R.mP R.bi (aA (pv 0) (aA (pE (dE aU (dE (jS (pv 1)) (dE aU (dE (jS (pv 2)) (dE aU vL)))))) aC))))
   (aD (vH (C:=c1) (P:=cP) (f:=f1) rfl (pv 0) (pv 1) rfl) (aG (mU (C:=c1) (P:=cP) (f:=f1) (pv 0) (pv 2) rfl))),?_⟩
  have hl:=gL hn;have l1:("row ":Str).length=4:=by decide +kernel
  have hl2:=gL hp;have l2:(": phial ":Str).length=8:=by decide +kernel
  have l3:(" holds the level already":Str).length=24:=by decide +kernel
  refine ⟨_,rfl,_,rfl,?_,_,rfl,_,⟨logT (CG hn (by decide +kernel)),rfl⟩,_,rfl,?_,_,rfl,?_,_,rfl,_,⟨logT (CG hp (by decide +kernel)),rfl⟩,_,rfl,?_,_,rfl,?_,?_,e,c1,none,f1,_,rfl,he,(R.r1.e "place" (by simp)).i,?_⟩
  ·rw [lenA,lE];exact bO (by omega)
  ·rw [lenA,lenA,lE];exact bO (by omega)
  ·rw [lenA,lenA,lenA,lE];exact bO (by omega)
  ·rw [lenA,lenA,lenA,lenA,lE];exact bO (by omega)
  ·rw [lenA,lenA,lenA,lenA,lenA,lE];exact bO (by omega)
  ·rw [lenA,lenA,lenA,lenA,lenA,lE];exact bO (by omega)
  ·refine ⟨_,rfl,_,rfl,e,rfl,he,R.r1.e "place" (by simp),λdx hd ne=>?_⟩
   refine ⟨_,rfl,_,rfl,e,dx,_,rfl,by rw [aH (AQ ne),aB],aB,by show 1<=90;decide,R.r1.e "phial" (by simp),?_⟩;refine k dx _ ne (λp o n1 hp=>?_) (by rw [aH (AQ ne),aH (AQ ne),aB]) aB;have n2:p≠dx:=λz=>by rw [z,hd] at hp;cases hp
   rw [aH n2,aH n2,aH n1];exact hp
def scE3:FnScope ["self","place","phial","over"] ["self","place","phial","over"] (aI sE3):=fnScOk (by decide +kernel)
def aH2 (F:Fun K "__init__" "Spilt.__init__" sE3 f fd)(R:ErB K mg cP c0 c1 c2 c3 c4 c5 f1 f3 f4):FnOk P w K mg base CX0 1 f fd ["self","place","phial","over"] (spI3 c3):=by
 refine F.ok scE3 (λvs H Q E h=>?_) (λcdv A outer s H vs Q E hr h=>?_)
 ·obtain ⟨_,_,_,_,rfl,_⟩:=h
  rfl
 ·obtain ⟨e,n,p,u,rfl,hn,hp,he,k⟩:=h
  refine ⟨_,aD (dG (lD rfl R.mP R.bi (aA (pv 0) (aA (pE (dE aU (dE (jS (pv 1)) (dE aU (dE (jS (pv 2)) (dE aU vL)))))) aC))))
   (aD (vH (C:=c3) (P:=cP) (f:=f3) rfl (pv 0) (pv 1) rfl) (aD (mU (C:=c3) (P:=cP) (f:=f3) (pv 0) (pv 2) rfl) (aG (mU (C:=c3) (P:=cP) (f:=f3) (pv 0) (pv 3) rfl)))),?_⟩
  have hl:=gL hn;have l1:("row ":Str).length=4:=by decide +kernel
  have hl2:=gL hp;have l2:(": phial ":Str).length=8:=by decide +kernel
  have l3:(" would hold more than its room":Str).length=30:=by decide +kernel
  refine ⟨_,rfl,_,rfl,?_,_,rfl,_,⟨logT (CG hn (by decide +kernel)),rfl⟩,_,rfl,?_,_,rfl,?_,_,rfl,_,⟨logT (CG hp (by decide +kernel)),rfl⟩,_,rfl,?_,_,rfl,?_,?_,e,c3,none,f3,_,rfl,he,(R.r3.e "place" (by simp)).i,?_⟩
  ·rw [lenA,lE];exact bO (by omega)
  ·rw [lenA,lenA,lE];exact bO (by omega)
  ·rw [lenA,lenA,lenA,lE];exact bO (by omega)
  ·rw [lenA,lenA,lenA,lenA,lE];exact bO (by omega)
  ·rw [lenA,lenA,lenA,lenA,lenA,lE];exact bO (by omega)
  ·rw [lenA,lenA,lenA,lenA,lenA,lE];exact bO (by omega)
  ·refine ⟨_,rfl,_,rfl,e,rfl,he,R.r3.e "place" (by simp),λdx hd ne=>?_⟩
   refine ⟨_,rfl,_,rfl,e,dx,_,rfl,by rw [aH (AQ ne),aB],aB,by show 1<=90;decide,R.r3.e "phial" (by simp),?_⟩;refine ⟨_,rfl,_,rfl,e,dx,_,rfl,by rw [aH (AQ ne),aH (AQ ne),aB],aB,by show 2<=90;decide,R.r3.e "over" (by simp),?_⟩;refine k dx _ ne (λp o n1 hp=>?_) (by rw [aH (AQ ne),aH (AQ ne),aH (AQ ne),aB]) aB;have n2:p≠dx:=λz=>by rw [z,hd] at hp;cases hp
   rw [aH n2,aH n2,aH n2,aH n1];exact hp
def scE4:FnScope ["self","place","phial","pair"] ["self","place","phial","pair"] (aI sE4):=fnScOk (by decide +kernel)
def aH1 (F:Fun K "__init__" "Touch.__init__" sE4 f fd)(R:ErB K mg cP c0 c1 c2 c3 c4 c5 f1 f3 f4):FnOk P w K mg base CX0 1 f fd ["self","place","phial","pair"] (aCr K c4):=by
 refine F.ok scE4 (λvs H Q E h=>?_) (λcdv A outer s H vs Q E hr h=>?_)
 ·obtain ⟨_,_,_,_,_,_,rfl,_⟩:=h
  rfl
 ·obtain ⟨e,a,n,p,x,y,rfl,hn,hp,sq,wx,wy,he,k⟩:=h
  refine ⟨_,aD (dG (lD rfl R.mP R.bi (aA (pv 0) (aA (pE (dE aU (dE (jS (pv 1)) (dE aU (dE (jS (pv 2)) (dE aU (dE (aDf hr (pv 3)) vL))))))) aC))))
   (aD (vH (C:=c4) (P:=cP) (f:=f4) rfl (pv 0) (pv 1) rfl) (aD (mU (C:=c4) (P:=cP) (f:=f4) (pv 0) (pv 2) rfl) (aG (mU (C:=c4) (P:=cP) (f:=f4) (pv 0) (pv 3) rfl)))),?_⟩
  have hl:=gL hn;have l1:("row ":Str).length=4:=by decide +kernel
  have hl2:=gL hp;have l2:(": in phial ":Str).length=11:=by decide +kernel
  have l3:(" two wares meet that must not: ":Str).length=31:=by decide +kernel
  refine ⟨_,rfl,_,rfl,?_,_,rfl,_,⟨logT (CG hn (by decide +kernel)),rfl⟩,_,rfl,?_,_,rfl,?_,_,rfl,_,⟨logT (CG hp (by decide +kernel)),rfl⟩,_,rfl,?_,_,rfl,?_,_,rfl,a,x,y,rfl,sq,mJ wx,mJ wy,(by have:=wx.l8;omega),(by have:=wy.l8;omega),λz hz=>⟨z,rfl,?_,?_,e,c4,none,f4,_,rfl,he,(R.r4.e "place" (by simp)).i,?_⟩⟩
  ·rw [lenA,lE];exact bO (by omega)
  ·rw [lenA,lenA,lE];exact bO (by omega)
  ·rw [lenA,lenA,lenA,lE];exact bO (by omega)
  ·rw [lenA,lenA,lenA,lenA,lE];exact bO (by omega)
  ·rw [lenA,lenA,lenA,lenA,lenA,lE];exact bO (by omega)
  ·rw [lenA,lenA,lenA,lenA,lenA,lenA,lE];exact bO (by omega)
  ·rw [lenA,lenA,lenA,lenA,lenA,lenA,lE];exact bO (by omega)
  ·refine ⟨_,rfl,_,rfl,e,rfl,he,R.r4.e "place" (by simp),λdx hd ne=>?_⟩
   refine ⟨_,rfl,_,rfl,e,dx,_,rfl,by rw [aH (AQ ne),aB],aB,by show 1<=90;decide,R.r4.e "phial" (by simp),?_⟩;refine ⟨_,rfl,_,rfl,e,dx,_,rfl,by rw [aH (AQ ne),aH (AQ ne),aB],aB,by show 2<=90;decide,R.r4.e "pair" (by simp),?_⟩;refine k dx _ ne (λp o n1 hp=>?_) (by rw [aH (AQ ne),aH (AQ ne),aH (AQ ne),aB]) aB;have n2:p≠dx:=λz=>by rw [z,hd] at hp;cases hp
   rw [aH n2,aH n2,aH n2,aH n1];exact hp
def aC1:FnScope ["self","phial","ware","amount"] ["self","phial","ware","amount"] (aI qU):=fnScOk (by decide +kernel)
def aAg (F:Fun K "__init__" "Draw.__init__" qU f fd)(D:DCl K C ["phial","ware","amount"]):FnOk P w K mg base CX0 1 f fd ["self","phial","ware","amount"] (sW C "phial" "ware" "amount"):=by
 refine F.ok aC1 (λvs H Q E h=>?_) (λcdv A outer s H vs Q E hr h=>?_)
 ·obtain ⟨_,_,_,_,_,rfl,_⟩:=h
  rfl
 ·obtain ⟨p,dx,u1,u2,u3,rfl,hp,k⟩:=h
  refine ⟨_,(aD (jP (pv 0) (pv 1) rfl) (aD (jP (pv 0) (pv 2) rfl) (aG (jP (pv 0) (pv 3) rfl)))),?_⟩;refine cut3 ?_
  intros
  refine ⟨_,rfl,_,rfl,p,C,dx,[],rfl,hp,D.cl,D.na _ (by simp),(by show 0<1000;decide),?_⟩;refine ⟨_,rfl,_,rfl,p,C,dx,_,rfl,aB,D.cl,D.na _ (by simp),(by show 1<1000;decide),?_⟩;refine ⟨_,rfl,_,rfl,p,C,dx,_,rfl,aB,D.cl,D.na _ (by simp),(Dg (lN ..) (by show 2<1000;decide)),k _ (λb o nb hb=>by rw [aH nb,aH nb,aH nb];exact hb) aB⟩
def aC0:FnScope ["self","phial","ware","level"] ["self","phial","ware","level"] (aI qT):=fnScOk (by decide +kernel)
def aAf (F:Fun K "__init__" "Fill.__init__" qT f fd)(D:DCl K C ["phial","ware","level"]):FnOk P w K mg base CX0 1 f fd ["self","phial","ware","level"] (sW C "phial" "ware" "level"):=by
 refine F.ok aC0 (λvs H Q E h=>?_) (λcdv A outer s H vs Q E hr h=>?_)
 ·obtain ⟨_,_,_,_,_,rfl,_⟩:=h
  rfl
 ·obtain ⟨p,dx,u1,u2,u3,rfl,hp,k⟩:=h
  refine ⟨_,(aD (jP (pv 0) (pv 1) rfl) (aD (jP (pv 0) (pv 2) rfl) (aG (jP (pv 0) (pv 3) rfl)))),?_⟩;refine cut3 ?_
  intros
  refine ⟨_,rfl,_,rfl,p,C,dx,[],rfl,hp,D.cl,D.na _ (by simp),(by show 0<1000;decide),?_⟩;refine ⟨_,rfl,_,rfl,p,C,dx,_,rfl,aB,D.cl,D.na _ (by simp),(by show 1<1000;decide),?_⟩;refine ⟨_,rfl,_,rfl,p,C,dx,_,rfl,aB,D.cl,D.na _ (by simp),(Dg (lN ..) (by show 2<1000;decide)),k _ (λb o nb hb=>by rw [aH nb,aH nb,aH nb];exact hb) aB⟩
end
end K33
namespace SX
open PySem PySem.Spec PyProof.Rows
def eG:Slot "set_iterator" "__next__" "set_iterator.__next__":=.of (owner:="set_iterator") (n:="__next__") (by rw [typeLookup_type,builtinLookup_eq_fast];kernel_rfl) (by decide +kernel) (by decide +kernel) (by decide +kernel) (by first|exact .inl (by decide +kernel)|exact .inr (by decide +kernel)) (by rw [isSubtype_type];kernel_rfl)
def iF:entryFor table "set_iterator.__next__" = some AH.«set_iterator.__next__»:=entryFor_of_tree (by kernel_rfl)
def lY (a:Value):argsOk "set_iterator.__next__" ⟨[a],[]⟩:=by unfold argsOk;kernel_rfl
def qP:Slot "set_iterator" "__iter__" "set_iterator.__iter__":=.of (owner:="set_iterator") (n:="__iter__") (by rw [typeLookup_type,builtinLookup_eq_fast];kernel_rfl) (by decide +kernel) (by decide +kernel) (by decide +kernel) (by first|exact .inl (by decide +kernel)|exact .inr (by decide +kernel)) (by rw [isSubtype_type];kernel_rfl)
def nV:entryFor table "set.__iter__" = some AH.«frozenset.__iter__»:=entryFor_alias (id':="frozenset.__iter__") (by kernel_rfl) rfl (by decide +kernel) (by kernel_rfl)
def itO (f:Value)(i:Int)(n ep:Nat)(a:Addr):Obj:={ cls:=.type "set_iterator",dict:=none,data:=.fields #[f,.int i 0,.ref a,.int n 0,.int ep 0],slots:=#[] }
theorem gO {α:Type}:∀ {l:List α} {i:Nat} (h:i<l.length),(l[i]::l.eraseIdx i).Perm l
 |[],_,h=>by simp at h
 |x::l,0,h=>by simp
 |x::l,i+1,h=>by
  have:=gO (l:=l) (i:=i) (by simpa using h);simp only [List.getElem_cons_succ,List.eraseIdx_cons_succ];exact (List.Perm.swap _ _ _).trans (this.cons x)
section
variable {P:Az}{w:World}{A:Around}{E:Value->Shared->Prop}{s:Shared}
def tZ {n:Nat}(hn:n≠0)(h:∀ i d',i<n->Q i { s with drawn:=d' }):wpAny (model P w) A (choose src n) Q E s:=
 λ_ _ _=>⟨hn,h _ _ (Nat.mod_lt _ (by omega))⟩
theorem nX {α:Type}:∀ (n:Nat) (xs:List α) (s:Shared) (Q:List α->Shared->Prop),xs.length=n->(∀ ys d',ys.Perm xs->Q ys { s with drawn:=d' })->wpAny (model P w) A (drawOrder n xs) Q E s
 |0,xs,s,Q,hl,h=>by
  obtain rfl:xs=[]:=CN.mp hl;unfold drawOrder;exact Af (h [] s.drawn (.refl _))
 |n+1,[],s,Q,hl,h=>by cases hl
 |n+1,x::xs,s,Q,hl,h=>by
  unfold drawOrder;refine Ab (tZ (by simp) λi d' hi=>?_);have e:(x::xs)[i]?=some (x::xs)[i]:=Ad hi;simp only [e];have el:((x::xs).eraseIdx i).length=n:=by rw [List.length_eraseIdx_of_lt hi];simpa using hl
  refine Ab (nX n _ _ _ el λys d2 pm=>Af ?_);exact h _ d2 ((pm.cons _).trans (gO hi))
theorem vO {α:Type}(nx:Nat->Nat):∀ (n k:Nat) (l:List α) (o:Array α),l.length=n->(pickOrder.go nx n k l o).toList.Perm (o.toList++l)
 |0,k,l,o,h=>by
  obtain rfl:l=[]:=CN.mp h;unfold pickOrder.go;rw [Cb]
 |n+1,k,l,o,h=>by
  have lt:nx k%l.length<l.length:=Nat.mod_lt _ (by omega);unfold pickOrder.go;rw [Ad lt];dsimp only;refine (vO nx n (k+1) _ _ (by rw [List.length_eraseIdx_of_lt lt];omega)).trans ?_;rw [Array.toList_push,List.append_assoc];exact List.Perm.append_left _ (gO lt)
def vN {α:Type}(nx:Nat->Nat)(xs:Array α):(pickOrder nx xs).toList.Perm xs.toList:=by
 have:=vO nx xs.size 0 xs.toList #[] (by simp)
 simpa [pickOrder] using this
def pB {ep:Nat}(ho:s.heap.get? a=some (setO es ep t))(hf:t.fits es.size=true)(h:Q (!byT w&&(!t.plain&&decide (es.size > 1))) s):wpAny (model P w) A (setDrawn a) Q E s:=by
 unfold setDrawn;refine Ab (Eh ho rfl hf ?_);unfold setsByText;refine Ab (Ab (Eu (Af ?_)));exact Af h
def uO (hh:A.handled=none)(hQ:∀ h',(∀ b o,s.heap.get? b=some o->h'.get? b=some o)->Q none { s with heap:=h' }) :
  wpAny (model P w) A.in1 (do raiseNew (<- newExc (.type "StopIteration") [])) (λ(fin:Fin) s'=>∃ v,fin=.done (.ret v)/\wpAny (model P w) A (pure (some v)) Q E s') (λe s'=>wpAny (model P w) A (do if <- isInstance e (.type "StopIteration") then pure none else throw e) Q E s') s:=by
 refine Ab ?_;simp only [newExc,newTuple];refine Ab (AZ ?_ (by size_fits));refine Ab (m:=firstArgMember _ _) (EB (a:=BR) (by first|rfl|(simp only [firstArgMember];rfl)) ?_);refine AZ ?_ (by size_fits);simp only [raiseNew];refine Ab (wpAny_handled ?_);rw [show A.in1.handled=none from hh];refine Ab (Af (wpAny_throw ?_));refine Ab (Fj (T:="StopIteration") (b:=true) ⟨_,Ah _ rfl,rfl⟩ isSubtype_stop ?_);exact Af (hQ _ λb o e=>Ac _ (Ac _ e))
end
def xR:entryFor table "set_iterator.__iter__" = some AH.«dict_keyiterator.__iter__»:=entryFor_alias (id':="dict_keyiterator.__iter__") (by kernel_rfl) rfl (by decide +kernel) (by kernel_rfl)
def aA6 (a:Value):argsOk "set_iterator.__iter__" ⟨[a],[]⟩:=by unfold argsOk;kernel_rfl
abbrev IP (ord:List Value)(i:Nat)(v:Value):Prop:=ord[i]?=some v
section
variable {P:Az}{w:World}{A:Around}{E:Value->Shared->Prop}{s:Shared}{a I:Addr}{es:Array (Int×Value)}{ep:Nat}{t:BX}
def vA {i:Int}{n:Nat}(hI:s.heap.get? I=some (itO f i n ep a))(h:Q (.ref I) s):wpAny (model P w) A (pyIter (.ref I)) Q E s:=by
 refine wpAny_pyIter_slot ⟨_,hI,rfl⟩ qP (Bv qP ⟨_,hI,rfl⟩ xR ?_ (aA6 _));show wpAny _ _ (ret (.ref I)) _ _ s;exact Af ⟨_,rfl,"set_iterator",_,⟨_,hI,rfl⟩,eG.lookup,h⟩
def lB {i:Int}{n k:Nat}(hI:s.heap.get? I=some (itO f i n ep a))(hk:k<5)(h:∀ h',h'.get? I=some { cls:=.type "set_iterator",dict:=none,data:=.fields (#[f,.int i 0,.ref a,.int n 0,.int ep 0].setIfInBounds k x),slots:=#[] }->Ci I s.heap h'->Q () { s with heap:=h' }) :
  wpAny (model P w) A (setField (.ref I) k x) Q E s:=Cq hI hk h
def mC (hh:A.handled=none)(ne:a≠I)(hf:t.fits es.size=true)(ord:List Value)(sl:Nat->Nat)(hx:∀ (A:Around) (E:Value->Shared->Prop) (i:Nat) (s:Shared) (Q:Option (Value×Nat)->Shared->Prop),i<=ord.length->s.heap.get? a=some (setO es ep t)->Q (ord[i]?.map λv=>(v,sl (i+1))) s->wpAny (model P w) A (setNext a (sl i) i ep) Q E s) :
  Walks P w A I [I,a] [I] ord.length (IP ord) (λi h=>h.get? I=some (itO (.int (sl i) 0) i es.size ep a)/\h.get? a=some (setO es ep t)) where
 sub:=λb hb=>by simp at hb;simp [hb]
 frame:=λi h h' st k=>⟨k I (by simp) _ st.1,k a (by simp) _ st.2⟩
 self:=λi s Q E st hQ=>vA st.1 hQ
 item:=λi s Q E hi st hQ=>by
  obtain ⟨hI,ho⟩:=st;unfold pyNext;refine Ab (DG (Bz (name:=CP "__next__") ⟨_,hI,rfl⟩ eG (Bv eG ⟨_,hI,rfl⟩ iF ?_ (lY _))));show wpAny _ _ (fieldsOf (.ref I) >>= _) _ _ s;refine Ab (wpAny_fieldsOf hI rfl ?_);show wpAny _ _ (setEntries a >>= _) _ _ s;refine Ab (EA ho rfl hf ?_);dsimp only;rw [if_neg (by simp)];simp only [Cz];refine Ab (hx _ _ i s _ (Nat.le_of_lt hi) ho ?_);rw [Ad hi];dsimp only [Option.map];refine Ab (lB hI (by decide) λh1 g1 b1=>?_);refine Ab (Cq (k:=1) g1 (by simp) λh2 g2 b2=>?_);refine Af ⟨_,rfl,Af (hQ _ h2 s.toks (Ad hi) ⟨?_,?_⟩ λb o hb e=>?_)⟩
  ·rw [g2]
   rfl
  ·rw [b2.2 a ne,b1.2 a ne]
   exact ho
  ·have hb':b≠I:=by simpa using hb
   show h2.get? b=some o;rw [b2.2 b hb',b1.2 b hb'];exact e
 done:=λs Q E st hQ=>by
  obtain ⟨hI,ho⟩:=st;unfold pyNext;refine Ab (DG (Bz (name:=CP "__next__") ⟨_,hI,rfl⟩ eG (Bv eG ⟨_,hI,rfl⟩ iF ?_ (lY _))));show wpAny _ _ (fieldsOf (.ref I) >>= _) _ _ s;refine Ab (wpAny_fieldsOf hI rfl ?_);show wpAny _ _ (setEntries a >>= _) _ _ s;refine Ab (EA ho rfl hf ?_);dsimp only;rw [if_neg (by simp)];simp only [Cz];refine Ab (hx _ _ ord.length s _ (Ak _) ho ?_);rw [Bu (Ak _)];dsimp only [Option.map];refine Ab (lB hI (by decide) λh1 g1 b1=>?_);refine uO hh λh2 k2=>hQ h2 s.toks λb o hb e=>k2 b o ?_;have hb':b≠I:=by simpa using hb
  show h1.get? b=some o;rw [b1.2 b hb'];exact e
def sM (hh:A.handled=none)(ne:a≠I)(nt:tp≠I)(hf:t.fits es.size=true)(pl:List Nat)(ord:List Value)(ol:ord.length=pl.length)(hp:∀ (i p:Nat),pl[i]?=some p->∃ x v,es[p]?=some (x,v)/\ord[i]?=some v) :
  Walks P w A I [I,a,tp] [I] ord.length (IP ord) (λi h=>h.get? I=some (itO (.ref tp) i es.size ep a)/\h.get? a=some (setO es ep t)/\h.get? tp=some { cls:=.type "tuple",dict:=none,data:=.seq (pl.map λ(p:Nat)=>rawInt p).toArray,slots:=#[] }) where
 sub:=λb hb=>by simp at hb;simp [hb]
 frame:=λi h h' st k=>⟨k I (by simp) _ st.1,k a (by simp) _ st.2.1,k tp (by simp) _ st.2.2⟩
 self:=λi s Q E st hQ=>vA st.1 hQ
 item:=λi s Q E hi st hQ=>by
  obtain ⟨hI,ho,ht⟩:=st;obtain ⟨p,hpl⟩:∃ p,pl[i]?=some p:=⟨_,Ad (by omega)⟩;obtain ⟨x,v,he,hv⟩:=hp i p hpl;unfold pyNext;refine Ab (DG (Bz (name:=CP "__next__") ⟨_,hI,rfl⟩ eG (Bv eG ⟨_,hI,rfl⟩ iF ?_ (lY _))));show wpAny _ _ (fieldsOf (.ref I) >>= _) _ _ s;refine Ab (wpAny_fieldsOf hI rfl ?_);show wpAny _ _ (setEntries a >>= _) _ _ s;refine Ab (EA ho rfl hf ?_);dsimp only;rw [if_neg (by simp)];refine Ab (CW ht rfl ?_);dsimp only;have hq:((pl.map λ(p:Nat)=>rawInt p).toArray)[(Int.toNat (i:Int))]?=some (.int p 0):=by
   rw [Cz,List.getElem?_toArray,As,hpl];rfl
  rw [hq];dsimp only;simp only [Cz];refine Ab ?_;unfold setNextDrawn;refine Ab (Eh ho rfl hf ?_);dsimp only;rw [if_neg (by simp),he];refine Af ?_;refine Ab (lB hI (by decide) λh1 g1 b1=>?_);refine Af ⟨_,rfl,Af (hQ _ h1 s.toks hv ⟨?_,?_,?_⟩ λb o hb e=>?_)⟩
  ·rw [g1]
   rfl
  ·rw [b1.2 a ne]
   exact ho
  ·rw [b1.2 tp nt]
   exact ht
  ·have hb':b≠I:=by simpa using hb
   show h1.get? b=some o;rw [b1.2 b hb'];exact e
 done:=λs Q E st hQ=>by
  obtain ⟨hI,ho,ht⟩:=st;unfold pyNext;refine Ab (DG (Bz (name:=CP "__next__") ⟨_,hI,rfl⟩ eG (Bv eG ⟨_,hI,rfl⟩ iF ?_ (lY _))));show wpAny _ _ (fieldsOf (.ref I) >>= _) _ _ s;refine Ab (wpAny_fieldsOf hI rfl ?_);show wpAny _ _ (setEntries a >>= _) _ _ s;refine Ab (EA ho rfl hf ?_);dsimp only;rw [if_neg (by simp)];refine Ab (CW ht rfl ?_);dsimp only;have hq:((pl.map λ(p:Nat)=>rawInt p).toArray)[(Int.toNat (ord.length:Int))]?=none:=by
   rw [Cz,List.getElem?_toArray,As,Bu (by omega)];rfl
  rw [hq];dsimp only;refine Ab (lB hI (by decide) λh0 g0 b0=>?_);refine Ab (Cq (k:=2) g0 (by simp) λh1 g1 b1=>?_);refine uO hh λh2 k2=>hQ h2 s.toks λb o hb e=>k2 b o ?_;have hb':b≠I:=by simpa using hb
  show h1.get? b=some o;rw [b1.2 b hb',b0.2 b hb'];exact e
end
section
variable {P:Az}{w:World}{A:Around}{E:Value->Shared->Prop}{s:Shared}{a I:Addr}{es:Array (Int×Value)}{ep:Nat}{t:BX}
def wU {sl i:Nat}(hb:byT w=true)(hf:t.fits es.size=true)(ho:s.heap.get? a=some (setO es ep t))(h:Q ((pickOrder (w.params.setOrder a ep) es)[i]?.map λe=>(e.2,sl)) s):wpAny (model P w) A (setNext a sl i ep) Q E s:=by
 unfold setNext;refine Ab (Eh ho rfl hf ?_);dsimp only;unfold setsByText;refine Ab (Ab (Eu (Af ?_)));show wpAny _ _ (if byT w=true then _ else _) _ _ s;rw [if_pos hb,if_neg (by simp)];refine Ab ?_;unfold setWalk;refine Ab (Eh ho rfl hf ?_);dsimp only;unfold setsByText;refine Ab (Ab (Eu (Af ?_)));show wpAny _ _ (if byT w=true then _ else _) _ _ s;rw [if_pos hb];refine Ab (Eu (Af ?_));exact Af h
def aAm {sl i:Nat}(hb:byT w=false)(hf:t.fits es.size=true)(hl:t.led=true)(h1:es.size<=1)(ho:s.heap.get? a=some (setO es ep t))(h:Q (match es[DV t.place sl]?,t.place[DV t.place sl]? with|some (_,x),some j=>some (x,j+1)|_,_=>none) s):wpAny (model P w) A (setNext a sl i ep) Q E s:=by
 unfold setNext;refine Ab (Eh ho rfl hf ?_);dsimp only;unfold setsByText;refine Ab (Ab (Eu (Af ?_)));show wpAny _ _ (if byT w=true then _ else _) _ _ s;rw [if_neg (by rw [hb];decide)];show wpAny _ _ (if (!t.plain&&decide (es.size > 1))=true then _ else _) _ _ s;rw [if_neg (by rw [decide_eq_false (by omega)];simp)];show wpAny _ _ (bind (if (!t.led&&!es.isEmpty)=true then _ else _) _) _ _ s;rw [if_neg (by rw [hl];simp)];refine Ab (Af ?_);exact Af h
theorem kM {P:Az}{w:World}{es:List (Int×Value)}(el:ElemsOf (strKind P w) es):∀ {l:List (Int×Value)},(∀ e∈l,e∈es)->EN (l.map (·.2)) (l.map λe=>kv e.2)
 |[],_=>.nil
 |e::l,h=>by
  obtain ⟨t,ht⟩:=aB4 el (h e (Au ..));have:=kM el (l:=l) λx hx=>h x (Aj _ hx);rw [Al,Al,ht];exact .cons _ _ this
def iS {α:Type}(es:Array α){pl:List Nat}(pm:pl.Perm (Be es.size)):(pl.filterMap λp=>es[p]?).Perm es.toList:=by
 have:=pm.filterMap λp=>es[p]?;rw [filterMap_getElem?_range] at this;exact this
theorem mV {α:Type}(es:Array α):∀ {pl:List Nat},(∀ p∈pl,p<es.size)->∀ (i p:Nat),pl[i]?=some p->∃ e,es[p]?=some e/\(pl.filterMap λp=>es[p]?)[i]?=some e
 |[],_,i,p,h=>by simp at h
 |q::pl,hlt,i,p,h=>by
  have hq:=hlt q (Au ..);have eq:es[q]?=some es[q]:=Fs hq;rw [CU,eq];cases i with
  |zero=>
   simp at h;subst h;exact ⟨_,eq,rfl⟩
  |succ i=>
   simp only [List.getElem?_cons_succ] at h ⊢;exact mV es (λp hp=>hlt p (Aj _ hp)) i p h
theorem places_len {α:Type}(es:Array α):∀ {pl:List Nat},(∀ p∈pl,p<es.size)->(pl.filterMap λp=>es[p]?).length=pl.length
 |[],_=>rfl
 |q::pl,hlt=>by
  have eq:es[q]?=some (es[q]'(hlt q (Au ..))):=Fs _;rw [CU,eq];simp only [AI];rw [places_len es λp hp=>hlt p (Aj _ hp)]
def aAt {ks:List Str}{Q:Value->Shared->Prop}(hh:A.handled=none)(S:SetS P w s.heap a ks)
  (h:∀ I fp St ord h' d',Walks P w A I fp [I] ord.length (IP ord) St->St 0 h'->(∀ b o,s.heap.get? b=some o->h'.get? b=some o)->(∀ b∈fp,s.heap.objs.size<=b\/b=a)->s.heap.objs.size<=I->EN ord (ord.map kv)->(ord.map kv).Perm ks->Q (.ref I) { s with heap:=h',drawn:=d' }) :
  wpAny (model P w) A (pyIter (.ref a)) Q E s:=by
 obtain ⟨⟨es,ep,t,ho,el,hf,hl,hp,pm⟩,nd,lt⟩:=S;have la:a<s.heap.objs.size:=Aq ho;refine wpAny_pyIter_slot ⟨_,ho,rfl⟩ F.slot_set_iter (Bv F.slot_set_iter ⟨_,ho,rfl⟩ nV ?_ (F.args_set_iter_1 _));show wpAny _ _ (AH.Frozenset.sizeOf a >>= _) _ _ s;refine Ab (Ab (EA ho rfl hf (Af ?_)));refine Ab (pB ho hf ?_)
 by_cases hd:(!byT w&&(!t.plain&&decide (es.size > 1)))=true
 ·rw [if_pos hd]
  refine Ab (nX es.size (Be es.size) s _ List.length_range λpl d' pp=>?_);refine Ab (AZ ?_ ?hz)
  case hz=>
   show ((pl.map λ(p:Nat)=>rawInt p).toArray).size<=Ax;rw [Ai,Ag,pp.length_eq,List.length_range];have:es.size=ks.length:=by rw [<- BE,<- Ag (f:=λe=>kv e.2),pm.length_eq]
   exact EY (by omega)
  refine Ab (wpAny_setEpoch_of (o:=setO es ep t) (Ac _ ho) rfl hf ?_);refine Ab (AZ (Af ⟨_,rfl,"set_iterator",_,⟨_,Ah _ rfl,rfl⟩,eG.lookup,?_⟩));have hlt:∀ p∈pl,p<es.size:=λp hp=>Dj.mp (pp.mem_iff.mp hp);have sz:=λ(h:Heap) (o:Obj)=>BJ h o;refine h _ _ _ ((pl.filterMap λp=>es[p]?).map (·.2)) _ d' (sM hh (a:=a) (tp:=s.heap.objs.size) ?_ ?_ hf pl _ (by rw [Ag,places_len es hlt]) λi p hi=>?_) ⟨Ah _ rfl,Ac _ (Ac _ ho),Ac _ (Ah _ rfl)⟩ (λb o e=>Ac _ (Ac _ e)) (λb hb=>?_) ?_ ?_ ?_
  ·rw [sz]
   exact Aw (Cj la)
  ·rw [sz]
   exact Aw (Cn _)
  ·obtain ⟨e,h1,h2⟩:=mV es hlt i p hi
   exact ⟨e.1,e.2,h1,by rw [As,h2];rfl⟩
  ·simp only [AE,Ek,or_false] at hb
   rcases hb with rfl|rfl|rfl
   ·left
    rw [sz];exact Dm _
   ·exact .inr rfl
   ·exact .inl (Ak _)
  ·rw [sz]
   exact Dm _
  ·rw [CC]
   exact kM el λe he=>(iS es pp).mem_iff.mp he
  ·rw [CC]
   exact ((iS es pp).map _).trans pm
 ·rw [if_neg hd]
  refine Ab (Af ?_);refine Ab (wpAny_setEpoch_of ho rfl hf ?_);refine Ab (AZ (Af ⟨_,rfl,"set_iterator",_,⟨_,Ah _ rfl,rfl⟩,eG.lookup,?_⟩));have fpk:∀ b∈[s.heap.objs.size,a],s.heap.objs.size<=b\/b=a:=λb hb=>by
   simp only [AE,Ek,or_false] at hb
   rcases hb with rfl|rfl
   ·exact .inl (Ak _)
   ·exact .inr rfl
  cases hb:byT w with
  |true=>
   have pk:=vN (w.params.setOrder a ep) es;refine h _ _ _ ((pickOrder (w.params.setOrder a ep) es).toList.map (·.2)) _ s.drawn (mC hh (a:=a) (Aw la) hf _ (λ_=>0) λA E i s Q _ ho h=>wU hb hf ho ?_) ⟨Ah _ rfl,Ac _ ho⟩ (λb o e=>Ac _ e) fpk (Ak _) ?_ ?_
   ·rw [As,Bq,Option.map_map] at h
    exact h
   ·rw [CC]
    exact kM el λe he=>pk.mem_iff.mp he
   ·rw [CC]
    exact (pk.map _).trans pm
  |false=>
   have s1:es.size<=1:=by
    rcases hp with hp|hp
    ·rw [hb,hp] at hd
     by_cases z:es.size > 1
     ·exact absurd (by rw [decide_eq_true z];rfl) hd
     ·omega
    ·omega
   rw [hb] at hl;refine h _ _ _ (es.toList.map (·.2)) _ s.drawn (mC hh (a:=a) (Aw la) hf _ (λi=>if i=0 then 0 else t.place.getD 0 0+1) λA E i s Q hi ho h=>aAm hb hf hl s1 ho ?_) ⟨Ah _ rfl,Ac _ ho⟩ (λb o e=>Ac _ e) fpk (Ak _) ?_ ?_
   ·have hpl:t.place.size=es.size:=by
     simp only [BX.fits,Ce,beq_iff_eq] at hf;exact hf.1
    rw [Ag,BE] at hi;generalize t.place=pl at *
    obtain ⟨pl⟩:=pl;obtain ⟨es⟩:=es
    match es,pl,hpl,i,hi with
    |[],[],_,0,_=>exact h
    |[e],[p],_,0,_=>exact h
    |[e],[p],_,1,_=>
     have e1:DV #[p] (p+1)=1:=by simp [DV,DV.go]
     simp only [Nat.one_ne_zero,if_false];show Q (match (#[e]:Array _)[DV #[p] (p+1)]?,(#[p]:Array _)[DV #[p] (p+1)]? with|some (_,x),some j=>some (x,j+1)|_,_=>none) s;rw [e1];exact h
    |_::_::_,_,_,_,_=>simp at s1
   ·rw [CC]
    exact kM el λe he=>he
   ·rw [CC]
    exact pm
end
section
variable {P:Az}{w:World}{A:Around}{E:Value->Shared->Prop}{s:Shared}{a:Addr}{ks:List Str}
def SetS.type (S:SetS P w s.heap a ks):s.TypeIs (.ref a) "set":=by
 obtain ⟨⟨es,ep,t,ho,_⟩,_,_⟩:=S;exact ⟨_,ho,rfl⟩
def aAv (hT:s.TypeIs (.ref a) "set")(h:Q false s):wpAny (model P w) A (AH.List.listLengthHint (.ref a)) Q E s:=by
 unfold AH.List.listLengthHint;refine Ab (wpAny_specialOf hT PySem.F.slot_set_len.lookup ?_);generalize hid:("set.__len__":String)=id0
 wp_delta
 rw [show splitId id0=some ("set","__len__") from by subst hid;decide +kernel];subst hid;refine Ab (Fj (T:="set") (b:=true) hT (by rw [isSubtype_type];kernel_rfl) ?_);refine wpAny_ite_split (λz=>absurd z (by decide)) (λ_=>?_);refine wpAny_ite_split (λ_=>?_) (λz=>absurd (by decide +kernel) z);exact Ab (Ed hT (Af h))
def tV {c:Nat}(hh:A.handled=none)(S:SetS P w s.heap a ks)(ne:L≠a)(res:Value)(hL:s.heap.get? L=some { cls:=.type "list",data:=.seq #[] c })(hR:∀ h' d' tk acc c' ks',(∀ b o,b≠L->s.heap.get? b=some o->h'.get? b=some o)->h'.get? L=some { cls:=.type "list",dict:=none,data:=.seq acc c',slots:=#[] }->EN acc.toList ks'->ks'.Perm ks->R (.ok (.ret res)) { s with heap:=h',drawn:=d',toks:=tk }) :
  wpAny (model P w) A.in1 (EI (.ref L) (.ref a) res) (λfin s'=>match fin with|.done f=>R (.ok f) s'|.again c'=>c'.quiet=true/\DR (model P w) A c' R s') (λe s'=>R (.error e) s') s:=by
 have lL:=Aq hL;have lt:=S.lt;unfold EI;refine Ab (Ed (T:="set") S.type ?_);have h1:AH.List.listSameRef (.ref L) (.ref a)=false:=by simp [AH.List.listSameRef,ne]
 have h2:(CY "set" == CY "list")=false:=by decide
 have h3:(CY "set" == CY "tuple")=false:=by decide
 simp only [h1,h2,h3,Bool.or_false,De,if_false];refine Ab (aAt (A:=A.in1) hh S λI fp St ord h0 d' W st keep hfp hI hs pm=>?_);have hLf:L∉fp:=λz=>by
  rcases hfp L z with z|z
  ·exact absurd lL (Nat.not_lt.mpr z)
  ·exact ne z
 have on:ord.length<=Ax:=by
  have:=pm.length_eq;rw [Ag] at this;exact EY (by omega)
 have hT0:({ s with heap:=h0,drawn:=d' }:Shared).TypeIs (.ref a) "set":=(S.at (h':=h0) λo e=>keep _ o e).type (s:={ s with heap:=h0,drawn:=d' });have key:∀ (h:Heap) (c1 tk:Nat),St 0 h->(∀ b o,b≠L->s.heap.get? b=some o->h.get? b=some o)->h.get? L=some { cls:=.type "list",data:=.seq #[] c1 } ->
   DR (model P w) A (.builtin "list.extend.loop" ⟨[.ref L,.ref I,res],[]⟩) R { s with heap:=h,drawn:=d',toks:=tk }:=by
  intro h c1 tk hst hk hL1;refine codeAny_extend_loopS W.toS on L hLf res ord.length 0 _ #[] c1 rfl (BK _) hst hL1 (ItemsOf.nil _) λs' acc c' hm hL' hacc=>?_;rw [Moved.eq_with hm];have ea:acc.toList=ord:=List.ext_getElem? λi=>by
   rw [Bq];cases q:acc[i]? with
   |none=>
    have:acc.size<=i:=Array.getElem?_eq_none_iff.mp q;rw [Bu (by rw [<- hacc.1];exact this)]
   |some v=>exact (hacc.2 i v q).symm
  refine hR s'.heap d' s'.toks acc c' _ (λb o hb e=>hm.heap b o (λz=>?_) (hk b o hb e)) hL' (by rw [ea];exact hs) pm
  rcases AE.mp z with z|z
  ·exact hb z
  ·exact absurd (Aq e) (by rw [AB.mp z];exact Nat.not_lt.mpr hI)
 have hL1:=keep _ _ hL;refine Ab (Bw (aAv hT0 ?_));refine wpAny_ite_split (λ_=>?_) (λ_=>Af ⟨EM PySem.F.plain_extend_loop _,key _ c s.toks st (λb o _ e=>keep b o e) hL1⟩);refine Ab (Dp ?_);refine Ab ?_;show wpAny _ _ (updateSeq L (·.push .none) >>= λ_=>updateSeq L (·.pop)) _ _ _;refine Ab (wpAny_updateSeq hL1 rfl ?_);have hL2:=BP (DZ (·.push BR)) hL1 rfl;refine wpAny_updateSeq (hz:=by seq_fits) hL2 rfl ?_;have hL3:=BP (DZ (·.pop)) hL2 rfl;refine Af ⟨EM PySem.F.plain_extend_loop _,key _ _ s.toks ?_ (λb o hb e=>?_) hL3⟩
 ·refine W.frame 0 _ _ st λb hb o e=>?_
  have hbL:b≠L:=λh=>hLf (h▸hb);exact (AW _ _ (AQ hbL)).trans ((AW _ _ (AQ hbL)).trans e)
 ·exact (AW _ _ (AQ hb)).trans ((AW _ _ (AQ hb)).trans (keep b o e))
def pV (hh:A.handled=none)(S:SetS P w s.heap a ks)(h:∀ h' d' tk acc ks',(∀ b o,s.heap.get? b=some o->h'.get? b=some o)->EN acc ks'->ks'.Perm ks->R acc { s with heap:=h',drawn:=d',toks:=tk }):wpAny (model P w) A (collect (.ref a)) R E s:=by
 obtain ⟨⟨es,ep,t,ho,_⟩,_,_⟩:=id S;have la:=Aq ho;unfold collect;refine Ab (wpAny_runValue (Cr entry_proto_collect' ?_));rw [CL PySem.F.plain_proto_collect _];show wpAny _ A.in1 (newList [] >>= λl=>again (.builtin "list.__iadd__" ⟨[l,.ref a],[]⟩)) _ _ s;refine Ab (AZ ?_);refine Af ⟨EM PySem.F.plain_list_iadd _,Cr entry_list_iadd' ?_⟩;rw [CL PySem.F.plain_list_iadd _];have hL:(s.heap.push { cls:=.type "list",data:=.seq ([]:List Value).toArray }).get? s.heap.objs.size=some { cls:=.type "list",data:=.seq #[] }:=Ah _ rfl;show wpAny _ A.in1 (EI (.ref s.heap.objs.size) (.ref a) (.ref s.heap.objs.size)) _ _ _;have key:=tV (P:=P) (w:=w) (A:=A) (s:={ s with heap:=s.heap.push { cls:=.type "list",data:=.seq ([]:List Value).toArray } }) (ks:=ks)
  (R:=λ(q:Result) (s':Shared)=>∃ h' d' tk acc c' ks',q=.ok (.ret (.ref s.heap.objs.size))/\s'={ s with heap:=h',drawn:=d',toks:=tk }/\(∀ b o,s.heap.get? b=some o->h'.get? b=some o)/\h'.get? s.heap.objs.size=some { cls:=.type "list",dict:=none,data:=.seq acc c',slots:=#[] }/\EN acc.toList ks'/\ks'.Perm ks)
  hh (S.at λo e=>Ac _ e) (Dz la) (.ref s.heap.objs.size) hL λh' d' tk acc c' ks' k k2 k3 k4=>⟨h',d',tk,acc,c',ks',rfl,rfl,λb o e=>k b o (Aw (Aq e)) (Ac _ e),k2,k3,k4⟩
 refine BW key (λfin s' x=>?_) λe s' x=>?_
 ·cases fin with
  |done f=>
   obtain ⟨h',d',tk,acc,c',ks',e,rfl,k,k2,k3,k4⟩:=x;cases e;show wpAny _ A (load s.heap.objs.size >>= _) _ _ _;exact Ab (wpAny_load k2 (Af (h h' d' tk acc.toList ks' k k3 k4)))
  |again c1=>
   refine ⟨x.1,Ck x.2 λq s2 y=>?_⟩;obtain ⟨h',d',tk,acc,c',ks',rfl,rfl,k,k2,k3,k4⟩:=y;show wpAny _ A (load s.heap.objs.size >>= _) _ _ _;exact Ab (wpAny_load k2 (Af (h h' d' tk acc.toList ks' k k3 k4)))
 ·obtain ⟨_,_,_,_,_,_,e',_⟩:=x
  cases e'
def sorted_set (hh:A.handled=none)(S:SetS P w s.heap a ks)(h:∀ (h':Heap) d' (tk:Nat) (acc:List Value) (ks':List Str),(∀ b o,s.heap.get? b=some o->h'.get? b=some o)->EN acc ks'->ks'.Perm ks ->
   wpAny (model P w) A.in1 (call (.builtin "list.sort") [.ref h'.objs.size]) (λ_ s'=>Q (.ref h'.objs.size) s') E { s with heap:=h'.push (seqObj "list" acc.toArray 0),drawn:=d',toks:=tk }) :
  wpAny (model P w) A (call (.builtin "sorted") [.ref a]) Q E s:=by
 have lt:=S.lt;refine Fq kind_sorted plain_sorted entry_sorted (args_sorted1 _) ?_;unfold AH.«sorted»;refine Ab (m:=checkCount "sorted" 1 1 _) (Af ?_);refine Ab (pV (A:=A.in1) hh S λh' d' tk acc ks' keep hs pm=>?_);have hl:acc.length<=Ax:=by
  rw [EN.length hs,pm.length_eq];exact EY lt
 refine Ab (wpAny_newList ?_ hl);refine Ab (Bw (BW (h h' d' tk acc ks' keep hs pm) (λ_ s' x=>?_) λ_ _ e=>e));exact Af ⟨_,rfl,x⟩
end
end SX
namespace L2
open PySem PySem.Spec PyProof.Rows
abbrev SetT (X:Cx)(a:Addr)(ks:List Str):HO:=.ext λh=>SX.SetS X.prog X.w h a ks
section
variable {X:Cx}
def Inv.drawn {σ:St}(I:Inv X pins σ H s)(d':Drawn):Inv X pins σ H { s with drawn:=d' }:=
 ⟨I.ok,I.os,I.bare,I.base,I.loc,I.cell,I.free,I.freeC,I.pin,I.hok,I.len⟩
def aHs (X:Cx):List V->Hp->VK->Prop:=λxs H Q=>∃ a,∃ ss:List Str,xs=[.ref a]/\SqL X.K H a (ss.map V.str)/\ss.length<1000/\∀ p,H p=none->Q (.ref p) (upd H p (SetT X p (SX.ddl ss)))
def yJ (hc:X.calm=true):eU X (.type "set") (aHs X):=by
 intro pins s σ H xs us Q I r h;obtain ⟨a,ss,rfl,hq,h1,q⟩:=h;obtain ⟨u,rfl,rx⟩:=vals1 r;cases rx;obtain ⟨its,r',pl,hz⟩:=I.list hq;have hl:=r'.length;rw [Ag] at hl;refine SX.call_set_strs (I.ok.hd hc) pl.isList (by simpa using gG r') (by rw [Ai];unfold EL;omega) λh' tk S k=>?_;obtain ⟨⟨es,ep,t,ho,_⟩,_,_⟩:=id S;exact ⟨.ref s.heap.objs.size,_,I.laid (a:=s.heap.objs.size) (o:=SetT X s.heap.objs.size (SX.ddl ss)) (t':=tk) k (Ak _) ⟨S,⟨_,ho⟩,λh1 h2 p k=>p.at k⟩,rfl,q _ (I.hok.fresh (Ak _))⟩
def zK (X:Cx):List V->Hp->VK->Prop:=λxs H Q=>∃ a,∃ ks:List Str,xs=[.ref a]/\H a=some (SetT X a ks)/\ks.length<64/\∀ (p:Addr) (ss':List Str),ss'.Perm ks->sortedS ss'=true->H p=none->Q (.ref p) (upd H p (.lst (ss'.map V.str)))
def gZ (hc:X.calm=true):eU X (.builtin "sorted") (zK X):=by
 intro pins s σ H xs us Q I r h;obtain ⟨a,ks,rfl,hH,h64,q⟩:=h;obtain ⟨u,rfl,rx⟩:=vals1 r;cases rx;obtain ⟨S,_,_⟩:=I.hok a _ hH;refine SX.sorted_set (I.ok.hd hc) S λh' d' tk acc ks' keep hS pm=>?_;have hlen:=pm.length_eq;have hal:=EN.length hS;have hoL:(h'.push (seqObj "list" acc.toArray 0)).get? h'.objs.size=some (seqObj "list" acc.toArray 0):=Ah _ rfl;refine Bv slot_list_sort ⟨_,hoL,rfl⟩ entry_list_sort (list_sort_treeK strKind_oneLt hoL hS.keysOf (λv₁ v₂ rest e=>keyKind_strs (by rw [<- e];exact hS)) (by omega) λst' hp hs=>⟨_,rfl,?_⟩) (args_list_sort _);obtain ⟨ss',a1,a2,a3⟩:=sorted_out_str hS hp hs;obtain ⟨e,he⟩:∃ e,(sortedHeap (h'.push (seqObj "list" acc.toArray 0)) h'.objs.size acc ((arrOf st').map (·.2))).get? h'.objs.size=some (seqObj "list" ((arrOf st').map (·.2)) e):=sortedHeap_at hoL;have I1:=(I.drawn d').kept (t':=tk) keep;refine ⟨.ref h'.objs.size,_,I1.laid (a:=h'.objs.size) (o:=.lst (ss'.map V.str)) (t':=tk) (λb o hb'=>?_) (Ak _) (rL (its:=((arrOf st').map (·.2)).toList) (e:=e) (eL a1) ?_ (by rw [EW];exact he)),rfl,q _ ss' (a2.trans pm) a3 (I1.hok.fresh (Ak _))⟩
 ·have lt:=Aq hb'
  rw [sortedHeap_old (Aw lt) (by rw [BJ];exact Cj lt)];exact Ac _ hb'
 ·rw [Ag,a2.length_eq]
  exact bO (by omega)
end
end L2
namespace SX
open PySem PySem.Spec PyProof.Rows
section
variable {P:Az}{w:World}{A:Around}{E:Value->Shared->Prop}{s:Shared}
def call_set_tup {l:Addr}(hh:A.handled=none)(hl:s.heap.IsTuple l its)(hi:EN its.toList ss)(hb:its.size+1<EL)(h:∀ (h':Heap) (tk:Nat),SetS P w h' s.heap.objs.size (ddl ss)->(∀ b o,s.heap.get? b=some o->h'.get? b=some o)->Q (.ref s.heap.objs.size) { s with heap:=h',toks:=tk }) :
  wpAny (model P w) A (call (.type "set") [.ref l]) Q E s:=by
 obtain ⟨c,tl,hmro⟩:=Cc.mro;have hmade:=Cc.made;have hsub:=Cc.sub;refine ED (Fy ?_);show wpAny _ _ (callAny (.type "set") _) _ _ _;refine Af ⟨DJ _ (by decide +kernel),Cr F.entry_type_call ?_⟩;rw [Around.under_plain (weight_type_call_type "set" [.ref l] []) rfl];have h1:=Cc.notType;have h2:=Cc.canCreate;have hct:=F.typeCall_set_1 (.ref l)
 repeat (any_goals (first|assumption|wp_step))
 refine Ck (wV (.ref l) (E:=E) (Q1:=λobj s1=>obj=.ref s.heap.objs.size/\s1={ s with heap:=s.heap.push (eQ w) }) ⟨rfl,rfl⟩) λr s1 hr=>?_;cases r with
 |error e=>exact hr
 |ok fl=>
  cases fl with
  |ret obj=>
   obtain ⟨rfl,rfl⟩:=hr;have hS:(s.heap.push (eQ w)).get? s.heap.objs.size=some (eQ w):=Ah _ rfl;have hT:Shared.TypeIs { s with heap:=s.heap.push (eQ w) } (.ref s.heap.objs.size) "set":=⟨_,hS,rfl⟩;have hli:=Cc.init.lookup;have hbi:=Cc.init.bind (.ref s.heap.objs.size)
   repeat (any_goals (first|assumption|wp_step))
   refine Ck (Cv (R:=wants (λr s2=>r=.none/\∃ h' tk,s2={ s with heap:=h',toks:=tk }/\SetS P w h' s.heap.objs.size (ddl ss)/\(∀ b o,s.heap.get? b=some o->h'.get? b=some o)) E) Cc.init.plain F.entry_set_init (check_set_init_1 hT ?_)) λr2 s2 hr2=>?_
   ·obtain ⟨ol,hol,hcl,nl,hdl⟩:=hl
    obtain ⟨ocls,odict,odata,oslots⟩:=ol;simp only at hcl hdl;subst hcl;subst hdl;have hol':(s.heap.push (eQ w)).get? l=some { cls:=.type "tuple",dict:=odict,data:=.seq its nl,slots:=oslots }:=Ac _ hol;have hsls:=F.sub_tuple_set;have hslf:=F.sub_tuple_frozenset;have hne:(CY "tuple" == CY "dict")=false:=by decide
    have hl1:(s.heap.push (eQ w)).IsTuple l its:=⟨_,hol',rfl,nl,rfl⟩;unfold AH.«set.__init__» noKeywords AH.Frozenset.updateFrom;generalize hPI:pyIter=PI
    wp_walk
    subst hPI;refine EJ hl1 ?_;refine Ab (wpAny_runValue ?_);have hlS:l<s.heap.objs.size:=Aq hol;have hh3:A.in1.in1.in1.handled=none:=by simp [hh]
    have hz:(s.heap.push (eQ w)).objs.size=s.heap.objs.size+1:=BJ ..;have hneI:l≠(s.heap.push (eQ w)).objs.size:=by
     rw [hz];exact Aw (Cj hlS)
    have haf:s.heap.objs.size∉[(s.heap.push (eQ w)).objs.size,l]:=by
     simp only [AE,Ek,or_false,not_or];rw [hz];exact ⟨Aw (Cn _),Dz hlS⟩
    have hlen:ss.length=its.size:=by rw [<- BE];exact (EN.length hi).symm
    refine qD ((Walks.tuple hh3 _ l hneI its).toS) s.heap.objs.size haf ss hlen (λi v hv=>oT hi i v (by rw [Bq];exact hv)) hb (its.size-0) 0 _ (by omega) (BK _) ⟨⟨_,Ah _ rfl,rfl,rfl⟩,(hl1.push _)⟩ ((rF s.heap).at λo e=>Ac _ e) λs' hm S'=>?_;obtain ⟨h',g',d',tk',os'⟩:=s';have eg:g'=s.gens:=hm.gens;have ed:d'=s.drawn:=hm.drawn;have eo:os'=s.os:=hm.os;subst eg;subst ed;subst eo;show wpAny _ _ _ _ _ _;refine Af ?_;show wpAny _ _ (ret BR) _ _ _;refine Af ⟨rfl,h',tk',rfl,S',λb o e=>?_⟩;have hb0:=Aq e;refine hm.heap b o ?_ (Ac _ (Ac _ e));simp only [AE,Ek,or_false,not_or];rw [hz];exact ⟨Aw hb0,Aw (Cj hb0)⟩
   ·cases r2 with
    |error e=>exact hr2
    |ok f2=>
     cases f2 with
     |ret r=>
      obtain ⟨rfl,h',tk,rfl,S',hk'⟩:=hr2
      repeat (any_goals (first|assumption|wp_step))
      exact h _ _ S' hk'
     |_=>exact hr2.elim
  |_=>exact hr.elim
end
end SX
namespace L2
open PySem PySem.Spec PyProof.Rows
section
variable {X:Cx}
def aHr (X:Cx):List V->Hp->VK->Prop:=λxs H Q=>∃ a,∃ ss:List Str,xs=[.ref a]/\SqT X.K H a (ss.map V.str)/\ss.length<1000/\∀ p,H p=none->Q (.ref p) (upd H p (SetT X p (SX.ddl ss)))
def yI (hc:X.calm=true):eU X (.type "set") (aHr X):=by
 intro pins s σ H xs us Q I r h;obtain ⟨a,ss,rfl,hq,h1,q⟩:=h;obtain ⟨u,rfl,rx⟩:=vals1 r;cases rx;obtain ⟨its,r',pl,hz⟩:=I.tuple hq;have hl:=r'.length;rw [Ag] at hl;refine SX.call_set_tup (I.ok.hd hc) pl (by simpa using gG r') (by rw [Ai];unfold EL;omega) λh' tk S k=>?_;obtain ⟨⟨es,ep,t,ho,_⟩,_,_⟩:=id S;exact ⟨.ref s.heap.objs.size,_,I.laid (a:=s.heap.objs.size) (o:=SetT X s.heap.objs.size (SX.ddl ss)) (t':=tk) k (Ak _) ⟨S,⟨_,ho⟩,λh1 h2 p k=>p.at k⟩,rfl,q _ (I.hok.fresh (Ak _))⟩
end
end L2
namespace K33
open PySem PySem.Spec PyProof.Rows L2 GM TM
def qW :PSs X ss (λ_ _ _=>False):=λ_ _ _ _ _ _ h=>h.elim
def jC {n j:Nat}(h:j<n):ixN n (j:Int)=some j:=by
 unfold ixN;rw [if_pos (by omega),if_pos (by omega),Cz]
def uQ:Sp:=λvs H Q _=>∃ (ph:Addr) (i:Nat) (h n:V) (us:List V),vs=[.ref ph,.int (i:Nat),h,n]/\H ph=some (.lst us)/\i<us.length/\us.length<=20/\∀ l z H',Same H H'->H l=none->H' z=some (.tup [h,n])->H' l=some (.lst (us.set i (.ref z)))->Q (.ref l) H'
inductive DeedO (CD CF:Addr):Str->List V->Addr->List (Str×V)->Prop where
 |draw (u1 u2 u3):DeedO CD CF "draw" [u1,u2,u3] CD (fs3 "phial" "ware" "amount" u1 u2 u3)
 |fill (u1 u2 u3):DeedO CD CF "fill" [u1,u2,u3] CF (fs3 "phial" "ware" "level" u1 u2 u3)
abbrev kws:List Str:=["draw","fill"]
def kZ (K:Aa)(CD CF:Addr):Sp:=λvs H Q E=>∃ b nb v n,vs=[.ref b,v,.int (n:Nat)]/\BnV H b nb/\RowV K H nb v true/\(∃ a x us,v=.ref a/\H a=some (.tup (.str x::us))/\x∈kws) /\
 (∀ a x us p dx C fs H',v=.ref a->H a=some (.tup (.str x::us))->Same H H'->H p=none->H' p=some (.ins C dx fs)->DeedO CD CF x us C fs->Q (.ref p) H')
structure MkD (P:Az)(w:World)(K:Aa)(mg:Str->Option Value)(base:Heap)(C:Addr)(nm:Str)(ps:List Str)(sp:Sp):Prop where
 ex:∃ f fd,Mk K C f/\FnOk P w K mg base CX0 4 f fd ps sp/\Binds K fd ps []/\mg nm=some (.ref C)
def RowV.word {K:Aa}{H:Hp}{nb:Nat}{v:V}(h:RowV K H nb v true):∃ a,v=.ref a/\((∃ u1 u2 u3,H a=some (.tup [.str "draw",u1,u2,u3]))\/(∃ u1 u2 u3,H a=some (.tup [.str "fill",u1,u2,u3]))\/(∃ u1 u2 u3,H a=some (.tup [.str "pour",u1,u2,u3]))\/(∃ u1,H a=some (.tup [.str "empty",u1]))\/∃ u1,H a=some (.tup [.str "rinse",u1])):=by
 cases h with
 |@big a x us ks βs _ ha hf ek n1 n2=>
  refine ⟨a,rfl,?_⟩;have ul:=ek.1;have three:∀ {l:List V},l.length=3->∃ u1 u2 u3,l=[u1,u2,u3]:=λ{l} e=>by
   match l,e with
   |[a,b,c],_=>exact ⟨a,b,c,rfl⟩
  have one:∀ {l:List V},l.length=1->∃ u1,l=[u1]:=λ{l} e=>by
   match l,e with
   |[a],_=>exact ⟨a,rfl⟩
  unfold frm at hf;split at hf
  ·rename_i e
   cases hf;obtain ⟨u1,u2,u3,rfl⟩:=three ul;exact .inl ⟨u1,u2,u3,by rw [e] at ha;exact ha⟩
  split at hf
  ·rename_i e
   cases hf;obtain ⟨u1,u2,u3,rfl⟩:=three ul;exact .inr (.inl ⟨u1,u2,u3,by rw [e] at ha;exact ha⟩)
  split at hf
  ·rename_i e
   cases hf;obtain ⟨u1,u2,u3,rfl⟩:=three ul;exact .inr (.inr (.inl ⟨u1,u2,u3,by rw [e] at ha;exact ha⟩))
  split at hf
  ·rename_i e
   cases hf;obtain ⟨u1,rfl⟩:=one ul;exact .inr (.inr (.inr (.inl ⟨u1,by rw [e] at ha;exact ha⟩)))
  split at hf
  ·rename_i e
   cases hf;obtain ⟨u1,rfl⟩:=one ul;exact .inr (.inr (.inr (.inr ⟨u1,by rw [e] at ha;exact ha⟩)))
  ·cases hf
def sm0 {p:Addr}(h:Same H H1)(n:H1 p=none):H p=none:=by
 cases e:H p with
 |none=>rfl
 |some o=>rw [h _ _ e] at n;cases n
def nE {p dx C:Addr}(np:H p=none)(nd:H dx=none)(kp:∀ b o,b≠p->upd (upd H dx (.own p)) p (.ins C dx []) b=some o->H' b=some o):Same H H':=λb o e=>
 kp b o (bE e np) (by rw [aH (bE e np),aH (bE e nd)];exact e)
section
variable {P:Az}{w:World}{K:Aa}{mg:Str->Option Value}{base:Heap}{cP c0 c1 c2 c3 c4 c5 f1 f3 f4 CD CF:Addr}
def zH:FnScope ["bench","row","place"] ["bench","row","place"] (aI sDeedAt):=fnScOk (by decide +kernel)
def wO {f:Addr}{fd:Bf}(F:Fun K "deed_at" "deed_at" sDeedAt f fd)(cR:Cal P w K mg base CX0 5 "is_row" ["bench","row"] (oX K))
  (D1:MkD P w K mg base CD "Draw" ["self","phial","ware","amount"] (sW CD "phial" "ware" "amount")) (D2:MkD P w K mg base CF "Fill" ["self","phial","ware","level"] (sW CF "phial" "ware" "level")):FnOk P w K mg base (CXg P w) 6 f fd ["bench","row","place"] (kZ K CD CF):=by
 refine F.okF zH (λvs H Q E h=>?_) (λcdv A outer s H vs Q E hr h=>?_)
 ·obtain ⟨_,_,_,_,rfl,_⟩:=h
  rfl
 ·obtain ⟨b,nb,v,n,rfl,bn,rv,kk,kG'⟩:=h
  obtain ⟨f1,g1,M1,F1,b1,m1⟩:=D1.ex;obtain ⟨f2,g2,M2,F2,b2,m2⟩:=D2.ex;refine ⟨_,(aD (bF (eD (cV (aJ cR hr rfl aQ (aA (pv 0) (aA (pv 1) aC)))))
    qW
    aP)
   (aD (bF (aS dB (pit 1 0) aU (aV _))
    (aG (aL (vU M1 F1 hr rfl m1 b1 .nil aQ (aA (pit 1 1) (aA (pit 1 2) (aA (pit 1 3) aC))))))
    aP)
   (aD (bF (aS dB (pit 1 0) aU (aV _))
    (aG (aL (vU M2 F2 hr rfl m2 b2 .nil aQ (aA (pit 1 1) (aA (pit 1 2) (aA (pit 1 3) aC))))))
    aP)
   (aD (bF (aS dB (pit 1 0) aU (aV _))
    qW
    aP)
   qW)))),?_⟩
  refine cut5 ?_
  intros
  refine ⟨_,rfl,_,rfl,b,nb,v,true,rfl,bn,rv,λH1 s1=>⟨_,rfl,iteF ?_⟩⟩;obtain ⟨a,rfl,hw⟩:=rv.word;obtain ⟨a2,x2,us2,e2,h2,k2⟩:=kk;cases e2;have nok:∀ {y:Str} {vs:List V},H a=some (.tup (.str y::vs))->y∈kws:=λ{y vs} h=>by
   rw [h2] at h;cases h;exact k2
  rcases hw with ⟨u1,u2,u3,ha⟩|⟨u1,u2,u3,ha⟩|⟨u1,u2,u3,ha⟩|⟨u1,ha⟩|⟨u1,ha⟩
  ·have sq:=SqT.of (K:=K) (s1 _ _ ha)
   refine ⟨a,_,_,rfl,sq,rfl,rfl,_,rfl,iteT ⟨a,_,_,rfl,sq,rfl,a,_,_,rfl,sq,rfl,a,_,_,rfl,sq,rfl,λx dx nx ndx ne=>⟨x,dx,u1,u2,u3,rfl,aB,λH' kp hx=>⟨rfl,?_⟩⟩⟩⟩;exact kG' a _ _ x dx _ _ H' rfl ha (s1.trans (nE nx ndx kp)) (sm0 s1 nx) hx (.draw u1 u2 u3)
  ·have sq:=SqT.of (K:=K) (s1 _ _ ha)
   refine ⟨a,_,_,rfl,sq,rfl,rfl,_,rfl,iteF ⟨a,_,_,rfl,sq,rfl,rfl,_,rfl,iteT ⟨a,_,_,rfl,sq,rfl,a,_,_,rfl,sq,rfl,a,_,_,rfl,sq,rfl,λx dx nx ndx ne=>⟨x,dx,u1,u2,u3,rfl,aB,λH' kp hx=>⟨rfl,?_⟩⟩⟩⟩⟩;exact kG' a _ _ x dx _ _ H' rfl ha (s1.trans (nE nx ndx kp)) (sm0 s1 nx) hx (.fill u1 u2 u3)
  ·exact absurd (nok ha) (by decide +kernel)
  ·exact absurd (nok ha) (by decide +kernel)
  ·exact absurd (nok ha) (by decide +kernel)
def aBf:FnScope ["phials","phial","holds","names","behind"] ["phials","phial","holds","names"] (aI sWithPh):=fnScOk (by decide +kernel)
def aDp (F:Fun K "with_phial" "with_phial" sWithPh f fd)(T:Txt mg):FnOk P w K mg base CX0 1 f fd ["phials","phial","holds","names"] uQ:=by
 refine F.ok aBf (λvs H Q E h=>?_) (λcdv A outer s H vs Q E hr h=>?_)
 ·obtain ⟨_,_,_,_,_,rfl,_⟩:=h
  rfl
 ·obtain ⟨ph,i,h,n,us,rfl,hp,il,u20,k⟩:=h
  refine ⟨_,(aD (aM (i:=4) aBf.nd rfl (Or.inl rfl) (aZ bX rfl T.list' eO (aA (pv 0) aC)))
   (aD (gU (aW (aA (pv 2) (aA (pv 3) aC))) (mW (pv 4) (pv 1) set_list))
   (aG (aL (pv 4))))),?_⟩
  refine cut3 ?_
  intros
  refine ⟨_,rfl,ph,_,rfl,.inl (SqL.of hp),λl nl=>?_⟩;have sl:=Same.upd (o:=.lst us) nl;refine ⟨_,rfl,_,rfl,zLn2,λz nz=>?_⟩;have sz:=Same.upd (o:=.tup [h,n]) nz;have lz:l≠z:=λe=>by rw [<- e,aB] at nz;cases nz
  refine ⟨_,rfl,_,rfl,l,us,(i:Int),i,rfl,rfl,sz _ _ aB,jC il,?_⟩;refine ⟨_,rfl,k l z _ (λb o e=>?_) nl ?_ aB⟩
  ·rw [aH (bE e nl)]
   exact (sl.trans sz) _ _ e
  ·rw [aH lz.symm]
   exact aB
end
end K33
namespace HT
open PySem PySem.Spec PyProof.Rows
section
variable {prog:Az}{w:World}{A:Around}{E:Value->Shared->Prop}{s:Shared}
end
end HT
namespace L2
open PySem PySem.Spec PyProof.Rows
section
variable {X:Cx}
def rRepTA (K:Aa):R2:=λx y H Q=>∃ a k xs,x=.ref a/\y=.int k/\SqT K H a xs/\xs≠[]/\1<=k/\k<=1000/\xs.length<=1000/\(k=1->Q (.ref a) H)/\(2<=k->∀ p,H p=none->Q (.ref p) (upd H p (.tup (CO k.toNat xs).flatten)))
def rCatTB (K:Aa):R2:=λx y H Q=>∃ a b xs ys,x=.ref a/\y=.ref b/\SqT K H a xs/\H b=some (.tup ys)/\ys≠[]/\xs.length+ys.length<=Ax/\∀ p H',Same H H'->H' p=some (.tup (xs++ys))->Q (.ref p) H'
end
end L2
namespace K33
open PySem PySem.Spec PyProof.Rows L2 GM TM
abbrev PF:Type:=(Str->Int)×List Str
def PhA (H:Hp)(M:Int)(v:V)(d:PF):Prop:=∃ (a m n:Addr) (us:List V) (ys:List (Str×Int×Int)),v=.ref a/\H a=some (.tup [.ref m,.ref n])/\H m=some (.tup us)/\PrL H us ys/\IsMx M d.1 ys/\H n=some (.tup (d.2.map V.str))
def PhA.keep {M:Int}(s:Same H H')(h:PhA H M v d):PhA H' M v d:=by
 obtain ⟨a,m,n,us,ys,e,h1,h2,h3,h4,h5⟩:=h;exact ⟨a,m,n,us,ys,e,s _ _ h1,s _ _ h2,h3.keep s.tk,h4,s _ _ h5⟩
structure StV (H:Hp)(l:Addr)(M:Int)(S:List PF):Prop where
 ex:∃ vs,H l=some (.lst vs)/\vs.length=S.length/\∀ (i:Nat) v d,vs[i]?=some v->S[i]?=some d->PhA H M v d
def StV.keep {l:Addr}{M:Int}(s:Same H H')(h:StV H l M S):StV H' l M S:=by
 obtain ⟨vs,h1,h2,h3⟩:=h;exact ⟨vs,s _ _ h1,h2,λi v d hv hd=>(h3 i v d hv hd).keep s⟩
theorem StV.get {l:Addr}{M:Int}{i:Nat}(h:StV H l M S)(hd:S[i]?=some d):∃ vs v,H l=some (.lst vs)/\vs.length=S.length/\vs[i]?=some v/\PhA H M v d:=by
 obtain ⟨vs,h1,h2,h3⟩:=h;obtain ⟨v,hv⟩:∃ v,vs[i]?=some v:=⟨_,Ad (by rw [h2];exact (Ae.mp hd).1)⟩;exact ⟨vs,v,h1,h2,hv,h3 i v d hv hd⟩
def StV.put {l l' z:Addr}{M:Int}{i:Nat}(h:StV H l M S)(hl:H l=some (.lst vs))(s:Same H H')(hl':H' l'=some (.lst (vs.set i (.ref z))))(hz:PhA H' M (.ref z) d):StV H' l' M (S.set i d):=by
 obtain ⟨vs',h1,h2,h3⟩:=h;rw [hl] at h1;cases h1;refine ⟨_,hl',by rw [CT,CT];exact h2,λj v e hv he=>?_⟩
 by_cases ij:i=j
 ·subst ij
  have lt:i<vs.length:=by
   have:=(Ae.mp hv).1;rw [CT] at this;exact this
  rw [Ca lt] at hv;rw [Ca (by omega)] at he;cases hv;cases he;exact hz
 ·rw [BU ij] at hv he
  exact (h3 j v e hv he).keep s
def tot (ws:List Str)(f:Str->Int):Int:=(ws.map f).sum
structure Wss (ws:List Str):Prop where
 nd:ws.Nodup
 l:ws.length<=6
 w:∀ x∈ws,Wr x
structure Okf (ws:List Str)(d:PF):Prop where
 nn:∀ y,0<=d.1 y
 nin:∀ y∈d.2,y∈ws
 srt:d.2.Pairwise ltS
 inw:∀ y,d.1 y≠0->y∈ws
structure NmU (a b c:List Str):Prop where
 srt:c.Pairwise ltS
 mem:∀ y,y∈c↔y∈a\/y∈b
def fU {c:List Str}(h:c.Pairwise ltS):c.Nodup:=h.imp λ{a b} h=>aD6 h
def aD3 {c c':List Str}(h:c.Pairwise ltS)(h':c'.Pairwise ltS)(m:∀ y,y∈c↔y∈c'):c=c':=by
 have p:c.Perm c':=(List.perm_ext_iff_of_nodup (fU h) (fU h')).mpr m;exact p.eq_of_pairwise (le:=leS) (λx y _ _ h1 h2=>TM.ext (EU h1 h2)) (h.imp λh=>List.le_of_lt h) (h'.imp λh=>List.le_of_lt h)
def NmU.uniq {a b c c':List Str}(h:NmU a b c)(h':NmU a b c'):c=c':=aD3 h.srt h'.srt λy=>(h.mem y).trans (h'.mem y).symm
def aBu (p:ss.Perm (SX.ddl (a++b)))(so:sortedS ss=true):NmU a b ss:=by
 have nd:ss.Nodup:=p.nodup_iff.mpr (SX.ddl_nodup _);refine ⟨?_,λy=>by rw [p.mem_iff,SX.ddl_mem,Br]⟩;refine (List.pairwise_and_iff.mpr ⟨iN so,nd⟩).imp λ{x y} h=>?_;exact BG λz=>h.2 (TM.ext (EU h.1 (List.not_lt.mp z)))
def gE {M:Int}{f:Str->Int}(nd:ws.Nodup)(mx:IsMx M f ys)(h:∀ y,f y≠0->y∈ws):sumN M ys=tot ws f:=by
 rw [<- oO nd λx hx=>h x.1 ((mx.mem x.1).mp (Cy hx))];unfold tot;exact congrArg List.sum (Em λy _=>mx.nw y)
def aBv {ws:List Str}{M:Int}{f:Str->Int}{ys:List (Str×Int×Int)}(mx:IsMx M f ys)(h:∀ y,f y≠0->y∈ws):ys.length<=ws.length:=by
 have:=mx.nd.length_le_of_subset (l₂:=ws) λy hy=>h y ((mx.mem y).mp hy);rwa [Ag] at this
def BadO (c:Addr)(n i:Nat)(M N:Int)(rb:Int×Int)(H:Hp)(E:XK):Prop:=∀ a t b dx H',Same H H'->H' a=some (.tup [.int t,.int b])->Fr (M*rb.2) t b (N*rb.2-rb.1*M)->H' dx=some (xdE dx [("over",.ref a),("phial",.int (i:Nat)),("place",.int (n:Nat))])->E (.ref c) (some dx) H'
def BadO.mono {n i:Nat}{M N:Int}{rb:Int×Int}(s:Same H H1)(h:BadO c n i M N rb H E):BadO c n i M N rb H1 E:=λa t b dx H' s'=>h a t b dx H' (s.trans s')
structure MoreIn (K:Aa)(H:Hp)(b r q l cm nm:Addr)(rs us:List V)(ps:List (Str×Str))(rbs:List (Int×Int))(ws:List Str)(M:Int)(S:List PF)(i:Nat)(d:PF)(rb:Int×Int)(cus:List V)(cs:List (Str×Int×Int))(xs:List Str):Prop where
 bn:Bn H b r q rs us ps
 rm:RmL H rs rbs
 ww:Wss ws
 st:StV H l M S
 sl:S.length=rs.length
 ok:∀ d∈S,Okf ws d
 di:S[i]?=some d
 rbi:rbs[i]?=some rb
 hc:H cm=some (.tup cus)
 pc:PrL H cus cs
 oc:Over M cs
 cw:∀ x∈cs,x.1∈ws
 cl:cs.length<=6
 hn:H nm=some (.tup (xs.map V.str))
 xw:∀ x∈xs,x∈ws
 xl:xs.length<=20
 m0:0<M
 bm:Bt 2900 M
 bs:Bt 2900 (tot ws (λy=>d.1 y+NW M cs y))
def qM (K:Aa)(c3 c4:Addr):Sp:=λvs H Q E=>∃ b r q l cm nm rs us ps rbs ws M S i d rb cus cs xs n,vs=[.ref b,.ref l,.int (i:Nat),.ref cm,.ref nm,.int (n:Nat)]/\n<1000/\MoreIn K H b r q l cm nm rs us ps rbs ws M S i d rb cus cs xs /\
 (rb.1*M<tot ws (λy=>d.1 y+NW M cs y)*rb.2->BadO c3 n i M (tot ws (λy=>d.1 y+NW M cs y)) rb H E) /\
 (¬ rb.1*M<tot ws (λy=>d.1 y+NW M cs y)*rb.2->∀ nm',NmU d.2 xs nm'->(∀ pa,pairOf us ps nm'=.ref pa->BadE c4 [("pair",.ref pa),("phial",.int (i:Nat)),("place",.int (n:Nat))] H E) /\
  (pairOf us ps nm'=.non->∀ l' H',Same H H'->H l'=none->StV H' l' M (S.set i (λy=>d.1 y+NW M cs y,nm'))->Q (.ref l') H'))
theorem fZ :∀ {us:List V} {ps:List (Str×Str)} {xs:List Str},PsT H us ps->pairOf us ps xs=.non\/∃ pa p,pairOf us ps xs=.ref pa/\p∈ps/\H pa=some (.tup [.str p.1,.str p.2])
 |[],ps,xs,_=>.inl gM
 |u::us,[],xs,h=>.inl rfl
 |u::us,p::ps,xs,h=>by
  unfold pairOf;split
  ·obtain ⟨q,e,hq⟩:=h.2 0 u p rfl rfl
   exact .inr ⟨q,p,e,Au ..,hq⟩
  ·rcases fZ (us:=us) (ps:=ps) (xs:=xs) ⟨by have:=h.1;simpa using this,λi u p hu hp=>h.2 (i+1) u p (by simpa using hu) (by simpa using hp)⟩ with e|⟨pa,p',e1,e2,e3⟩
   ·exact .inl e
   ·exact .inr ⟨pa,p',e1,Aj _ e2,e3⟩
def aB9:Cd "set" = some (.type "set"):=by decide +kernel
def catT {K:Aa}{H:Hp}{a b:Addr}{xs ys:List Str}{Q:VK}(ha:H a=some (.tup (xs.map V.str)))(hb:H b=some (.tup (ys.map V.str)))(hz:xs.length+ys.length<=100)(h:∀ p H',Same H H'->SqT K H' p ((xs++ys).map V.str)->Q (.ref p) H'):aBl K (.ref a) (.ref b) H Q:=by
 by_cases e:xs=[]
 ·subst e
  exact .inl ⟨a,b,_,rfl,rfl,SqT.of ha,SqT.of hb,h b H (Same.refl _) (SqT.of hb)⟩
 ·refine .inr ⟨a,b,_,_,rfl,rfl,SqT.of ha,SqT.of hb,(λz=>e (List.map_eq_nil_iff.mp z)),by rw [Ag,Ag];exact bO (by omega),λz=>?_,λz p np=>?_⟩
  ·have:ys=[]:=List.map_eq_nil_iff.mp z
   subst this;exact h a H (Same.refl _) (by rw [Cb];exact SqT.of ha)
  ·exact h p _ (Same.upd np) (by rw [Bs];exact SqT.of aB)
def xM {t b:Int}(h:Rm t b):Fr b t b t:=⟨⟨by have:=h.1;omega,h.2,h.3⟩,by rw [BZ]⟩
def Tw.flip {K:Aa}{H:Hp}{p q:Addr}{t1 b1 t2 b2:Int}(h:Tw K H p q t1 b1 t2 b2):Tw K H q p t2 b2 t1 b1:=⟨h.sq,h.sp,h.a2,h.a1,h.st2,h.sb2,h.st1,h.sb1⟩
theorem iH (g h:Str->Int):∀ ws:List Str,tot ws (λy=>g y+h y)=tot ws g+tot ws h
 |[]=>rfl
 |y::r=>by
  have ih:=iH g h r;unfold tot at ih ⊢;rw [Al,Al,Al,AL,AL,AL,ih];omega
section
variable {P:Az}{w:World}{K:Aa}{mg:Str->Option Value}{base:Heap}{cP c0 c1 c2 c3 c4 c5 f1 f3 f4:Addr}
abbrev aIk:List Str:=["bench","phials","phial","comes","names","place","holds","much","room","names_behind","pair"]
def jO:FnScope aIk ["bench","phials","phial","comes","names","place"] (aI sWithMore):=fnScOk (by decide +kernel)
def aDt {f:Addr}{fd g3 g4:Bf}(F:Fun K "with_more" "with_more" sWithMore f fd)(T:Txt mg)(R:ErB K mg cP c0 c1 c2 c3 c4 c5 f1 f3 f4)
  (F3:FnOk P w K mg base CX0 1 f3 g3 ["self","place","phial","over"] (spI3 c3)) (b3:Binds K g3 ["self","place","phial","over"] []) (F4:FnOk P w K mg base CX0 1 f4 g4 ["self","place","phial","pair"] (aCr K c4)) (b4:Binds K g4 ["self","place","phial","pair"] [])
  (cT:Cal P w K mg base CX0 5 "together" ["one","other"] (aCp K)) (cW:Cal P w K mg base CX0 5 "whole" ["one"] (hW K)) (cL:Cal P w K mg base CX0 5 "less" ["one","other"] (fO K)) (cM:Cal P w K mg base CX0 5 "minus" ["one","other"] (kU K)) (cP':Cal P w K mg base CX0 5 "pair_in" ["bench","names"] (kQ K)) (cH:Cal P w K mg base CX0 5 "with_phial" ["phials","phial","holds","names"] uQ) :
  FnOk P w K mg base (CXg P w) 6 f fd ["bench","phials","phial","comes","names","place"] (qM K c3 c4):=by
 refine F.okF jO (λvs H Q E h=>?_) (λcdv A outer s H vs Q E hr h=>?_)
 ·obtain ⟨_,_,_,_,_,_,_,_,_,_,_,_,_,_,_,_,_,_,_,_,rfl,_⟩:=h
  rfl
 ·obtain ⟨b,r,q,l,cm,nm,rs,us,ps,rbs,ws,M,S,i,d,rb,cus,cs,xs,n,rfl,hn,m,kS,kG⟩:=h
  refine ⟨_,(aD (aM (i:=6) jO.nd rfl (Or.inl rfl) (aJ cT hr rfl aQ (aA (bH dW (bH bB (pv 1) (pv 2) (λ_ _=>rfl)) aE (λ_ _=>rfl)) (aA (pv 3) aC))))
   (aD (aM (i:=7) jO.nd rfl (Or.inl rfl) (aJ cW hr rfl aQ (aA (pv 6) aC)))
   (aD (aM (i:=8) jO.nd rfl (Or.inl rfl) (bH dW (pit 0 0) (pv 2) (λ_ _=>rfl)))
   (aD (bF (cV (aJ cL hr rfl aQ (aA (pv 8) (aA (pv 7) aC))))
    (aG (iR (k:=1) rfl xe_f rfl (hr.mono (by decide)) rfl R.r3.m (R.r3.e "place" (by simp)).i F3 b3 (aA (pv 5) (aA (pv 2) (aA (aJ cM hr rfl aQ (aA (pv 7) (aA (pv 8) aC))) aC)))))
    aP)
   (aD (aM (i:=9) jO.nd rfl (Or.inl rfl) (aZ bR rfl T.tup' dS (aA (aT (gZ rfl) rfl T.sorted' boot_sorted (aA (aZ (yI rfl) rfl T.set' aB9 (aA (aK zR (bH dW (bH bB (pv 1) (pv 2) (λ_ _=>rfl)) aE (λ_ _=>rfl)) (pv 4)) aC)) aC)) aC)))
   (aD (aM (i:=10) jO.nd rfl (Or.inl rfl) (aJ cP' hr rfl aQ (aA (pv 0) (aA (pv 9) aC))))
   (aD (bF (aS pF (pv 10) dU (aV _))
    (aG (iR (k:=1) rfl xe_f rfl (hr.mono (by decide)) rfl R.r4.m (R.r4.e "place" (by simp)).i F4 b4 (aA (pv 5) (aA (pv 2) (aA (pv 10) aC)))))
    aP)
   (aG (aL (aJ cH hr rfl aQ (aA (pv 1) (aA (pv 2) (aA (pv 6) (aA (pv 9) aC)))))))))))))),?_⟩
  refine cut8 ?_
  intros
  obtain ⟨vs,v,hl,vl,hv,a,mm,nn,ms,ys,rfl,ha,hm,pr,mx,hnn⟩:=m.st.get m.di;have okd:=m.ok d (Av m.di);have M0:=m.m0;have oy:Over M ys:=mx.over;have tS:sumN M ys=tot ws d.1:=gE m.ww.nd mx okd.inw;have cS:sumN M cs=tot ws (NW M cs):=(oO m.ww.nd m.cw).symm;have tA:tot ws (λy=>d.1 y+NW M cs y)=sumN M ys+sumN M cs:=by rw [iH,tS,cS]
  have nY:=dA M0 oy;have nC:=dA M0 m.oc;have yl:=aBv mx okd.inw;have wl:=m.ww.l;have bT:=m.bs;rw [tA] at bT;refine ⟨_,rfl,_,rfl,l,_,(i:Int),.ref a,rfl,rfl,SqL.of hl,bD hv,a,_,0,.ref mm,rfl,rfl,SqT.of ha,rfl,_,rfl,mm,cm,ms,cus,ys,cs,M,rfl,SqT.of hm,pr,SqT.of m.hc,m.pc,by have:=m.cl;omega,oy,m.oc,M0,m.bm.mono (by decide),by rw [oS];exact bT.mono (by decide),λhd zs zy H1 s1 hhd pz mz=>?_⟩;have mz':IsMx M (λy=>d.1 y+NW M cs y) zy:=mz.congr λy=>by rw [mx.nw]
  have okz:∀ y,d.1 y+NW M cs y≠0->y∈ws:=λy hy=>by
   by_cases e:d.1 y=0
   ·have:NW M cs y≠0:=by omega
    by_cases z:y∈cs.map (·.1)
    ·obtain ⟨x,hx,rfl⟩:=AS.mp z
     exact m.cw x hx
    ·exact absurd (eP z) this
   ·exact okd.inw y e
  have zS:sumN M zy=tot ws (λy=>d.1 y+NW M cs y):=gE m.ww.nd mz' okz;have oz:Over M zy:=mz'.over;have nZ:=dA M0 oz;have bZ:=m.bs;rw [<- zS] at bZ kS kG;refine ⟨_,rfl,hd,zs,zy,M,rfl,SqT.of hhd,pz,oz,M0,m.bm.mono (by decide),λj=>(bZ.le (dA M0 (oz.take j)) (eW M0 j oz)).mono (by decide),λmu t b' H2 s2 hmu fr=>?_⟩;have s02:=s1.trans s2;obtain ⟨t_le,b_le⟩:=dQ M0 fr;have bb:=fr.am.b1;have bt:Bt 4000 t:=(bZ.le fr.am.t0 t_le).mono (by decide);have bb':Bt 4000 b':=(m.bm.le (by omega) b_le).mono (by decide);obtain ⟨rv,hrv⟩:∃ rv,rs[i]?=some rv:=⟨_,Ad (by rw [<- m.sl];exact (Ae.mp m.di).1)⟩;obtain ⟨rb',hrb',ra,rfl,hra,rmm⟩:=m.rm.get hrv;rw [m.rbi] at hrb';cases hrb';have bn2:=m.bn.keep s02;have i16:i<16:=by
   have h1:=(Ae.mp hrv).1;have h2:=m.bn.l16;omega
  have tw:Tw K H2 ra mu rb.1 rb.2 t b':=⟨SqT.of (s02 _ _ hra),hmu,⟨by have:=rmm.t1;omega,rmm.b1,rmm.g⟩,fr.am,rmm.st.mono (by decide),rmm.sb.mono (by decide),bt,bb'⟩;have frr:Fr rb.2 rb.1 rb.2 rb.1:=xM rmm;refine ⟨b,_,_,rfl,SqT.of bn2.hp,rfl,_,rfl,r,_,(i:Int),.ref ra,rfl,rfl,SqT.of bn2.hr,bD hrv,?_⟩;refine ⟨_,rfl,_,rfl,ra,mu,rb.1,rb.2,t,b',rfl,tw,_,rfl,?_⟩;rw [xN M0 fr];refine ite2 (λc=>?_) (λc=>?_)
  ·have c':rb.1*M<sumN M zy*rb.2:=of_decide_eq_true c
   obtain ⟨le,fo⟩:=iE (M1:=M) (M2:=rb.2) M0 (by have:=rmm.b1;omega) fr frr (by omega);refine ⟨_,rfl,_,rfl,_,rfl,_,rfl,mu,ra,t,b',rb.1,rb.2,rfl,tw.flip,le,λpo H3 s3 hpo=>?_⟩;exact aFn hn (by omega) λdx H' s' hd=>kS c' po _ _ dx H' ((s02.trans s3).trans s') (s' _ _ hpo) fo hd
  ·have c':¬ rb.1*M<sumN M zy*rb.2:=of_decide_eq_false (by simpa using c)
   refine ⟨_,rfl,_,rfl,l,_,(i:Int),.ref a,rfl,rfl,SqL.of (s02 _ _ hl),bD hv,a,_,1,.ref nn,rfl,rfl,SqT.of (s02 _ _ ha),rfl,_,rfl,?_⟩;have nl:d.2.length<=6:=Bh ((fU okd.srt).length_le_of_subset okd.nin) wl;refine catT (s02 _ _ hnn) (s02 _ _ m.hn) (by have:=m.xl;omega) λpc H3 s3 hpc=>?_;have ll:(d.2++xs).length<=30:=by rw [AF];have:=m.xl;omega
   refine ⟨pc,_,rfl,hpc,by omega,λp2 np2=>⟨p2,_,rfl,aB,Dg (SX.ddl_len _) (by omega),λp3 nm' pm so np3=>⟨p3,_,rfl,.inl ⟨SqL.of aB,λp4 np4=>?_⟩⟩⟩⟩;have u:=aBu pm so;have s4:=Same.upd (o:=.tup (nm'.map V.str)) np4;have s3':=((Same.upd np2).trans (Same.upd (o:=.lst (nm'.map V.str)) np3)).trans s4;have s04:=(s02.trans s3).trans s3';have bn4:=m.bn.keep s04;refine ⟨_,rfl,_,rfl,b,r,q,rs,us,ps,p4,nm',rfl,bn4,SqT.of aB,?_⟩;obtain ⟨kT,kO⟩:=kG c' nm' u
   rcases fZ (xs:=nm') m.bn.pt with e|⟨pa,p,e,pmem,hpa⟩
   ·rw [e]
    refine ⟨_,rfl,rfl,_,rfl,iteF ?_⟩;have s14:=(s2.trans s3).trans s3';have il:=(Ae.mp hv).1;have l16:=m.bn.l16;have sl:=m.sl;refine ⟨_,rfl,_,rfl,_,rfl,_,rfl,l,i,.ref hd,.ref p4,vs,rfl,s04 _ _ hl,il,by omega,λl' z H5 s5 nl' hz hl'=>?_⟩;exact kO e l' H5 (s04.trans s5) (sm0 s04 nl') (m.st.put hl (s04.trans s5) hl' ⟨z,hd,p4,zs,zy,rfl,hz,(s14.trans s5) _ _ hhd,pz.keep (s14.trans s5).tk,mz',s5 _ _ aB⟩)
   ·rw [e]
    refine ⟨_,rfl,rfl,_,rfl,iteT ?_⟩;have g:=m.bn.g.ok p pmem;exact ⟨_,rfl,_,rfl,_,rfl,aC4 hn (by omega) (s04 _ _ hpa) g.1 g.2.1 ((kT pa e).mono s04)⟩
end
structure BS (H:Hp)(b r q:Addr)(rs us:List V)(ps:List (Str×Str))(rbs:List (Int×Int))(ws:List Str):Prop where
 bn:Bn H b r q rs us ps
 rm:RmL H rs rbs
 ww:Wss ws
def BS.keep {b r q:Addr}(s:Same H H')(h:BS H b r q rs us ps rbs ws):BS H' b r q rs us ps rbs ws:=⟨h.bn.keep s,h.rm.keep s.tk,h.ww⟩
structure Sok (ws:List Str)(rbs:List (Int×Int))(M:Int)(S:List PF)(β:Nat):Prop where
 m0:0<M
 bm:Bt β M
 sl:S.length=rbs.length
 ok:∀ d∈S,Okf ws d
 fit:∀ (i:Nat) d rb,S[i]?=some d->rbs[i]?=some rb->tot ws d.1*rb.2<=rb.1*M
def scl (b:Int)(S:List PF):List PF:=S.map λd=>(λy=>d.1 y*b,d.2)
def fJ {b:Int}{i:Nat}(h:S[i]?=some d):(scl b S)[i]?=some (λy=>d.1 y*b,d.2):=by
 unfold scl;rw [As,h];rfl
theorem gF (f:Str->Int)(b:Int):∀ ws:List Str,tot ws (λy=>f y*b)=tot ws f*b
 |[]=>by simp [tot]
 |y::r=>by
  have ih:=gF f b r;unfold tot at ih ⊢;rw [Al,Al,AL,AL,ih,Int.add_mul]
def iD {M1 M2 t b n1 n2:Int}(h:Fr M1 t b n1)(h1:0<M1)(e:n1*M2=n2*M1):Fr M2 t b n2:=by
 refine ⟨h.am,BF (show M1≠0 by omega) ?_⟩;have:=h.e
 calc t*M2*M1=t*M1*M2:=by rw [AJ]
  _=n1*b*M2:=by rw [this]
  _=n1*M2*b:=by rw [AJ]
  _=n2*M1*b:=by rw [e]
  _=n2*b*M1:=by rw [AJ]
def IsMx.scale {M1 M2:Int}{f1 f2:Str->Int}(h:IsMx M1 f1 ys)(h1:0<M1)(h2:0<M2)(e:∀ y,f1 y*M2=f2 y*M1):IsMx M2 f2 ys:=by
 refine ⟨h.pw,h.nd,λy=>?_,λp hp=>iD (h.fr p hp) h1 (e _)⟩;rw [h.mem];have q:=e y;constructor
 ·intro n z
  rw [z,Co] at q
  rcases Fk.mp q with w|w
  ·exact n w
  ·omega
 ·intro n z
  rw [z,Co] at q
  rcases Fk.mp q.symm with w|w
  ·exact n w
  ·omega
def StV.scale {l:Addr}{M b:Int}(h:StV H l M S)(M0:0<M)(b0:0<b):StV H l (M*b) (scl b S):=by
 obtain ⟨vs,h1,h2,h3⟩:=h;refine ⟨vs,h1,by unfold scl;rw [Ag];exact h2,λi v d hv hd=>?_⟩;unfold scl at hd;rw [As] at hd;obtain ⟨e,he,rfl⟩:=BB.mp hd;obtain ⟨a,m,n,us,ys,e1,e2,e3,e4,e5,e6⟩:=h3 i v e hv he;exact ⟨a,m,n,us,ys,e1,e2,e3,e4,e5.scale M0 (Ba M0 b0) λy=>by rw [BZ M b,<- Bp],e6⟩
def Okf.scale {b:Int}(h:Okf ws d)(b0:0<b):Okf ws (λy=>d.1 y*b,d.2):=
 ⟨λy=>Bk (h.nn y) (Er b0),h.nin,h.srt,λy hy=>h.inw y λe=>hy (by show d.1 y*b=0;rw [e,Co])⟩
def Sok.scale {M b:Int}{β γ:Nat}(h:Sok ws rbs M S β)(b0:0<b)(bb:Bt γ b):Sok ws rbs (M*b) (scl b S) (β+γ):=by
 refine ⟨Ba h.m0 b0,h.bm.mul bb,by unfold scl;rw [Ag];exact h.sl,λd hd=>?_,λi d rb hd hr=>?_⟩
 ·unfold scl at hd
  obtain ⟨e,he,rfl⟩:=AS.mp hd;exact (h.ok e he).scale b0
 ·unfold scl at hd
  rw [As] at hd;obtain ⟨e,he,rfl⟩:=BB.mp hd;have f:=BD (h.fit i e rb he hr) (Er b0);show tot ws (λy=>e.1 y*b)*rb.2<=rb.1*(M*b);rw [gF,AJ,<- Bp];exact f
def oneW (x:Str)(n:Int):Str->Int:=λy=>if x=y then n else 0
def IntoR (c3 c4:Addr)(us:List V)(ps:List (Str×Str))(ws:List Str)(M:Int)(S:List PF)(i:Nat)(d:PF)(rb:Int×Int)(add:Str->Int)(xs:List Str)(n:Nat)(H:Hp)(Q:VK)(E:XK):Prop:=
 (rb.1*M<tot ws (λy=>d.1 y+add y)*rb.2->BadO c3 n i M (tot ws (λy=>d.1 y+add y)) rb H E) /\
 (¬ rb.1*M<tot ws (λy=>d.1 y+add y)*rb.2->∀ nm',NmU d.2 xs nm'->(∀ pa,pairOf us ps nm'=.ref pa->BadE c4 [("pair",.ref pa),("phial",.int (i:Nat)),("place",.int (n:Nat))] H E) /\
  (pairOf us ps nm'=.non->∀ l' H',Same H H'->H l'=none->StV H' l' M (S.set i (λy=>d.1 y+add y,nm'))->Q (.ref l') H'))
def IntoR.mono {M:Int}{i:Nat}{rb:Int×Int}{add:Str->Int}{n:Nat}(s:Same H H1)(h:IntoR c3 c4 us ps ws M S i d rb add xs n H Q E):IntoR c3 c4 us ps ws M S i d rb add xs n H1 Q E:=
 ⟨λc=>(h.1 c).mono s,λc nm' u=>⟨λpa e=>((h.2 c nm' u).1 pa e).mono s,λe l' H' s' nl=>(h.2 c nm' u).2 e l' H' (s.trans s') (sm0 s nl)⟩⟩
theorem oR {n:Int}:∀ {ws:List Str},ws.Nodup->x∈ws->tot ws (oneW x n)=n
 |[],_,h=>by cases h
 |y::r,nd,h=>by
  have nd':=BO.mp nd;have z:∀ {r:List Str},x∉r->tot r (oneW x n)=0:=λ{r}=>by
   induction r with
   |nil=>intro _;rfl
   |cons u q ih=>
    intro h;have ih':=ih λm=>h (Aj _ m);unfold tot at ih' ⊢;rw [Al,AL,ih'];unfold oneW;rw [if_neg λe=>h (by rw [e];exact Au ..)];rfl
  by_cases e:x=y
  ·subst e
   have zr:=z nd'.1;unfold tot at zr ⊢;rw [Al,AL,zr];unfold oneW;rw [if_pos rfl,Int.add_zero]
  ·have ih:=oR (n:=n) nd'.2 ((AE.mp h).resolve_left e)
   unfold tot at ih ⊢;rw [Al,AL,ih];unfold oneW;rw [if_neg e,Int.zero_add]
def Sok.small {M:Int}{β:Nat}{i:Nat}{rb:Int×Int}(h:Sok ws rbs M S β)(hd:S[i]?=some d)(hr:rbs[i]?=some rb)(rm:Rm rb.1 rb.2):0<=tot ws d.1/\Bt (100+β) (tot ws d.1):=by
 have n0:∀ r:List Str,0<=tot r d.1:=λr=>by
  induction r with
  |nil=>exact DS _
  |cons y r ih=>
   have:=(h.ok d (Av hd)).nn y;unfold tot at ih ⊢;rw [Al,AL];omega
 have f:=h.fit i d rb hd hr;have b1:=rm.b1;have m:=Bg b1 (n0 ws);rw [Int.mul_one] at m;exact ⟨n0 ws,(rm.st.mul h.bm).le (n0 ws) (by omega)⟩
structure OnIn (H:Hp)(b r q l:Addr)(rs us:List V)(ps:List (Str×Str))(rbs:List (Int×Int))(ws:List Str)(M:Int)(S:List PF)(β:Nat):Prop where
 bs:BS H b r q rs us ps rbs ws
 st:StV H l M S
 so:Sok ws rbs M S β
 b24:β<=2400
def OnIn.keep {b r q l:Addr}{M:Int}{β:Nat}(s:Same H H')(h:OnIn H b r q l rs us ps rbs ws M S β):OnIn H' b r q l rs us ps rbs ws M S β:=⟨h.bs.keep s,h.st.keep s,h.so,h.b24⟩
structure RwA (t b:Int):Prop where
 am:Amt t b
 bt:Bt 200 t
 bb:Bt 200 b
theorem rH {M t b N:Int}(hM:0<M)(h:Fr M t b N):nOf M (x,t,b)=N:=by
 have b0:b≠0:=by have:=h.am.b1;omega
 show t*(M/b)=N;obtain ⟨k,hk⟩:=h.dvd;have e:=h.e;rw [hk,Dw _ b0];rw [hk] at e;refine BF b0 ?_;rw [<- e,BZ b k,Bp]
theorem nw1 {M t b N:Int}(M0:0<M)(fr:Fr M t b N):NW M [(x,t,b)]=oneW x N:=funext λy=>by
 rw [mB];unfold oneW;have:NW M [] y=0:=eP (by simp);rw [this,Int.add_zero,rH M0 fr]
structure RwL (t b:Int):Prop where
 am:Amt t b
 bt:Bt 2600 t
 bb:Bt 2600 b
 vl:∃ V,Bt 110 V/\t<=V*b
def RwA.big {t b:Int}(h:RwA t b)(V:Int)(bV:Bt 100 V)(l:t<=V*b):RwL t b:=⟨h.am,h.bt.mono (by decide),h.bb.mono (by decide),V,bV.mono (by decide),l⟩
def sk (M b:Int):Int:=b/G M b
def nF (M t b:Int):Int:=t*(M*sk M b/b)
def eI {M b:Int}(b1:1<=b):0<sk M b:=by
 have g:=jJ (a:=M) (b:=b) (by omega);have l:=sJ (a:=M) (b:=b) (by omega);unfold sk;exact Int.lt_of_lt_of_le (by decide:(0:Int)<1) ((EF g).mpr (by omega))
theorem aBe {M b:Int}(b1:1<=b):b∣M*sk M b:=by
 obtain ⟨m,hm⟩:=gR M b;obtain ⟨c,hc⟩:=gQ M b;have g:=jJ (a:=M) (b:=b) (by omega);have e:sk M b=c:=by
  unfold sk
  conv=>lhs;lhs;rw [hc]
  exact Dw _ (by omega)
 rw [e];refine ⟨m,?_⟩
 conv=>lhs;lhs;rw [hm]
 conv=>rhs;lhs;rw [hc]
 grind
def aHn {M b c:Int}{γ:Nat}(b1:1<=b)(h:b∣M*c)(c0:0<c)(bc:Bt γ c):Bt γ (sk M b):=by
 have g:=jJ (a:=M) (b:=b) (by omega);have gi:0<Int.gcd M b:=by
  unfold G at g;omega
 have k0:=eI (M:=M) b1;have d:sk M b∣c:=by
  have e:b/G M b∣M/G M b*c:=by
   obtain ⟨x,hx⟩:=h;obtain ⟨m,hm⟩:=gR M b;obtain ⟨y,hy⟩:=gQ M b;have g0:G M b≠0:=by omega
   generalize G M b=q at *
   subst hm hy;rw [Dw _ g0,Dw _ g0];refine ⟨x,Int.eq_of_mul_eq_mul_left g0 ?_⟩
   grind
  have cp:Int.gcd (b/G M b) (M/G M b)=1:=by
   unfold G;rw [Int.gcd_comm];exact Int.gcd_ediv_gcd_ediv_gcd gi
  have:=Int.dvd_gcd_mul_iff_dvd_mul.mpr e;rw [cp] at this
  simpa [sk] using this
 exact bc.le (by omega) (Fg c0 d)
def aHm {M b:Int}(b1:1<=b):sk M b<=b:=BI _ (by omega)
def pI {M t b:Int}(a:Amt t b):Fr (M*sk M b) t b (nF M t b):=by
 refine ⟨a,?_⟩;unfold nF;rw [Bp,DD (aBe a.b1)]
def aGd {M t b:Int}(M0:0<M)(a:Amt t b)(t1:1<=t):0<nF M t b:=by
 have b1:=a.b1;have e:=(pI (M:=M) a).e;have k0:=Ba M0 (eI (M:=M) b1);have h:=Ba (show 0<t by omega) k0;rw [e] at h;exact Int.pos_of_mul_pos_left h (by omega)
def aGe {M t b:Int}(M0:0<M)(a:Amt t b):0<=nF M t b:=(pI (M:=M) a).nonneg (Ba M0 (eI a.b1))
def aH7 {M t b V:Int}(M0:0<M)(a:Amt t b)(h:t<=V*b):nF M t b<=V*(M*sk M b):=by
 have b1:=a.b1;have e:=(pI (M:=M) a).e;have k0:=Ba M0 (eI (M:=M) b1);have h2:=BD h (Er k0);rw [e,AJ] at h2;exact Eb h2 (by omega)
def aAn {M t b:Int}{β γ:Nat}(M0:0<M)(h:RwL t b)(bM:Bt β M)(bs:Bt γ (sk M b)):Bt (110+(β+γ)) (nF M t b):=by
 obtain ⟨V,bV,l⟩:=h.vl;exact (bV.mul (bM.mul bs)).le (aGe M0 h.am) (aH7 M0 h.am l)
def aD5 {M t b T:Int}(M0:0<M)(a:Amt t b):(T*b<t*M)↔(T*sk M b<nF M t b):=by
 have b1:=a.b1;have e:=(pI (M:=M) a).e;have k0:=eI (M:=M) b1;have b0:(0:Int)<b:=by omega
 have h1:T*b<t*M↔T*b*sk M b<t*M*sk M b:=(Du k0).symm;have h2:T*sk M b<nF M t b↔T*sk M b*b<nF M t b*b:=(Du b0).symm;rw [h1,h2,show t*M*sk M b=nF M t b*b by rw [<- e,Bp],show T*b*sk M b=T*sk M b*b by rw [AJ]]
def xP {M t b tl bl T:Int}(M0:0<M)(a:Amt t b)(frl:Fr M tl bl T)(c:T*b<t*M):tl*b<=t*bl/\Fr (M*sk M b) ((t*bl-tl*b)/G (t*bl-tl*b) (b*bl)) (b*bl/G (t*bl-tl*b) (b*bl)) (nF M t b-T*sk M b):=by
 have b1:=a.b1;have b0:0<b:=by omega
 have k0:=eI (M:=M) b1;have f1:Fr b t b t:=⟨a,by rw [BZ]⟩;obtain ⟨le,fo⟩:=iE (M1:=b) (M2:=M) b0 M0 f1 frl (by omega);have e:=(pI (M:=M) a).e;refine ⟨le,iD fo (Ba b0 M0) ?_⟩;generalize nF M t b=N at *
 generalize sk M b=k at *
 grind
theorem RmL.at (h:RmL H rs rbs){i:Nat}{rb:Int×Int}(hr:rbs[i]?=some rb):Rm rb.1 rb.2:=by
 obtain ⟨v,hv⟩:∃ v,rs[i]?=some v:=⟨_,Ad (by rw [h.1];exact (Ae.mp hr).1)⟩;obtain ⟨_,_,_,rm⟩:=h.2 i v rb hv hr;exact rm
def aGf {K:Aa}{H:Hp}{b r q l cm nm pr qa:Addr}{rs us:List V}{ps:List (Str×Str)}{rbs:List (Int×Int)}{ws:List Str}{M:Int}{S:List PF}{β i:Nat}{d:PF}{rb:Int×Int}{x:Str}{t t' b':Int}
  (o:OnIn H b r q l rs us ps rbs ws M S β) (hd:S[i]?=some d) (hr:rbs[i]?=some rb) (xw:x∈ws) (hM:b'∣M*t') (am:Amt t b') (t0:0<t') (bt:Bt 2800 (NW (M*t') [(x,t,b')] x)) (bt':Bt 200 t')
  (hc:H cm=some (.tup [.ref pr])) (hp:H pr=some (.tup [.str x,.ref qa])) (hq:H qa=some (.tup [.int t,.int b'])) (hn:H nm=some (.tup [.str x])) :
  MoreIn K H b r q l cm nm rs us ps rbs ws (M*t') (scl t' S) i (λy=>d.1 y*t',d.2) rb [.ref pr] [(x,t,b')] [x]:=by
 have rm:=o.bs.rm.at hr;obtain ⟨n0,sm⟩:=o.so.small hd hr rm;have b24:=o.b24;have ss:=o.so.scale t0 bt';refine ⟨o.bs.bn,o.bs.rm,o.bs.ww,o.st.scale o.so.m0 t0,by unfold scl;rw [Ag,o.so.sl];exact o.bs.rm.1.symm,ss.ok,fJ hd,hr,hc,.cons ⟨pr,qa,rfl,hp,hq⟩ .nil,λz hz=>?_,λz hz=>?_,(by show 1<=6;decide),hn,λz hz=>?_,(by show 1<=20;decide),Ba o.so.m0 t0,(o.so.bm.mul bt').mono (by omega),?_⟩
 ·rw [AB.mp hz]
  exact ⟨am,hM⟩
 ·rw [AB.mp hz]
  exact xw
 ·rw [AB.mp hz]
  exact xw
 ·have e:tot ws (λy=>d.1 y*t'+NW (M*t') [(x,t,b')] y)=tot ws d.1*t'+NW (M*t') [(x,t,b')] x:=by
   rw [iH (λy=>d.1 y*t') (NW (M*t') [(x,t,b')]) ws,gF];have:NW (M*t') [(x,t,b')]=oneW x (NW (M*t') [(x,t,b')] x):=funext λy=>by
    unfold oneW;split
    ·rename_i h;rw [h]
    ·rename_i h;exact eP (by simpa using λe=>h e.symm)
   conv=>lhs;rw [this]
   rw [oR o.bs.ww.nd xw]
  show Bt 2900 (tot ws (λy=>d.1 y*t'+NW (M*t') [(x,t,b')] y));rw [e];have h1:Bt 2800 (tot ws d.1*t'):=(sm.mul bt').mono (by omega);exact (h1.add (bt.mono (by decide))).mono (by decide)
def uT (C c3 c4:Addr):Sp:=λvs H Q E=>∃ p dx b r q l qa rs us ps rbs ws M S β i d rb x t b' n,vs=[.ref p,.ref b,.ref l,.int (n:Nat)]/\n<1000/\H p=some (.ins C dx (fs3 "phial" "ware" "amount" (.int (i:Nat)) (.str x) (.ref qa)))/\H qa=some (.tup [.int t,.int b'])/\RwL t b'/\Bt 200 (sk M b')/\x∈ws/\OnIn H b r q l rs us ps rbs ws M S β/\S[i]?=some d/\rbs[i]?=some rb /\
 IntoR c3 c4 us ps ws (M*sk M b') (scl (sk M b') S) i (λy=>d.1 y*sk M b',d.2) rb (oneW x (nF M t b')) [x] n H Q E
def rJ {M:Int}:IsMx M (λ_=>0) []:=⟨.nil,.nil,λy=>by simp,λp h=>nomatch h⟩
def lJ {M:Int}{f:Str->Int}(mx:IsMx M f ys):ys=[]↔∀ y,f y=0:=by
 constructor
 ·rintro rfl y
  exact BG λh=>nomatch (mx.mem y).mpr h
 ·intro h
  cases ys with
  |nil=>rfl
  |cons x r=>exact absurd (h x.1) ((mx.mem x.1).mp (by simp))
section
variable {P:Az}{w:World}{K:Aa}{mg:Str->Option Value}{base:Heap}{cP c0 c1 c2 c3 c4 c5 f1 f3 f4 C:Addr}
abbrev Non:List Str:=["self","bench","phials","place"]
def aCx:FnScope Non Non (aI qS):=fnScOk (by decide +kernel)
def zZ {f:Addr}{fd:Bf}(F:Fun K "onto_at" "Draw.onto_at" qS f fd)(D:DCl K C ["phial","ware","amount"])(cM:Cal P w K mg base (CXg P w) 6 "with_more" ["bench","phials","phial","comes","names","place"] (qM K c3 c4)):FnOk P w K mg base (CXg P w) 7 f fd Non (uT C c3 c4):=by
 refine F.okF aCx (λvs H Q E h=>?_) (λcdv A outer s H vs Q E hr h=>?_)
 ·obtain ⟨_,_,_,_,_,_,_,_,_,_,_,_,_,_,_,_,_,_,_,_,_,_,rfl,_⟩:=h
  rfl
 ·obtain ⟨p,dx,b,r,q,l,qa,rs,us,ps,rbs,ws,M,S,β,i,d,rb,x,t,b',n,rfl,hn,hp,hqa,ra,bs,xw,o,hd,hrb,kI⟩:=h
  refine ⟨_,aG (aL (aJ cM hr rfl mY (aA (pv 1) (aA (pv 2) (aA (eX (pv 0) rfl) (aA (aW (aA (aW (aA (eX (pv 0) rfl) (aA (eX (pv 0) rfl) aC))) aC)) (aA (aW (aA (eX (pv 0) rfl) aC)) (aA (pv 3) aC)))))))),?_⟩;have F1:=aGr (f1:="phial") (f2:="ware") (f3:="amount") (u1:=.int (i:Nat)) (u2:=.str x) (u3:=.ref qa) (by decide +kernel) (by decide +kernel);have F2:=aGq (f1:="phial") (f2:="ware") (f3:="amount") (u1:=.int (i:Nat)) (u2:=.str x) (u3:=.ref qa) (by decide +kernel);have F3:=aGp (f1:="phial") (f2:="ware") (f3:="amount") (u1:=.int (i:Nat)) (u2:=.str x) (u3:=.ref qa);refine ⟨_,rfl,_,rfl,_,rfl,p,C,dx,_,_,rfl,hp,D.cl,D.na _ (by simp),F1,_,rfl,p,C,dx,_,_,rfl,hp,D.cl,D.na _ (by simp),F2,_,rfl,p,C,dx,_,_,rfl,hp,D.cl,D.na _ (by simp),F3,zLn2,λpr npr=>⟨zLn1,λcm ncm=>?_⟩⟩;have s1:=Same.upd (o:=.tup [.str x,.ref qa]) npr;have s2:=Same.upd (o:=.tup [.ref pr]) ncm;refine ⟨_,rfl,p,C,dx,_,_,rfl,(s1.trans s2) _ _ hp,D.cl,D.na _ (by simp),F2,zLn1,λnm nnm=>⟨_,rfl,?_⟩⟩;have s3:=Same.upd (o:=.tup [.str x]) nnm;have s03:=(s1.trans s2).trans s3;have b0:0<b':=by have:=ra.am.b1;omega
  have k0:=eI (M:=M) ra.am.b1;have M0:=o.so.m0;have Mk:=Ba M0 k0;have e:NW (M*sk M b') [(x,t,b')]=oneW x (nF M t b'):=nw1 Mk (pI ra.am);have kI':=(kI.mono s03);rw [<- e] at kI';refine ⟨b,r,q,l,cm,nm,rs,us,ps,rbs,ws,M*sk M b',scl (sk M b') S,i,_,rb,[.ref pr],[(x,t,b')],[x],n,rfl,hn,aGf (o.keep s03) hd hrb xw (aBe ra.am.b1) ra.am k0 ?_ bs (s3 _ _ aB) ((s2.trans s3) _ _ aB) (s03 _ _ hqa) aB,kI'.1,kI'.2⟩;rw [e];unfold oneW;rw [if_pos rfl];have b24:=o.b24;exact (aAn M0 ra o.so.bm bs).mono (by omega)
end
end K33
namespace L2
open PySem PySem.Spec PyProof.Rows
def aE1 (m:Str)(Cs:List (Addr×Sp))(E:XK)(ta:TE)(t:TA):TE:=λσ H Q=>ta σ H λx H1=>∃ C sp a dx fs,(C,sp)∈Cs/\x=.ref a/\H1 a=some (.ins C dx fs)/\fs.lookup m=none/\t σ H1 λys H2=>sp (x::ys) H2 Q E
def aFv {k:Nat}(hC:∀ c∈Cs,Cls X.K c.1/\MCal X.prog X.w X.K X.mg X.base CX k c.1 m ps c.2)(hr:Room k X.A)(hx:hJ CX X E)(he:PE X o ta)(ha:PA X (e::es) t)(hst:AU (e::es) X.env=(false,eval e X.env)::AU es X.env:=by rfl)(hpl:(backTo pos (AU es X.env)).any (·.1)=false:=by rfl)(ht:eval (.Call (.Attribute o m apos) (e::es) [] pos) X.env=(do
   let ov <- eval o X.env
   standAt apos.atName
   let (f,first) <- holding [ov] (getMethod ov m pl)
   callWith pos f first (backTo pos (AU (e::es) X.env)) (backToKw pos (keywordEach [] X.env))):=by rfl) :
  PE X (.Call (.Attribute o m apos) (e::es) [] pos) (aE1 m Cs E ta t):=by
 intro pins s σ H Q I h;refine PySem.W.methodCall_KW (pl:=pl) (thn (he pins s σ H _ I h) λu s1 ⟨x,H1,I1,rx,C,sp,a,dx,fs,hm,ex,ea,l,q⟩=>?_) ht;subst ex;obtain rfl:u=AD a:=rx;obtain ⟨c,M⟩:=hC _ hm;obtain ⟨f,fd,hm',b,F⟩:=M;refine tT I1 ea c hm' l ?_;refine En (first:=[.ref a]) (h₀:=X.base) I.ok.mod.kin hm'.kp (thn (ha pos pins s1 σ H1 _ I1 q) λus s2 ⟨vs,H2,I2,r,q2⟩=>⟨I2.kIn,?_⟩) hst hpl;exact aBi (us:=.ref a::us) (vs:=.ref a::vs) (dvs:=[]) F hr b .nil hx I2 (.cons rfl r) (by rw [Cb];exact q2)
end L2
namespace K33
open PySem PySem.Spec PyProof.Rows L2 GM TM
inductive Rw where
 |draw (i:Nat) (x:Str) (t b:Int)
 |fill (i:Nat) (x:Str) (t b:Int)
 |pour (i j:Nat) (t b:Int)
 |empty (i:Nat)
 |rinse (i:Nat)
def RwV (H:Hp)(a:Addr):Rw->Prop
 |.draw i x t b=>∃ q,H a=some (.tup [.str "draw",.int ((i:Nat):Int),.str x,.ref q])/\H q=some (.tup [.int t,.int b])
 |.fill i x t b=>∃ q,H a=some (.tup [.str "fill",.int ((i:Nat):Int),.str x,.ref q])/\H q=some (.tup [.int t,.int b])
 |.pour i j t b=>∃ q,H a=some (.tup [.str "pour",.int ((i:Nat):Int),.int ((j:Nat):Int),.ref q])/\H q=some (.tup [.int t,.int b])
 |.empty i=>H a=some (.tup [.str "empty",.int ((i:Nat):Int)])
 |.rinse i=>H a=some (.tup [.str "rinse",.int ((i:Nat):Int)])
def RwV.keep {r:Rw}(s:Same H H')(h:RwV H a r):RwV H' a r:=by
 cases r with
 |draw i x t b=>obtain ⟨q,h1,h2⟩:=h;exact ⟨q,s _ _ h1,s _ _ h2⟩
 |fill i x t b=>obtain ⟨q,h1,h2⟩:=h;exact ⟨q,s _ _ h1,s _ _ h2⟩
 |pour i j t b=>obtain ⟨q,h1,h2⟩:=h;exact ⟨q,s _ _ h1,s _ _ h2⟩
 |empty i=>exact s _ _ h
 |rinse i=>exact s _ _ h
def GoodR (nb:Nat)(ws:List Str):Rw->Prop
 |.draw i x t b=>i<nb/\x∈ws/\RwL t b/\1<=t
 |.fill i x t b=>i<nb/\x∈ws/\RwL t b
 |.pour i j t b=>i<nb/\j<nb/\i≠j/\RwA t b/\1<=t/\t<=b
 |.empty i=>i<nb
 |.rinse i=>i<nb
def ph_k {K:Aa}{H:Hp}{nb i:Nat}(h:i<nb):KindV K H nb "phial" (.int ((i:Nat):Int)) true:=by
 have:=KindV.ph (K:=K) (H:=H) (nb:=nb) (n:=((i:Nat):Int));rwa [show (decide ((0:Int)<=((i:Nat):Int))&&decide (((i:Nat):Int)<((nb:Nat):Int)))=true by rw [decide_eq_true (by omega),decide_eq_true (by omega)];rfl] at this
def wa_k {K:Aa}{H:Hp}{nb:Nat}{x:Str}(h:Wr x):KindV K H nb "ware" (.str x) true:=by
 have:=KindV.wa (K:=K) (H:=H) (nb:=nb) (x:=x) (by have:=h.l8;omega);rwa [decide_eq_true h] at this
def amG {K:Aa}{H:Hp}{q:Addr}{t b:Int}(h:Amt t b)(hq:H q=some (.tup [.int t,.int b])):AmG K H q t b:=⟨SqT.of hq,h.t0,h.b1,h.g⟩
def aEh {K:Aa}{H:Hp}{nb:Nat}{k1 k2 k3:Str}{u1 u2 u3:V}(h1:KindV K H nb k1 u1 true)(h2:KindV K H nb k2 u2 true)(h3:KindV K H nb k3 u3 true):aEs K H nb [k1,k2,k3] [u1,u2,u3] [true,true,true]:=by
 refine ⟨rfl,rfl,λi k u β hk hu hβ=>?_⟩
 match i,hk,hu,hβ with
 |0,hk,hu,hβ=>cases hk;cases hu;cases hβ;exact h1
 |1,hk,hu,hβ=>cases hk;cases hu;cases hβ;exact h2
 |2,hk,hu,hβ=>cases hk;cases hu;cases hβ;exact h3
 |i+3,hk,_,_=>simp at hk
def aGw {K:Aa}{H:Hp}{nb:Nat}{k1:Str}{u1:V}(h1:KindV K H nb k1 u1 true):aEs K H nb [k1] [u1] [true]:=by
 refine ⟨rfl,rfl,λi k u β hk hu hβ=>?_⟩
 match i,hk,hu,hβ with
 |0,hk,hu,hβ=>cases hk;cases hu;cases hβ;exact h1
 |i+1,hk,_,_=>simp at hk
def RwV.row {K:Aa}{H:Hp}{a:Addr}{r:Rw}{nb:Nat}{ws:List Str}(h:RwV H a r)(g:GoodR nb ws r)(ww:Wss ws):RowV K H nb (.ref a) true:=by
 have ne:∀ {t b:Int},1<=t->(!decide ([t,b]=[0,1]))=true:=λ{t b} h=>by
  rw [decide_eq_false (λe=>by injection e with e _;omega)];rfl
 cases r with
 |draw i x t b=>
  obtain ⟨q,h1,h2⟩:=h;obtain ⟨g1,g2,g3,g4⟩:=g;have m:=KindV.mu (nb:=nb) (amG (K:=K) g3.am h2);rw [ne g4] at m;exact .big (ks:=["phial","ware","amount"]) h1 (by decide +kernel) (aEh (ph_k g1) (wa_k (ww.w x g2)) m) (λe=>by cases e) (λ_=>.inl ⟨by decide +kernel,rfl⟩)
 |fill i x t b=>
  obtain ⟨q,h1,h2⟩:=h;obtain ⟨g1,g2,g3⟩:=g;exact .big (ks:=["phial","ware","level"]) h1 (by decide +kernel) (aEh (ph_k g1) (wa_k (ww.w x g2)) (.lv (amG g3.am h2))) (λe=>by cases e) (λ_=>.inl ⟨by decide +kernel,rfl⟩)
 |pour i j t b=>
  obtain ⟨q,h1,h2⟩:=h;obtain ⟨g1,g2,g3,g4,g5,g6⟩:=g;have m:=KindV.pa (nb:=nb) (amG (K:=K) g4.am h2);rw [ne g5,decide_eq_false (by omega:¬ b<t)] at m;refine .big (ks:=["phial","phial","part"]) h1 (by decide +kernel) (aEh (ph_k g1) (ph_k g2) m) (λe=>by cases e) (λ_=>.inr ⟨by decide +kernel,_,_,_,rfl,?_⟩);rw [decide_eq_false (λe=>g3 (by injection e with e;omega))];rfl
 |empty i=>exact .big (ks:=["phial"]) h (by decide +kernel) (aGw (ph_k g)) (λe=>by cases e) (λ_=>.inl ⟨by decide +kernel,rfl⟩)
 |rinse i=>exact .big (ks:=["phial"]) h (by decide +kernel) (aGw (ph_k g)) (λe=>by cases e) (λ_=>.inl ⟨by decide +kernel,rfl⟩)
def ScR (M:Int):Rw->Prop
 |.draw _ _ _ b=>Bt 200 (sk M b)
 |.fill _ _ _ b=>Bt 200 (sk M b)
 |_=>True
def aG8 (hd:H d=some (.dK kvs))(s:Same (upd H d (.frz ob (.dK kvs))) H2):Same H (upd H2 d (.dK kvs)):=λb o e=>by
 by_cases n:b=d
 ·subst n
  rw [hd] at e;rw [aB];exact e
 ·rw [aH n]
  exact s b o (by rw [aH n];exact e)
def aBw {ks:List Str}{kvs:List (Key×V)}{i:Nat}{kv:Key×V}(h:kvs.map (·.1)=ks.map AN)(hk:kvs[i]?=some kv):∃ y,ks[i]?=some y/\kv.1=AN y:=by
 have e:=congrArg (λl=>l[i]?) h;simp only [As,hk,Dq] at e;cases q:ks[i]? with
 |none=>rw [q] at e;cases e
 |some y=>rw [q] at e;exact ⟨y,rfl,AK e⟩
def sV (K:Aa):Sp:=λvs H Q _=>∃ d kvs ks M xs,vs=[.ref d]/\H d=some (.dK kvs)/\DA H M xs kvs ks/\0<M/\Bt 2900 M/\Over M xs/\Bt 2900 (sumN M xs)/\∀ f t b H',Same H H'->H' f=some (.tup [.int t,.int b])->Fr M t b (sumN M xs)->Q (.ref f) H'
theorem kK (f:Str->Int)(nn:∀ y,0<=f y):∀ (ks:List Str) (i:Nat),((ks.take i).map f).sum<=(ks.map f).sum/\0<=((ks.take i).map f).sum
 |[],i=>by simp
 |y::r,0=>by
  have h:=kK f nn r r.length;rw [BH] at h;have:=nn y;simp only [List.take_zero,List.map_nil,List.sum_nil,Al,AL];exact ⟨by omega,DS _⟩
 |y::r,i+1=>by
  have h:=kK f nn r i;have:=nn y;rw [List.take_succ_cons,Al,Al,AL,AL];exact ⟨by omega,by omega⟩
def aEr {M:Int}(hM:0<M)(h:Over M xs)(y:Str):0<=NW M xs y:=by
 have:=(uE hM h xs.length y).1;rwa [BH] at this
section
variable {P:Az}{w:World}{K:Aa}{mg:Str->Option Value}{base:Heap}
def zC:FnScope ["_law_held","_law_found","_law_ware"] ["_law_held"] (aI sSum):=fnScOk (by decide +kernel)
def aF1 {f:Addr}{fd:Bf}(F:Fun K "_law_sum" "_law_sum" sSum f fd)(cA:Cal P w K mg base CX0 2 "_law_add" ["_law_one","_law_other"] (sX K)):FnOk P w K mg base CX0 3 f fd ["_law_held"] (sV K):=by
 refine F.ok zC (λvs H Q E h=>?_) (λcdv A outer s H vs Q E hr h=>?_)
 ·obtain ⟨_,_,_,_,_,rfl,_⟩:=h
  rfl
 ·obtain ⟨d,kvs,ks,M,xs,rfl,hd,da,M0,bM,ov,bS,k⟩:=h
  refine ⟨_,(aD (aM (i:=1) zC.nd rfl (Or.inl rfl) (aW (aA aE (aA aE aC))))
   (aD (vG (dN AV rfl (vR (pv 0)) (bA (i:=2) zC.nd rfl (Or.inl rfl))
    (aG (aM (i:=1) zC.nd rfl (Or.inl rfl) (aJ cA hr rfl aQ (aA (pv 1) (aA (iU (jK hr) (pv 0) (pv 2) (λ_ _=>rfl)) aC)))))))
   (aG (aL (pv 1))))),?_⟩
  refine cut3 ?_
  intros
  refine ⟨zLn2,λz nz=>?_⟩;have s1:=Same.upd (o:=.tup [.int 0,.int 1]) nz;have hz:upd H z (.tup [.int 0,.int 1]) z=some (.tup [.int 0,.int 1]):=aB;generalize upd H z (.tup [.int 0,.int 1])=H1 at s1 hz ⊢;have hd1:=s1 _ _ hd;have da1:=da.keep s1.tk;have tkd:Tk H1 (upd H1 d (.frz (default:Obj) (.dK kvs))):=Tk.dk hd1;refine ⟨_,rfl,d,kvs,rfl,hd1,λob=>?_⟩;have tk:Tk H1 (upd H1 d (.frz ob (.dK kvs))):=Tk.dk hd1;have kl:ks.length=kvs.length:=by have:=congrArg List.length da.1.keys;simpa using this.symm
  have nw:=λy=>aEr M0 ov y;have tot':(ks.map (NW M xs)).sum=sumN M xs:=oO da.1.nd λx hx=>(da.2.1 x.1).mpr (Cy hx);refine nP (λi σ H'=>∃ (v2:Option V) (p:Addr) (t b:Int),σ=[some (.ref d),some (.ref p),v2]/\Same (upd H1 d (.frz ob (.dK kvs))) H'/\H' p=some (.tup [.int t,.int b])/\Fr M t b ((ks.take i).map (NW M xs)).sum) ⟨none,z,0,1,rfl,Same.refl _,tk _ _ hz,Fr.zero⟩ ?_ ?_ ?_
  ·rintro i σ H' _ ⟨_,_,_,_,rfl,sm,_⟩
   exact sm _ _ aB
  ·rintro i kv σ H2 D' hN hkv ⟨v2,p,t,b,rfl,s2,hp,fr⟩
   obtain ⟨y,hy,ek⟩:=aBw da.1.keys hkv;rw [ek];obtain ⟨q,t2,b2,e1,e2,e3⟩:=da1.2.2 y (Av hy);have dg:DGet H2 d (.str y) (some (.ref q)):=.inl ⟨kvs,.inr y,.inr ⟨ob,s2 _ _ aB⟩,rfl,e1.symm⟩;have st:=kK (NW M xs) nw ks i;have sy:0<=NW M xs y/\NW M xs y<=sumN M xs:=by
    have:=uE M0 ov xs.length y;rwa [BH] at this
   have f1:=dQ M0 fr;have f2:=dQ M0 e3;have tw:Tw K H2 p q t b t2 b2:=⟨SqT.of hp,SqT.of (s2 _ _ (tk _ _ e2)),fr.am,e3.am,(bS.le fr.am.t0 (by omega)).mono (by decide),(bM.le (by have:=fr.am.b1;omega) f1.2).mono (by decide),(bS.le e3.am.t0 (by omega)).mono (by decide),(bM.le (by have:=e3.am.b1;omega) f2.2).mono (by decide)⟩;refine ⟨_,rfl,_,rfl,_,rfl,d,_,rfl,dg,p,q,t,b,t2,b2,rfl,tw,λr H3 s3 h3=>?_⟩;refine hN _ _ ⟨_,r,_,_,rfl,s2.trans s3,h3,?_⟩;have e:((ks.take (i+1)).map (NW M xs)).sum=((ks.take i).map (NW M xs)).sum+NW M xs y:=by
    rw [CQ,hy,Bs,Fh];simp
   rw [e];exact fr.plus e3
  ·rintro σ H2 ⟨v2,p,t,b,rfl,s2,hp,fr⟩
   refine ⟨d,ob,kvs,s2 _ _ aB,(λo u z=>by have z':H d=some (.frz o u):=z;rw [hd] at z';cases z'),?_⟩;have pd:p≠d:=λe=>by rw [e,s2 _ _ aB] at hp;cases hp
   rw [<- kl,BH,tot'] at fr;exact ⟨_,rfl,k p t b _ (s1.trans (aG8 hd1 s2)) (by rw [aH pd];exact hp) fr⟩
end
def lW:Cd "dict" = some (.type "dict"):=by decide +kernel
def kH (nd:(kvs.map (·.1)).Nodup){kv:Key×V}(h:kv∈kvs):valV kvs kv.1=some kv.2:=by
 induction kvs with
 |nil=>cases h
 |cons x r ih=>
  rw [Al] at nd;have nd':=BO.mp nd;unfold valV
  rcases AE.mp h with e|hm
  ·subst e
   simp
  ·have ne:¬ x.1=kv.1:=λe=>nd'.1 (e▸Cy hm)
   have:=ih nd'.2 hm;unfold valV at this;rw [Ds,decide_eq_false ne];exact this
def vI (h:PrL H us ys):∃ kvs:List (Key×V),us.length=kvs.length/\kvs.map (·.1)=(ys.map (·.1)).map AN/\(∀ (i:Nat) u kv,us[i]?=some u->kvs[i]?=some kv->∃ z,u=.ref z/\H z=some (.tup [kV kv.1,kv.2])) /\
  ∀ y∈ys,∃ q,(AN y.1,V.ref q)∈kvs/\H q=some (.tup [.int y.2.1,.int y.2.2]):=by
 induction h with
 |nil=>exact ⟨[],rfl,rfl,λi u kv h=>by simp at h,λy h=>nomatch h⟩
 |@cons v x vs xs p _ ih=>
  obtain ⟨kvs,h1,h2,h3,h4⟩:=ih;obtain ⟨a,q,rfl,ha,hq⟩:=p;refine ⟨(AN x.1,.ref q)::kvs,by rw [AI,AI,h1],by rw [Al,Al,Al,h2],λi u kv hu hk=>?_,λy hy=>?_⟩
  ·cases i with
   |zero=>cases hu;cases hk;exact ⟨a,rfl,ha⟩
   |succ i=>exact h3 i u kv (by simpa using hu) (by simpa using hk)
  ·rcases AE.mp hy with rfl|hy
   ·exact ⟨q,Au ..,hq⟩
   ·obtain ⟨q',m,e⟩:=h4 y hy
    exact ⟨q',Aj _ m,e⟩
theorem rX {H:Hp}{M:Int}{cs:List (Str×Int×Int)}{kvs:List (Key×V)}:∀ {ks:List Str},(∀ y∈ks,∃ (p:Addr) (t b:Int),valV kvs (AN y)=some (.ref p)/\H p=some (.tup [.int t,.int b])/\Fr M t b (NW M cs y)) ->
  ∃ es:List (Str×Int×Int),es.map (·.1)=ks/\∀ e∈es,∃ q,valV kvs (AN e.1)=some (.ref q)/\H q=some (.tup [.int e.2.1,.int e.2.2])/\Fr M e.2.1 e.2.2 (NW M cs e.1)
 |[],_=>⟨[],rfl,λe h=>nomatch h⟩
 |y::r,h=>by
  obtain ⟨es,h1,h2⟩:=rX (ks:=r) λz hz=>h z (Aj _ hz);obtain ⟨p,t,b,e1,e2,e3⟩:=h y (Au ..);refine ⟨(y,t,b)::es,by rw [Al,h1],λe he=>?_⟩
  rcases AE.mp he with rfl|he
  ·exact ⟨p,e1,e2,e3⟩
  ·exact h2 e he
theorem lH {M:Int}(hM:0<M){f:Str->Int}:∀ {es:List (Str×Int×Int)},(es.map (·.1)).Nodup->(∀ e∈es,Fr M e.2.1 e.2.2 (f e.1))->∀ y,NW M es y=if y∈es.map (·.1) then f y else 0
 |[],_,_,y=>by rw [if_neg (by simp)];exact eP (by simp)
 |e::r,nd,h,y=>by
  rw [Al] at nd;have nd':=BO.mp nd;have ih:=lH hM nd'.2 (λz hz=>h z (Aj _ hz)) y;rw [mB,ih];have n:=rH (x:=e.1) hM (h e (Au ..));have n':nOf M e=f e.1:=n
  by_cases c:e.1=y
  ·subst c
   rw [if_pos rfl,if_neg nd'.1,if_pos (by simp),n',Int.add_zero]
  ·rw [if_neg c,Int.zero_add]
   by_cases c2:y∈r.map (·.1)
   ·rw [if_pos c2,if_pos (by rw [Al];exact Aj _ c2)]
   ·rw [if_neg c2,if_neg (by rw [Al];exact λz=>(AE.mp z).elim (λz=>c z.symm) c2)]
theorem aEy:∀ {kvs:List (Key×V)} {ks:List Str},kvs.map (·.1)=ks.map AN->∃ zs:List (Str×V),kvs=txK zs/\zs.map (·.1)=ks
 |[],[],_=>⟨[],rfl,rfl⟩
 |[],_::_,h=>by simp at h
 |_::_,[],h=>by simp at h
 |kv::r,k::ks,h=>by
  rw [Al,Al] at h;injection h with h1 h2;obtain ⟨zs,e1,e2⟩:=aEy h2;refine ⟨(k,kv.2)::zs,?_,by rw [Al,e2]⟩;rw [e1];show kv::txK zs=(AN k,kv.2)::txK zs;rw [<- h1]
theorem rO {M:Int}:∀ {as:List Addr} {zs:List (Str×V)},as.length=zs.length->(∀ a z,(a,z)∈as.zip zs->H a=some (.tup [.str z.1,z.2]))->(∀ z∈zs,∃ q t b,z.2=.ref q/\H q=some (.tup [.int t,.int b])/\Fr M t b (NW M X z.1)) ->
  ∃ ys:List (Str×Int×Int),PrL H (as.map V.ref) ys/\ys.map (·.1)=zs.map (·.1)/\∀ y∈ys,Fr M y.2.1 y.2.2 (NW M X y.1)
 |[],[],_,_,_=>⟨[],.nil,rfl,λy h=>nomatch h⟩
 |[],_::_,h,_,_=>by simp at h
 |_::_,[],h,_,_=>by simp at h
 |a::as,z::zs,h,h1,h2=>by
  obtain ⟨ys,e1,e2,e3⟩:=rO (as:=as) (zs:=zs) (by simpa using h) (λa' z' m=>h1 a' z' (by rw [BY];exact Aj _ m)) λz' m=>h2 z' (Aj _ m);obtain ⟨q,t,b,f1,f2,f3⟩:=h2 z (Au ..);have f4:=h1 a z (by rw [BY];exact Au ..);rw [f1] at f4;refine ⟨(z.1,t,b)::ys,.cons ⟨a,q,rfl,f4,f2⟩ e1,by rw [Al,Al,e2],λy hy=>?_⟩
  rcases AE.mp hy with rfl|hy
  ·exact f3
  ·exact e3 y hy
structure LawIn (K:Aa)(H:Hp)(b r q l dm nm:Addr)(rs us:List V)(ps:List (Str×Str))(rbs:List (Int×Int))(ws:List Str)(M:Int)(S:List PF)(i:Nat)(d:PF)(rb:Int×Int)(kvm:List (Key×V))(ksm:List Str)(cs:List (Str×Int×Int))(xs:List Str):Prop where
 bs:BS H b r q rs us ps rbs ws
 st:StV H l M S
 sl:S.length=rs.length
 ok:∀ d∈S,Okf ws d
 di:S[i]?=some d
 rbi:rbs[i]?=some rb
 hm:H dm=some (.dK kvm)
 da:DA H M cs kvm ksm
 oc:Over M cs
 cw:∀ x∈cs,x.1∈ws
 cp:∀ y∈ksm,0<NW M cs y
 hn:SqL K H nm (xs.map V.str)\/SqT K H nm (xs.map V.str)
 xw:∀ x∈xs,x∈ws
 xl:xs.length<=20
 m0:0<M
 bm:Bt 2900 M
 bS:Bt 2900 (tot ws (λy=>d.1 y+NW M cs y))
def IntoL (us:List V)(ps:List (Str×Str))(ws:List Str)(M:Int)(S:List PF)(i:Nat)(d:PF)(rb:Int×Int)(add:Str->Int)(xs:List Str)(H:Hp)(Q:VK):Prop:=
 (rb.1*M<tot ws (λy=>d.1 y+add y)*rb.2->∀ z t3 a t b H',Same H H'->H' z=some (.tup [.ref t3,.non])->H' t3=some (.tup [.str "spilt",.int ((i:Nat):Int),.ref a])->H' a=some (.tup [.int t,.int b])->Fr (M*rb.2) t b (tot ws (λy=>d.1 y+add y)*rb.2-rb.1*M)->Q (.ref z) H') /\
 (¬ rb.1*M<tot ws (λy=>d.1 y+add y)*rb.2->∀ nm',NmU d.2 xs nm'->(∀ pa,pairOf us ps nm'=.ref pa->∀ z t3 H',Same H H'->H' z=some (.tup [.ref t3,.non])->H' t3=some (.tup [.str "touch",.int ((i:Nat):Int),.ref pa])->Q (.ref z) H') /\
  (pairOf us ps nm'=.non->∀ z l' H',Same H H'->H l'=none->H' z=some (.tup [.non,.ref l'])->StV H' l' M (S.set i (λy=>d.1 y+add y,nm'))->Q (.ref z) H'))
def qN (K:Aa):Sp:=λvs H Q _=>∃ b r q l dm nm rs us ps rbs ws M S i d rb kvm ksm cs xs,vs=[.ref b,.ref l,.int ((i:Nat):Int),.ref dm,.ref nm]/\LawIn K H b r q l dm nm rs us ps rbs ws M S i d rb kvm ksm cs xs/\IntoL us ps ws M S i d rb (NW M cs) xs H Q
section
variable {P:Az}{w:World}{K:Aa}{mg:Str->Option Value}{base:Heap}
abbrev aIl:List Str:=["_law_bench_here","_law_state","_law_phial","_law_more","_law_names_here","_law_held","_law_ware","_law_lies","_law_named","_law_pair","_law_found"]
def iO:FnScope aIl ["_law_bench_here","_law_state","_law_phial","_law_more","_law_names_here"] (aI sInto):=fnScOk (by decide +kernel)
def aDy {f:Addr}{fd:Bf}(F:Fun K "_law_into" "_law_into" sInto f fd)(T:Txt mg)(cA:Cal P w K mg base CX0 3 "_law_add" ["_law_one","_law_other"] (sX K))(cS:Cal P w K mg base CX0 3 "_law_sum" ["_law_held"] (sV K))(cU:Cal P w K mg base CX0 3 "_law_under" ["_law_one","_law_other"] (fO K))(cT:Cal P w K mg base CX0 3 "_law_take" ["_law_one","_law_other"] (mG K)):FnOk P w K mg base CX0 4 f fd ["_law_bench_here","_law_state","_law_phial","_law_more","_law_names_here"] (qN K):=by
 refine F.ok iO (λvs H Q E h=>?_) (λcdv A outer s H vs Q E hr h=>?_)
 ·obtain ⟨_,_,_,_,_,_,_,_,_,_,_,_,_,_,_,_,_,_,_,_,rfl,_⟩:=h
  rfl
 ·obtain ⟨b,r,q,l,dm,nm,rs,us,ps,rbs,ws,M,S,i,d,rb,kvm,ksm,cs,xs,rfl,m,kS,kG⟩:=h
  refine ⟨_,(aD (aM (i:=5) iO.nd rfl (Or.inl rfl) (aZ (fE rfl) rfl T.dict' lW (aA (bH dW (bH bB (pv 1) (pv 2) (λ_ _=>rfl)) aE (λ_ _=>rfl)) aC)))
   (aD (vG (dN AV rfl (vR (pv 3)) (bA (i:=6) iO.nd rfl (Or.inl rfl))
    (aG (pD (jK hr) (pv 5) (pv 6) (aJ cA hr rfl aQ (aA (rA (jK hr) (pv 5) (pv 6) (aW (aA aE (aA aE aC))) ⟨rfl,rfl,rfl,rfl⟩) (aA (iU (jK hr) (pv 3) (pv 6) (λ_ _=>rfl)) aC))) rfl))))
   (aD (aM (i:=7) iO.nd rfl (Or.inl rfl) (aJ cS hr rfl aQ (aA (pv 5) aC)))
   (aD (bF (cV (aJ cU hr rfl aQ (aA (bH dW (pit 0 0) (pv 2) (λ_ _=>rfl)) (aA (pv 7) aC))))
    (aG (aL (aW (aA (aW (aA aU (aA (pv 2) (aA (aJ cT hr rfl aQ (aA (pv 7) (aA (bH dW (pit 0 0) (pv 2) (λ_ _=>rfl)) aC))) aC)))) (aA dU aC)))))
    aP)
   (aD (aM (i:=8) iO.nd rfl (Or.inl rfl) (aZ bR rfl T.tup' dS (aA (aT (gZ rfl) rfl T.sorted' boot_sorted (aA (aZ (yJ rfl) rfl T.set' aB9 (aA (aK wC (aZ bX rfl T.list' eO (aA (bH dW (bH bB (pv 1) (pv 2) (λ_ _=>rfl)) aE (λ_ _=>rfl)) aC)) (aZ bX rfl T.list' eO (aA (pv 4) aC))) aC)) aC)) aC)))
   (aD (dN AV rfl (jR (pit 0 1)) (bA (i:=9) iO.nd rfl (Or.inl rfl))
    (aG (bF (PW.pt (mT (aS eZ (pit 9 0) (pv 8) rfl) (iQ (aS eZ (pit 9 1) (pv 8) rfl))))
     (aG (aL (aW (aA (aW (aA aU (aA (pv 2) (aA (pv 9) aC)))) (aA dU aC)))))
     aP)))
   (aD (aM (i:=10) iO.nd rfl (Or.inl rfl) (aZ bX rfl T.list' eO (aA (pv 1) aC)))
   (aD (gU (aW (aA (aZ bR rfl T.tup' dS (aA (mX rfl rfl T.sorted' (pv 5)) aC)) (aA (pv 8) aC))) (mW (pv 10) (pv 2) set_list))
   (aG (aL (aW (aA dU (aA (pv 10) aC))))))))))))),?_⟩
  refine cut9 ?_
  intros
  obtain ⟨vs,v,hl,vl,hv,a,mm,nn,ms,ys,rfl,ha,hmm,pr,mx,hnn⟩:=m.st.get m.di;have okd:=m.ok d (Av m.di);have M0:=m.m0;have bn:=m.bs.bn;obtain ⟨kv0,k1,k2,k3,k4⟩:=vI pr;have nd0:(kv0.map (·.1)).Nodup:=by
   rw [k2];exact Cg.mpr (mx.nd.imp λh e=>h (AN.inj e))
  refine ⟨_,rfl,_,rfl,l,_,(i:Int),.ref a,rfl,rfl,SqL.of hl,bD hv,a,_,0,.ref mm,rfl,rfl,SqT.of ha,rfl,mm,ms,kv0,rfl,hmm,k1,nd0,k3,λp np=>?_⟩;have s1:=Same.upd (o:=.dK kv0) np;have hp1:upd H p (.dK kv0) p=some (.dK kv0):=aB;have pm:p≠dm:=λe=>by rw [e,m.hm] at np;cases np
  generalize upd H p (.dK kv0)=H1 at s1 hp1 ⊢;have da1:DA H1 M ys kv0 (ys.map (·.1)):=⟨⟨k2,mx.nd⟩,λy=>Iff.rfl,λy hy=>by
   obtain ⟨x,hx,rfl⟩:=AS.mp hy;obtain ⟨q',mq,hq'⟩:=k4 x hx;refine ⟨q',_,_,kH nd0 mq,s1 _ _ hq',?_⟩;rw [mx.nw];exact mx.fr x hx⟩
  obtain ⟨es,ee,ef⟩:=rX m.da.2.2;have oe:Over M es:=λe he=>by
   obtain ⟨_,_,_,fr⟩:=ef e he;exact ⟨fr.am,fr.dvd⟩
  have oy:Over M ys:=mx.over;have oye:Over M (ys++es):=λe he=>(Br.mp he).elim (oy e) (oe e);have nwe:∀ y,NW M es y=NW M cs y:=λy=>by
   rw [lH M0 (f:=NW M cs) (by rw [ee];exact m.da.1.nd) (λe he=>by obtain ⟨_,_,_,fr⟩:=ef e he;exact fr),ee]
   by_cases c:y∈ksm
   ·rw [if_pos c]
   ·rw [if_neg c,eP λz=>c ((m.da.2.1 y).mpr z)]
  have nwT:∀ y,NW M (ys++es) y=d.1 y+NW M cs y:=λy=>by rw [jI,mx.nw,nwe]
  have ew:∀ e∈es,e.1∈ws:=λe he=>by
   have:e.1∈ksm:=by rw [<- ee];exact Cy he
   obtain ⟨x,hx,e'⟩:=AS.mp ((m.da.2.1 e.1).mp this);rw [<- e'];exact m.cw x hx
  have yw:∀ e∈ys,e.1∈ws:=λe he=>okd.inw e.1 ((mx.mem e.1).mp (Cy he));have sT:sumN M (ys++es)=tot ws (λy=>d.1 y+NW M cs y):=by
   rw [<- oO m.bs.ww.nd (xs:=ys++es) (λx hx=>(Br.mp hx).elim (yw x) (ew x))];unfold tot;exact congrArg List.sum (Em λy _=>nwT y)
  have bT:=m.bS;rw [<- sT] at bT kS kG;have el:es.length=ksm.length:=by rw [<- ee,Ag]
  have kl:kvm.length=ksm.length:=m.da.1.len;have hm1:=s1 _ _ m.hm;have l6:∀ zs:List (Str×Int×Int),(zs.map (·.1)).Nodup->(∀ z∈zs,z.1∈ws)->zs.length<=6:=λzs n w=>by
   have:=n.length_le_of_subset (l₂:=ws) λy hy=>by
    obtain ⟨x,hx,rfl⟩:=AS.mp hy;exact w x hx
   rw [Ag] at this;exact Bh this m.bs.ww.l
  have yl:=l6 ys mx.nd yw;have esl:=l6 es (by rw [ee];exact m.da.1.nd) ew;refine ⟨_,rfl,dm,kvm,rfl,hm1,λob=>?_⟩;have tk:Tk H1 (upd H1 dm (.frz ob (.dK kvm))):=Tk.dk hm1;refine nP (λj σ H'=>∃ (v6:Option V) (kvs:List (Key×V)) (ks:List Str),σ=[some (.ref b),some (.ref l),some (.int ((i:Nat):Int)),some (.ref dm),some (.ref nm),some (.ref p),v6,none,none,none,none]/\(∀ c o,c≠p->upd H1 dm (.frz ob (.dK kvm)) c=some o->H' c=some o)/\H' p=some (.dK kvs)/\DA H' M ((ys++es).take (ys.length+j)) kvs ks/\ks.length<=ys.length+j) ⟨none,kv0,_,rfl,λc o _ h=>h,by rw [aH pm];exact hp1,by rw [Nat.add_zero,List.take_left];exact da1.keep tk,by rw [Ag];exact Ak _⟩ ?_ ?_ ?_
  ·rintro j σ H' _ ⟨_,_,_,rfl,sm,_⟩
   exact sm _ _ (AQ pm) aB
  ·rintro j kv σ H2 D' hN hkv ⟨v6,kvs,ks,rfl,s2,hp2,da,kl2⟩
   obtain ⟨y,hy,ek⟩:=aBw m.da.1.keys hkv;rw [ek];have jl:=(Ae.mp hkv).1;obtain ⟨e,he⟩:∃ e,es[j]?=some e:=⟨_,Ad (by have:=(Ae.mp hy).1;omega)⟩;have ey:e.1=y:=by
    have h1:(es.map (·.1))[j]?=some e.1:=by rw [As,he];rfl
    rw [ee,hy] at h1;exact (AK h1).symm
   have hx:(ys++es)[ys.length+j]?=some e:=by rw [Cu (by omega),Nat.add_sub_cancel_left];exact he
   obtain ⟨q',e1,e2,e3⟩:=ef e (Av he);rw [ey] at e1;refine ⟨_,rfl,p,rfl,.inl ⟨kvs,.inl hp2⟩,_,rfl,zLn2,λz1 nz1=>⟨_,DGet.k (k:=AN y) ((Same.upd nz1) _ _ hp2),?_⟩⟩;have w1:=Same.upd (o:=.tup [.int 0,.int 1]) nz1;have hz1:upd H2 z1 (.tup [.int 0,.int 1]) z1=some (.tup [.int 0,.int 1]):=aB;have hp3:=w1 _ _ hp2;have da3:=da.keep w1.tk;have dm3:upd H2 z1 (.tup [.int 0,.int 1]) dm=some (.frz ob (.dK kvm)):=w1 _ _ (s2 _ _ (AQ pm) aB);have q3:upd H2 z1 (.tup [.int 0,.int 1]) q'=some (.tup [.int e.2.1,.int e.2.2]):=by
    have qp:q'≠p:=λz=>by rw [z,np] at e2;cases e2
    exact w1 _ _ (s2 _ _ qp (tk _ _ (s1 _ _ e2)))
   generalize upd H2 z1 (.tup [.int 0,.int 1])=H3 at w1 hz1 hp3 da3 dm3 q3 ⊢;obtain ⟨g,t,b',eg,hg,fr⟩:∃ (g:Addr) (t b':Int),(valV kvs (AN y)).getD (.ref z1)=.ref g/\SqT K H3 g [.int t,.int b']/\Fr M t b' (NW M ((ys++es).take (ys.length+j)) y):=by
    by_cases hyk:y∈ks
    ·obtain ⟨p',t,b',f1,f2,f3⟩:=da3.2.2 _ hyk
     exact ⟨p',t,b',by rw [f1];rfl,SqT.of f2,f3⟩
    ·have:valV kvs (AN y)=none:=by
      cases e:valV kvs (AN y) with
      |none=>rfl
      |some v=>exact absurd ((da.1.get y).mp (by rw [e];rfl)) hyk
     refine ⟨z1,0,1,by rw [this];rfl,SqT.of hz1,?_⟩;rw [eP (λz=>hyk ((da.2.1 _).mpr z))];exact Fr.zero
   rw [eg];have nwl:=uE M0 oye (ys.length+j) y;have fs:=dQ M0 fr;have fse:=dQ M0 e3;have nwe':NW M cs e.1<=sumN M (ys++es):=by
    have h1:=uE M0 oye (ys++es).length e.1;rw [BH,jI,nwe] at h1;have h2:=aEr M0 oy e.1;omega
   have tw:Tw K H3 g q' t b' e.2.1 e.2.2:=⟨hg,SqT.of q3,fr.am,e3.am,(bT.le fr.am.t0 (by omega)).mono (by decide),(m.bm.le (by have:=fr.am.b1;omega) fs.2).mono (by decide),(bT.le e3.am.t0 (by omega)).mono (by decide),(m.bm.le (by have:=e3.am.b1;omega) fse.2).mono (by decide)⟩;have dg:DGet H3 dm (.str y) (some (.ref q')):=.inl ⟨kvm,.inr y,.inr ⟨ob,dm3⟩,rfl,e1.symm⟩;refine ⟨_,rfl,_,rfl,dm,_,rfl,dg,g,q',t,b',e.2.1,e.2.2,rfl,tw,λr' H4 s4 h4=>?_⟩;have hp4:=s4 _ _ hp3;have frn:Fr M ((t*e.2.2+e.2.1*b')/G (t*e.2.2+e.2.1*b') (b'*e.2.2)) (b'*e.2.2/G (t*e.2.2+e.2.1*b') (b'*e.2.2)) (NW M ((ys++es).take (ys.length+j)) e.1+nOf M e):=by
    have n':nOf M e=NW M cs e.1:=rH (x:=e.1) M0 e3;rw [n',ey];have e3':=e3;rw [ey] at e3';exact fr.plus e3'
   obtain ⟨ks',da',kl'⟩:=(da3.keep s4.tk).step hx h4 frn;rw [ey] at da';refine ⟨_,rfl,_,rfl,p,_,rfl,DPut.k (k:=AN y) hp4 (bP (by rw [da.1.len];omega)),?_⟩;refine hN _ _ ⟨_,_,ks',rfl,λc o nc hc=>?_,aB,da'.keep (Tk.dk hp4),by omega⟩;rw [aH nc];exact s4 _ _ (w1 _ _ (s2 c o nc hc))
  ·rintro σ H2 ⟨v6,kvs,ks,rfl,s2,hp2,da,kl2⟩
   have dm2:=s2 _ _ (AQ pm) aB;refine ⟨dm,ob,kvm,dm2,(λo u z=>by have z':H dm=some (.frz o u):=z;rw [m.hm] at z';cases z'),?_⟩;have s3:Same H (upd H2 dm (.dK kvm)):=λc o hc=>by
    by_cases n:c=dm
    ·subst n
     rw [m.hm] at hc;rw [aB];exact hc
    ·have ncp:c≠p:=λz=>by rw [z,np] at hc;cases hc
     rw [aH n];exact s2 c o ncp (by rw [aH n];exact s1 _ _ hc)
   have hp3:upd H2 dm (.dK kvm) p=some (.dK kvs):=by rw [aH pm];exact hp2
   have da3:DA (upd H2 dm (.dK kvm)) M (ys++es) kvs ks:=by
    rw [kl,<- el,<- AF,BH] at da;exact da.keep λc zs hc=>by
     have n:c≠dm:=λz=>by rw [z,dm2] at hc;cases hc
     rw [aH n];exact hc
   generalize upd H2 dm (.dK kvm)=H3 at s3 hp3 da3 ⊢;refine ⟨_,rfl,p,kvs,ks,M,ys++es,rfl,hp3,da3,M0,m.bm,oye,bT,λli t b' H4 s4 hli fr=>?_⟩;have s04:=s3.trans s4;have bn4:=bn.keep s04;obtain ⟨t_le,b_le⟩:=dQ M0 fr;have bb:=fr.am.b1;have bt:Bt 4000 t:=(bT.le fr.am.t0 t_le).mono (by decide);have bb':Bt 4000 b':=(m.bm.le (by omega) b_le).mono (by decide);obtain ⟨rv,hrv⟩:∃ rv,rs[i]?=some rv:=⟨_,Ad (by rw [<- m.sl];exact (Ae.mp m.di).1)⟩;obtain ⟨rb',hrb',ra,rfl,hra,rmm⟩:=m.bs.rm.get hrv;rw [m.rbi] at hrb';cases hrb';have tw:Tw K H4 ra li rb.1 rb.2 t b':=⟨SqT.of (s04 _ _ hra),SqT.of hli,⟨by have:=rmm.t1;omega,rmm.b1,rmm.g⟩,fr.am,rmm.st.mono (by decide),rmm.sb.mono (by decide),bt,bb'⟩;have frr:Fr rb.2 rb.1 rb.2 rb.1:=xM rmm;refine ⟨b,_,_,rfl,SqT.of bn4.hp,rfl,_,rfl,r,_,(i:Int),.ref ra,rfl,rfl,SqT.of bn4.hr,bD hrv,_,rfl,ra,li,rb.1,rb.2,t,b',rfl,tw,_,rfl,?_⟩;rw [xN M0 fr];refine ite2 (λc=>?_) (λc=>?_)
   ·have c':rb.1*M<sumN M (ys++es)*rb.2:=of_decide_eq_true c
    obtain ⟨le,fo⟩:=iE (M1:=M) (M2:=rb.2) M0 (by have:=rmm.b1;omega) fr frr (by omega);refine ⟨_,rfl,_,rfl,b,_,_,rfl,SqT.of bn4.hp,rfl,_,rfl,r,_,(i:Int),.ref ra,rfl,rfl,SqT.of bn4.hr,bD hrv,li,ra,t,b',rb.1,rb.2,rfl,tw.flip,le,λpo H5 s5 h5=>⟨zLn3,λt3 nt3=>⟨zLn2,λz nz=>?_⟩⟩⟩;have s6:=Same.upd (o:=.tup [.str "spilt",.int ((i:Nat):Int),.ref po]) nt3;have s7:=Same.upd (o:=.tup [.ref t3,.non]) nz;exact kS c' z t3 po _ _ _ (((s04.trans s5).trans s6).trans s7) aB (s7 _ _ aB) ((s6.trans s7) _ _ h5) fo
   ·have c':¬ rb.1*M<sumN M (ys++es)*rb.2:=of_decide_eq_false (by simpa using c)
    refine ⟨_,rfl,_,rfl,l,_,(i:Int),.ref a,rfl,rfl,SqL.of (s04 _ _ hl),bD hv,a,_,1,.ref nn,rfl,rfl,SqT.of (s04 _ _ ha),rfl,nn,_,rfl,.inr (SqT.of (s04 _ _ hnn)),λc1 nc1=>?_⟩;have w1:=Same.upd (o:=.lst (d.2.map V.str)) nc1;refine ⟨_,rfl,nm,_,rfl,m.hn.imp (λh=>(s04.trans w1).seq h) (λh=>(s04.trans w1).tup h),λc2 nc2=>?_⟩;have w2:=Same.upd (o:=.lst (xs.map V.str)) nc2;have nl:d.2.length<=6:=Bh ((fU okd.srt).length_le_of_subset okd.nin) m.bs.ww.l;have xl:=m.xl;refine ⟨c1,c2,_,_,rfl,rfl,w2 _ _ aB,aB,bO (by rw [Ag,Ag];omega),λc3 nc3=>?_⟩;have ll:(d.2++xs).length<=30:=by rw [AF];omega
    refine ⟨c3,d.2++xs,rfl,SqL.of (by rw [Bs];exact aB),by omega,λp2 np2=>⟨p2,_,rfl,aB,Dg (SX.ddl_len _) (by omega),λp3 nm' pm' so np3=>⟨p3,_,rfl,.inl ⟨SqL.of aB,λp4 np4=>?_⟩⟩⟩⟩;have u:=aBu pm' so;have w4:=Same.upd (o:=.tup (nm'.map V.str)) np4;have w:=((((w1.trans w2).trans (Same.upd nc3)).trans (Same.upd np2)).trans (Same.upd (o:=.lst (nm'.map V.str)) np3)).trans w4;have bn5:=bn4.keep w;obtain ⟨kT,kO⟩:=kG c' nm' u;refine ⟨b,_,_,rfl,SqT.of bn5.hp,rfl,q,rfl,⟨_,SqT.of bn5.hq⟩,?_⟩;refine lO (xs:=us) (λj σ H'=>∃ v9:Option V,σ=[some (.ref b),some (.ref l),some (.int ((i:Nat):Int)),some (.ref dm),some (.ref nm),some (.ref p),v6,some (.ref li),some (.ref p4),v9,none]/\pairOf us ps nm'=pairOf (us.drop j) (ps.drop j) nm'/\Same H4 H'/\H' p4=some (.tup (nm'.map V.str))) ⟨none,rfl,rfl,w,aB⟩ ?_ ?_ ?_
    ·rintro j σ H' hj ⟨_,rfl,_,s',_⟩
     exact SqT.of (s' _ _ bn4.hq)
    ·rintro j v' σ H5 hv' ⟨v9,rfl,e,s5,h5⟩
     obtain ⟨y,hy⟩:∃ y,ps[j]?=some y:=⟨_,Ad (by rw [<- bn4.pt.1];exact (Ae.mp hv').1)⟩;obtain ⟨z,rfl,hz⟩:=bn4.pt.2 j v' y hv' hy;have hz':SqT K H5 z [.str y.1,.str y.2]:=SqT.of (s5 _ _ hz);have hn5:SqT K H5 p4 (nm'.map V.str):=SqT.of h5;rw [iX hv' hy] at e;refine ⟨z,_,_,rfl,hz',rfl,_,rfl,p4,_,rfl,.inr hn5,rfl,fB nm',_,rfl,ite2 (λh1=>?_) (λh1=>?_)⟩
     ·have m1:=eN.mp h1
      refine ⟨z,_,_,rfl,hz',rfl,_,rfl,p4,_,rfl,.inr hn5,rfl,fB nm',_,rfl,ite2 (λh2=>?_) (λh2=>?_)⟩
      ·rw [if_pos ⟨m1,eN.mp h2⟩] at e
       refine ⟨_,rfl,_,rfl,zLn3,λt3 nt3=>⟨zLn2,λzz nzz=>?_⟩⟩;have s6:=Same.upd (o:=.tup [.str "touch",.int ((i:Nat):Int),.ref z]) nt3;have s7:=Same.upd (o:=.tup [.ref t3,.non]) nzz;exact kT z e zz t3 _ (((s04.trans s5).trans s6).trans s7) aB (s7 _ _ aB)
      ·rw [if_neg λz=>h2 (eN.mpr z.2)] at e
       exact ⟨_,rfl,e,s5,h5⟩
     ·rw [if_neg λz=>h1 (eN.mpr z.1)] at e
      exact ⟨_,rfl,e,s5,h5⟩
    ·rintro σ H5 ⟨v9,rfl,e,s5,h5⟩
     rw [List.drop_length,gM] at e;have kO':=kO e;have s05:=s04.trans s5;refine ⟨_,rfl,l,_,rfl,.inl (SqL.of (s05 _ _ hl)),λl' nl'=>?_⟩;have w6:=Same.upd (o:=.lst vs) nl';have hl6:upd H5 l' (.lst vs) l'=some (.lst vs):=aB;generalize upd H5 l' (.lst vs)=H6 at w6 hl6 ⊢;obtain ⟨zs,ez,ek⟩:=aEy da3.1.keys;have hp6:H6 p=some (.dK (txK zs)):=by rw [<- ez];exact w6 _ _ (s5 _ _ (s4 _ _ hp3))
     have zl:zs.length=ks.length:=by rw [<- ek,Ag]
     have da6:=((da3.keep s4.tk).keep s5.tk).keep w6.tk;refine ⟨_,rfl,p,zs,rfl,hp6,by rw [ek];exact da3.1.nd,by omega,λq1 as zs' H7 s7 pz srt al ht hq1=>?_⟩;have zv:∀ z∈zs',∃ q t b,z.2=.ref q/\H7 q=some (.tup [.int t,.int b])/\Fr M t b (NW M (ys++es) z.1):=λz hz=>by
      have mz:=pz.mem_iff.mp hz;have mk:((AN z.1:Key),z.2)∈kvs:=by rw [ez];exact AS.mpr ⟨z,mz,rfl⟩
      have nk:(kvs.map (·.1)).Nodup:=by rw [da3.1.keys];exact Cg.mpr (da3.1.nd.imp λh e=>h (AN.inj e))
      have vz:=kH nk mk;obtain ⟨q',t',b2,f1,f2,f3⟩:=da6.2.2 z.1 (by rw [<- ek];exact Cy mz);have vz':valV kvs (AN z.1)=some z.2:=vz;rw [f1] at vz';exact ⟨q',t',b2,(AK vz').symm,s7 _ _ f2,f3⟩
     obtain ⟨yn,py,ny,fy⟩:=rO al ht zv;refine ⟨q1,_,rfl,.inl ⟨SqL.of hq1,λtz ntz=>⟨_,rfl,zLn2,λzt nzt=>?_⟩⟩⟩;have w8:=Same.upd (o:=.tup (as.map V.ref)) ntz;have w9:=Same.upd (o:=.tup [.ref tz,.ref p4]) nzt;have w79:=(s7.trans w8).trans w9;have il:=(Ae.mp hv).1;have lz:l'≠zt:=λe=>by rw [<- e,(s7.trans w8) _ _ hl6] at nzt;cases nzt
     refine ⟨_,rfl,_,rfl,l',vs,(i:Int),i,rfl,rfl,w79 _ _ hl6,jC il,?_⟩;refine ⟨_,rfl,zLn2,λzz nzz=>?_⟩;have nl0:H l'=none:=sm0 s05 nl';have sF:Same H (upd (upd (upd (upd H7 tz (.tup (as.map V.ref))) zt (.tup [.ref tz,.ref p4])) l' (.lst (vs.set i (.ref zt)))) zz (.tup [.non,.ref l'])):=λc o hc=>by
      have h1:=((s05.trans w6).trans w79) _ _ hc;have ncl:c≠l':=λz=>by rw [z,nl0] at hc;cases hc
      exact (Same.upd nzz) _ _ (by rw [aH ncl];exact h1)
     have sG:∀ c o,c≠l'->upd (upd H7 tz (.tup (as.map V.ref))) zt (.tup [.ref tz,.ref p4]) c=some o->upd (upd (upd (upd H7 tz (.tup (as.map V.ref))) zt (.tup [.ref tz,.ref p4])) l' (.lst (vs.set i (.ref zt)))) zz (.tup [.non,.ref l']) c=some o:=λc o n hc=>(Same.upd nzz) _ _ (by rw [aH n];exact hc);have tkG:Tk (upd (upd H7 tz (.tup (as.map V.ref))) zt (.tup [.ref tz,.ref p4])) (upd (upd (upd (upd H7 tz (.tup (as.map V.ref))) zt (.tup [.ref tz,.ref p4])) l' (.lst (vs.set i (.ref zt)))) zz (.tup [.non,.ref l'])):=λc ts hc=>sG c _ (λz=>by rw [z,w79 _ _ hl6] at hc;cases hc) hc;refine kO' zz l' _ sF nl0 aB (m.st.put hl sF ((Same.upd nzz) _ _ aB) ⟨zt,tz,p4,as.map V.ref,yn,rfl,tkG _ _ aB,tkG _ _ (w9 _ _ aB),py.keep (λc ts hc=>tkG _ _ ((w8.trans w9) _ _ hc)),?_,tkG _ _ ((w6.trans w79) _ _ h5)⟩);have memk:∀ y,y∈yn.map (·.1)↔y∈(ys++es).map (·.1):=λy=>by
      rw [ny,(pz.map (·.1)).mem_iff,ek,da3.2.1]
     refine ⟨?_,?_,λy=>?_,λz hz=>?_⟩
     ·rw [ny,Cg]
      exact srt.imp λh=>List.le_of_lt h
     ·rw [ny,(pz.map (·.1)).nodup_iff,ek]
      exact da3.1.nd
     ·rw [memk]
      show _↔d.1 y+NW M cs y≠0;rw [<- nwT];constructor
      ·intro hy
       rw [nwT];have h1:=okd.nn y;have h2:=aEr M0 m.oc y;rw [Bs,Br] at hy
       rcases hy with hy|hy
       ·have:=(mx.mem y).mp hy
        omega
       ·have:=m.cp y (by rw [<- ee];exact hy)
        omega
      ·intro h
       exact BG λz=>h (eP z)
     ·have:=fy z hz
      rw [nwT] at this;exact this
end
end K33
namespace L2
open PySem PySem.Spec PyProof.Rows PySem.W
section
variable {X:Cx}
def aDm (hu:X.A.units+64<cLine):OpR X (BN .Eq) (λx y H Q=>∃ a b xs,x=.ref a/\y=.ref b/\SqT X.K H a xs/\SqT X.K H b []/\Q (.bl xs.isEmpty) H):=by
 intro pins s σ H x y v u Q I rx ry h;obtain ⟨a,b,xs,rfl,rfl,ha,hb,q⟩:=h;cases rx;cases ry;obtain ⟨its,r,p,_⟩:=I.tuple ha;obtain ⟨its',r',p',_⟩:=I.tuple hb;cases r';obtain ⟨o,o1,o2,n,o3⟩:=p;obtain ⟨o',o1',o2',n',o3'⟩:=p';have key:=SeqAt.RcAt.tuples (A:=X.A) (s:=s) (l:=a) (b:=b) (items:=its.toArray) (items2:=#[]) (e:=λ_=>true) ⟨o,o1,o2,n,o3⟩ ⟨o',o1',o2',n',o3'⟩ (by omega) (λj h1 h2=>absurd h2 (by simp));cases r with
 |nil=>exact key X.prog X.w X.xe _ ⟨.bl _,H,I,rfl,q⟩
 |cons r t=>exact key X.prog X.w X.xe _ ⟨.bl _,H,I,rfl,q⟩
end
end L2
namespace K33
open PySem PySem.Spec PyProof.Rows L2 GM TM
def aAy {M N t1 b1 t2 b2:Int}(M0:0<M)(h:Fr M t1 b1 N)(h2:Amt t2 b2):Fr (M*b2) (t1*t2/G (t1*t2) (b1*b2)) (b1*b2/G (t1*t2) (b1*b2)) (N*t2):=by
 have a1:=h.am.b1;have a2:=h2.b1;have n1:=Bk h.am.t0 h2.t0;have hb:1<=b1*b2:=mul1 a1 a2;refine ⟨gN n1 hb,?_⟩;have crs:=gA (t1*t2) (b1*b2);generalize t1*t2/G (t1*t2) (b1*b2)=x at *
 generalize b1*b2/G (t1*t2) (b1*b2)=y at *
 refine BF (show b1*b2≠0 by omega) ?_
 calc x*(M*b2)*(b1*b2)=(x*(b1*b2))*(M*b2):=by rw [AJ]
  _=((t1*t2)*y)*(M*b2):=by rw [crs]
  _=(t1*M)*(t2*y*b2):=by grind
  _=(N*b1)*(t2*y*b2):=by rw [h.e]
  _=N*t2*y*(b1*b2):=by grind
def IntoL.mono {M:Int}{i:Nat}{rb:Int×Int}{add:Str->Int}(s:Same H H1)(h:IntoL us ps ws M S i d rb add xs H Q):IntoL us ps ws M S i d rb add xs H1 Q:=
 ⟨λc z t3 a t b H' s'=>h.1 c z t3 a t b H' (s.trans s'),λc nm' u=>⟨λpa e z t3 H' s'=>(h.2 c nm' u).1 pa e z t3 H' (s.trans s'),λe z l' H' s' nl=>(h.2 c nm' u).2 e z l' H' (s.trans s') (sm0 s nl)⟩⟩
theorem aA7 {t:Int}(h:Amt t t):t=1:=by
 have g:=h.g;unfold G at g;rw [Int.gcd_self] at g;have:=h.t0;omega
def zf (t b:Int)(y:Str×Int×Int):Str×Int×Int:=(y.1,y.2.1*t/G (y.2.1*t) (y.2.2*b),y.2.2*b/G (y.2.1*t) (y.2.2*b))
def rf (t b:Int)(y:Str×Int×Int):Str×Int×Int:=(y.1,(y.2.1*(zf t b y).2.2-(zf t b y).2.1*y.2.2)/G (y.2.1*(zf t b y).2.2-(zf t b y).2.1*y.2.2) (y.2.2*(zf t b y).2.2),y.2.2*(zf t b y).2.2/G (y.2.1*(zf t b y).2.2-(zf t b y).2.1*y.2.2) (y.2.2*(zf t b y).2.2))
def aCf {M N t b:Int}(M0:0<M)(h:Fr M y.2.1 y.2.2 N)(a:Amt t b):Fr (M*b) (zf t b y).2.1 (zf t b y).2.2 (N*t):=aAy M0 h a
def aFl {M N t b:Int}(M0:0<M)(h:Fr M y.2.1 y.2.2 N)(a:Amt t b)(tb:t<=b):(zf t b y).2.1*y.2.2<=y.2.1*(zf t b y).2.2/\Fr (M*b) (rf t b y).2.1 (rf t b y).2.2 (N*b-N*t):=by
 have b0:0<b:=by have:=a.b1;omega
 have Mb:0<M*b:=Ba M0 b0;have f1:Fr (M*b) y.2.1 y.2.2 (N*b):=iD h M0 (by rw [BZ M b,<- Bp]);have f2:=aCf M0 h a;have n0:=h.nonneg M0;have le:N*t*(M*b)<=N*b*(M*b):=BD (Bg tb n0) (Er Mb);obtain ⟨l,fo⟩:=iE Mb Mb f1 f2 le;exact ⟨l,iD fo (Ba Mb Mb) (by grind)⟩
def RefL (wd:Str)(i:Nat)(H:Hp)(Q:VK):Prop:=∀ z t3 H',Same H H'->H' z=some (.tup [.ref t3,.non])->H' t3=some (.tup [.str wd,.int ((i:Nat):Int),.non])->Q (.ref z) H'
def kN (K:Aa):Sp:=λvs H Q _=>∃ b r q l a rs us ps rbs ws M S β i j t b' di dj rbj,vs=[.ref b,.ref l,.ref a]/\OnIn H b r q l rs us ps rbs ws M S β/\RwV H a (.pour i j t b')/\GoodR rs.length ws (.pour i j t b')/\S[i]?=some di/\S[j]?=some dj/\rbs[j]?=some rbj /\
 ((∀ y,di.1 y=0)->RefL "dry" i H Q)/\(¬ (∀ y,di.1 y=0)->IntoL us ps ws (M*b') ((scl b' S).set i (λy=>di.1 y*b'-di.1 y*t,di.2)) j (λy=>dj.1 y*b',dj.2) rbj (λy=>di.1 y*t) di.2 H Q)
section
variable {P:Az}{w:World}{K:Aa}{mg:Str->Option Value}{base:Heap}
abbrev Npou:List Str:=["_law_bench_here","_law_state","_law_row_here","_law_held","_law_names_here","_law_out","_law_rest","_law_ware","_law_much_here","_law_found"]
def mQ:FnScope Npou ["_law_bench_here","_law_state","_law_row_here"] (aI sPoured):=fnScOk (by decide +kernel)
def wH {f:Addr}{fd:Bf}(F:Fun K "_law_poured" "_law_poured" sPoured f fd)(T:Txt mg)(cB:Cal P w K mg base CX0 4 "_law_by" ["_law_one","_law_other"] (spBy K))(cT:Cal P w K mg base CX0 4 "_law_take" ["_law_one","_law_other"] (mG K))(cI:Cal P w K mg base CX0 4 "_law_into" ["_law_bench_here","_law_state","_law_phial","_law_more","_law_names_here"] (qN K)):FnOk P w K mg base CX0 5 f fd ["_law_bench_here","_law_state","_law_row_here"] (kN K):=by
 refine F.ok mQ (λvs H Q E h=>?_) (λcdv A outer s H vs Q E hr h=>?_)
 ·obtain ⟨_,_,_,_,_,_,_,_,_,_,_,_,_,_,_,_,_,_,_,_,rfl,_⟩:=h
  rfl
 ·obtain ⟨b,r,q,l,a,rs,us,ps,rbs,ws,M,S,β,i,j,t,b',di,dj,rbj,rfl,o,⟨qa,hra,hqa⟩,⟨g1,g2,g3,g4,g5,g6⟩,hdi,hdj,hrj,kD,kI⟩:=h
  refine ⟨_,(aD (gU (bH bB (pv 1) (pit 2 1) (λ_ _=>rfl)) (iT rfl (cY (bA (i:=3) mQ.nd rfl (Or.inl rfl)) (cY (bA (i:=4) mQ.nd rfl (Or.inl rfl)) fK))))
   (aD (bF (aS (aDm hr.units) (pv 3) (aW aC) (aV _))
    (aG (aL (aW (aA (aW (aA aU (aA (pit 2 1) (aA dU aC)))) (aA dU aC)))))
    aP)
   (aD (aM (i:=5) mQ.nd rfl (Or.inl rfl) qZ)
   (aD (aM (i:=6) mQ.nd rfl (Or.inl rfl) (cJ aC))
   (aD (dN AV rfl (jR (pv 3)) (iT rfl (cY (bA (i:=7) mQ.nd rfl (Or.inl rfl)) (cY (bA (i:=8) mQ.nd rfl (Or.inl rfl)) fK)))
    (aD (pD (jK hr) (pv 5) (pv 7) (aJ cB hr rfl aQ (aA (pv 8) (aA (pit 2 3) aC))) rfl)
    (aG (bF (aS (vZ hr.units) (pit 2 3) (aW (aA aE (aA aE aC))) (aV _))
     (aG (dG (iV AY Bc Bb bY (pv 6) (aA (aW (aA (pv 7) (aA (aJ cT hr rfl aQ (aA (pv 8) (aA (iU (jK hr) (pv 5) (pv 7) (λ_ _=>rfl)) aC))) aC))) aC))))
     aP))))
   (aD (aM (i:=9) mQ.nd rfl (Or.inl rfl) (aZ bX rfl T.list' eO (aA (pv 1) aC)))
   (aD (gU (aW (aA (aZ bR rfl T.tup' dS (aA (pv 6) aC)) (aA (pv 4) aC))) (mW (pv 9) (pit 2 1) set_list))
   (aG (aL (aJ cI hr rfl aQ (aA (pv 0) (aA (pv 9) (aA (pit 2 2) (aA (pv 5) (aA (pv 4) aC))))))))))))))),?_⟩
  refine cut8 ?_
  intros
  obtain ⟨vs,v,hl,vl,hv,a1,mm,nn,ms,ys,rfl,ha1,hmm,pr,mx,hnn⟩:=o.st.get hdi;have okd:=o.so.ok di (Av hdi);have M0:=o.so.m0;have b0:0<b':=by have:=g4.am.b1;omega
  have sqr:=SqT.of (K:=K) hra;have pl:=pr.length;refine ⟨_,rfl,a,_,_,rfl,sqr,rfl,l,_,(i:Int),.ref a1,rfl,rfl,SqL.of hl,bD hv,?_⟩;refine ⟨a1,_,rfl,SqT.of ha1,rfl,_,_,rfl,_,_,rfl,rfl,?_⟩;refine ⟨_,rfl,zLn0,λz0 nz0=>⟨mm,z0,_,rfl,rfl,SqT.of ((Same.upd nz0) _ _ hmm),SqT.of aB,_,rfl,ite2 (λc=>?_) (λc=>?_)⟩⟩
  ·have em:ms=[]:=by
    cases ms with
    |nil=>rfl
    |cons u r=>exact absurd c (by show ¬ (false=true);decide)
   have z:∀ y,di.1 y=0:=(lJ mx).mp (CN.mp (by rw [<- pl,em];rfl));have s1:=Same.upd (o:=.tup []) nz0;refine ⟨a,_,_,rfl,SqT.of (s1 _ _ hra),rfl,zLn3,λt3 nt3=>⟨zLn2,λzz nzz=>?_⟩⟩;have s2:=Same.upd (o:=.tup [.str "dry",.int ((i:Nat):Int),.non]) nt3;have s3:=Same.upd (o:=.tup [.ref t3,.non]) nzz;exact kD z zz t3 _ ((s1.trans s2).trans s3) aB (s3 _ _ aB)
  ·have ne:¬ (∀ y,di.1 y=0):=λz=>by
    have:=(lJ mx).mpr z;subst this;have:ms=[]:=CN.mp pl;subst this;exact absurd rfl c
   have kI':=kI ne;have s1:=Same.upd (o:=.tup []) nz0;generalize upd H z0 (.tup [])=H1 at s1 ⊢;intro od nod;have s2:=Same.upd (o:=.dK []) nod;refine ⟨zLn0,λrl nrl=>?_⟩;have s3:=Same.upd (o:=.lst []) nrl;have ho3:upd (upd H1 od (.dK [])) rl (.lst []) od=some (.dK []):=s3 _ _ aB;have hr3:upd (upd H1 od (.dK [])) rl (.lst []) rl=some (.lst []):=aB;have or':od≠rl:=λe=>by rw [<- e,aB] at nrl;cases nrl
   have s03:=(s1.trans s2).trans s3;have od0:H od=none:=sm0 s1 nod;have rl0:H rl=none:=sm0 (s1.trans s2) nrl;generalize upd (upd H1 od (.dK [])) rl (.lst [])=H3 at s03 ho3 hr3 ⊢;refine ⟨_,rfl,mm,rfl,⟨_,SqT.of (s03 _ _ hmm)⟩,?_⟩;have am:=g4.am;have fy:∀ y∈ys,Fr M y.2.1 y.2.2 (di.1 y.1):=mx.fr;have Mb:0<M*b':=Ba M0 b0;have zm:(ys.map (zf t b')).map (·.1)=ys.map (·.1):=by rw [CC];rfl
   have rmm:(ys.map (rf t b')).map (·.1)=ys.map (·.1):=by rw [CC];rfl
   have fz:∀ z∈ys.map (zf t b'),Fr (M*b') z.2.1 z.2.2 (di.1 z.1*t):=λz hz=>by
    obtain ⟨y,hy,rfl⟩:=AS.mp hz;exact aCf M0 (fy y hy) am
   have frr:∀ z∈ys.map (rf t b'),Fr (M*b') z.2.1 z.2.2 (di.1 z.1*b'-di.1 z.1*t):=λz hz=>by
    obtain ⟨y,hy,rfl⟩:=AS.mp hz;exact (aFl M0 (fy y hy) am g6).2
   have nwz:∀ y,NW (M*b') (ys.map (zf t b')) y=di.1 y*t:=λy=>by
    rw [lH Mb (f:=λy=>di.1 y*t) (by rw [zm];exact mx.nd) fz,zm]
    by_cases c:y∈ys.map (·.1)
    ·rw [if_pos c]
    ·rw [if_neg c]
     have:di.1 y=0:=BG λh=>c ((mx.mem y).mpr h);rw [this,Co]
   have yl:ys.length<=6:=Bh (aBv mx okd.inw) o.bs.ww.l;refine lO (xs:=ms) (λk σ H'=>∃ (v7 v8:Option V) (kvs:List (Key×V)) (ks:List Str) (rvs:List V),σ=[some (.ref b),some (.ref l),some (.ref a),some (.ref mm),some (.ref nn),some (.ref od),some (.ref rl),v7,v8,none]/\(∀ c o,c≠od->c≠rl->H3 c=some o->H' c=some o)/\H' od=some (.dK kvs)/\DA H' (M*b') ((ys.map (zf t b')).take k) kvs ks/\ks.length<=k/\H' rl=some (.lst rvs)/\PrL H' rvs (if ([t,b']:List Int)=[1,1] then [] else (ys.map (rf t b')).take k)/\rvs.length<=k)
    ⟨none,none,[],[],[],rfl,λ_ _ _ _ h=>h,ho3,⟨.nil,λy=>by simp,λy hy=>by simp at hy⟩,Ak _,hr3,by rw [List.take_zero];split<;>exact .nil,Ak _⟩ ?_ ?_ ?_
   ·rintro k σ H' hk ⟨_,_,_,_,_,rfl,sm,_⟩
    exact SqT.of (sm _ _ (λe=>by rw [e,od0] at hmm;cases hmm) (λe=>by rw [e,rl0] at hmm;cases hmm) (s03 _ _ hmm))
   ·rintro k v' σ H4 hv' ⟨v7,v8,kvs,ks,rvs,rfl,s4,ho4,da,kl,hr4,pr4,rvl⟩
    obtain ⟨y,hy,pp,qq,rfl,h1,h2⟩:=pr.get hv';have kp:∀ c o,H c=some o->H4 c=some o:=λc o hc=>s4 c o (λe=>by rw [e,od0] at hc;cases hc) (λe=>by rw [e,rl0] at hc;cases hc) (s03 _ _ hc);have ym:=Av hy;have kl6:k<6:=by have:=(Ae.mp hy).1;omega
    have fyy:=fy y ym;have hz:(ys.map (zf t b'))[k]?=some (zf t b' y):=by rw [As,hy];rfl
    have hrf:(ys.map (rf t b'))[k]?=some (rf t b' y):=by rw [As,hy];rfl
    obtain ⟨lef,frf⟩:=aFl M0 fyy am g6;have fzz:=aCf M0 fyy am;obtain ⟨vi,hvi⟩:∃ vi,rs[i]?=some vi:=⟨_,Ad g1⟩;obtain ⟨rbi,hri,_,_,_,rmi⟩:=o.bs.rm.get hvi;obtain ⟨tn,tb⟩:=o.so.small hdi hri rmi;have b24:=o.b24;have yS:di.1 y.1<=tot ws di.1:=by
     have e1:=(gE o.bs.ww.nd mx okd.inw);have e2:=(uE M0 mx.over ys.length y.1).2;rw [BH,mx.nw] at e2;omega
    have ynn:=okd.nn y.1;have by1:Bt 2600 (di.1 y.1):=(tb.le ynn yS).mono (by omega);have fsm:=dQ M0 fyy;have bM:=o.so.bm;have b1:Bt 4000 y.2.1:=(by1.le fyy.am.t0 fsm.1).mono (by decide);have b2:Bt 4000 y.2.2:=(bM.le (by have:=fyy.am.b1;omega) fsm.2).mono (by omega);have zsm:=dQ Mb fzz;have b3:Bt 4000 (zf t b' y).2.1:=((by1.mul g4.bt).le fzz.am.t0 zsm.1).mono (by decide);have b4:Bt 4000 (zf t b' y).2.2:=((bM.mul g4.bb).le (by have:=fzz.am.b1;omega) zsm.2).mono (by omega);refine ⟨pp,_,rfl,SqT.of (kp _ _ h1),rfl,_,_,rfl,_,_,rfl,rfl,?_⟩;have tw1:Tw K H4 qq qa y.2.1 y.2.2 t b':=⟨SqT.of (kp _ _ h2),SqT.of (kp _ _ hqa),fyy.am,am,b1,b2,g4.bt.mono (by decide),g4.bb.mono (by decide)⟩;refine ⟨_,rfl,a,_,_,rfl,SqT.of (kp _ _ hra),rfl,qq,qa,y.2.1,y.2.2,t,b',rfl,tw1,λr' H5 s5 h5=>?_⟩;have ho5:=s5 _ _ ho4;have yk:y.1∉((ys.map (zf t b')).take k).map (·.1):=λhm=>by
     rw [List.map_take,zm] at hm;obtain ⟨n,hn⟩:=Fd hm;rw [List.getElem?_take] at hn;split at hn
     ·rename_i lt
      rw [As] at hn;obtain ⟨y',hy',e⟩:=BB.mp hn;have:=(List.getElem?_inj (l:=ys.map (·.1)) (i:=n) (j:=k) (by rw [Ag];have:=(Ae.mp hy').1;omega) mx.nd).mp (by rw [As,As,hy',hy];exact congrArg some e);omega
     ·cases hn
    have frn:Fr (M*b') (zf t b' y).2.1 (zf t b' y).2.2 (NW (M*b') ((ys.map (zf t b')).take k) (zf t b' y).1+nOf (M*b') (zf t b' y)):=by
     rw [eP (y:=(zf t b' y).1) yk,Int.zero_add,rH (x:=(zf t b' y).1) Mb fzz];exact fzz
    obtain ⟨ks',da',kl'⟩:=(da.keep s5.tk).step hz h5 frn;refine ⟨_,rfl,_,rfl,od,_,rfl,DPut.k (k:=AN y.1) ho5 (bP (by rw [da.1.len];omega)),?_⟩;have tk6:Tk H5 (upd H5 od (.dK (putK kvs (AN y.1) (.ref r')))):=Tk.dk ho5;have da6:=da'.keep tk6;have ho6:upd H5 od (.dK (putK kvs (AN y.1) (.ref r'))) od=some (.dK (putK kvs (AN y.1) (.ref r'))):=aB;have hr6:upd H5 od (.dK (putK kvs (AN y.1) (.ref r'))) rl=some (.lst rvs):=by rw [aH (AQ or')];exact s5 _ _ hr4
    have k6:∀ c o,c≠od->c≠rl->H4 c=some o->upd H5 od (.dK (putK kvs (AN y.1) (.ref r'))) c=some o:=λc o n1 n2 hc=>by rw [aH n1];exact s5 _ _ hc
    have kp6:∀ c o,H c=some o->upd H5 od (.dK (putK kvs (AN y.1) (.ref r'))) c=some o:=λc o hc=>k6 c o (λe=>by rw [e,od0] at hc;cases hc) (λe=>by rw [e,rl0] at hc;cases hc) (kp c o hc);have pr6:PrL (upd H5 od (.dK (putK kvs (AN y.1) (.ref r')))) rvs (if ([t,b']:List Int)=[1,1] then [] else (ys.map (rf t b')).take k):=(pr4.keep s5.tk).keep tk6;have h6:upd H5 od (.dK (putK kvs (AN y.1) (.ref r'))) r'=some (.tup [.int (zf t b' y).2.1,.int (zf t b' y).2.2]):=tk6 _ _ h5;have vk:valV (putK kvs (AN y.1) (.ref r')) (AN y.1)=some (.ref r'):=by rw [qB,if_pos rfl]
    generalize upd H5 od (.dK (putK kvs (AN y.1) (.ref r')))=H6 at da6 ho6 hr6 k6 kp6 pr6 h6 ⊢;refine ⟨a,_,_,rfl,SqT.of (kp6 _ _ hra),rfl,zLn2,λz1 nz1=>⟨qa,z1,[t,b'],[1,1],rfl,rfl,SqT.of ((Same.upd nz1) _ _ (kp6 _ _ hqa)),SqT.of aB,_,rfl,?_⟩⟩;have w1:=Same.upd (o:=.tup [.int 1,.int 1]) nz1;generalize upd H6 z1 (.tup [.int 1,.int 1])=H7 at w1 ⊢;refine ite2 (λc2=>?_) (λc2=>?_)
    ·have n11:¬ ([t,b']:List Int)=[1,1]:=λe=>by rw [decide_eq_true e] at c2;cases c2
     have dg:DGet H7 od (.str y.1) (some (.ref r')):=.inl ⟨_,.inr y.1,.inl (w1 _ _ ho6),rfl,vk.symm⟩;have tw2:Tw K H7 qq r' y.2.1 y.2.2 (zf t b' y).2.1 (zf t b' y).2.2:=⟨SqT.of (w1 _ _ (kp6 _ _ h2)),SqT.of (w1 _ _ h6),fyy.am,fzz.am,b1,b2,b3,b4⟩;refine ⟨_,rfl,.inl ⟨rfl,_,SqL.of (w1 _ _ hr6)⟩,_,rfl,_,rfl,_,rfl,_,rfl,od,_,rfl,dg,qq,r',y.2.1,y.2.2,(zf t b' y).2.1,(zf t b' y).2.2,rfl,tw2,lef,λr2 H8 s8 h8=>⟨zLn2,λpz npz=>?_⟩⟩;have w9:=Same.upd (o:=.tup [.str y.1,.ref r2]) npz;have w79:=(w1.trans s8).trans w9;have hr9:=w79 _ _ hr6;refine ⟨rl,rvs,_,rfl,rfl,hr9,bP (by omega),?_⟩;have tkr:Tk (upd H8 pz (.tup [.str y.1,.ref r2])) (upd (upd H8 pz (.tup [.str y.1,.ref r2])) rl (.lst (rvs++[.ref pz]))):=λc ts hc=>by
      rw [aH λe=>by rw [e,hr9] at hc;cases hc];exact hc
     refine ⟨_,_,_,ks',rvs++[.ref pz],rfl,λc o n1 n2 hc=>?_,?_,(da6.keep w79.tk).keep tkr,by omega,aB,?_,by rw [AF,EO];omega⟩
     ·rw [aH n2]
      exact w79 _ _ (k6 c o n1 n2 (s4 c o n1 n2 hc))
     ·rw [aH or']
      exact w79 _ _ ho6
     ·rw [if_neg n11] at pr6 ⊢
      rw [CQ,hrf];exact ((pr6.keep w79.tk).keep tkr).snoc ⟨pz,r2,rfl,tkr _ _ aB,tkr _ _ (w9 _ _ h8)⟩
    ·have e11:([t,b']:List Int)=[1,1]:=BG λe=>c2 (by rw [decide_eq_false e];rfl)
     refine ⟨_,_,_,ks',rvs,rfl,λc o n1 n2 hc=>w1 _ _ (k6 c o n1 n2 (s4 c o n1 n2 hc)),w1 _ _ ho6,da6.keep w1.tk,by omega,w1 _ _ hr6,?_,by omega⟩;rw [if_pos e11] at pr6 ⊢;exact pr6.keep w1.tk
   ·rintro σ H4 ⟨v7,v8,kvs,ks,rvs,rfl,s4,ho4,da,kl,hr4,pr4,rvl⟩
    have kp:∀ c o,H c=some o->H4 c=some o:=λc o hc=>s4 c o (λe=>by rw [e,od0] at hc;cases hc) (λe=>by rw [e,rl0] at hc;cases hc) (s03 _ _ hc);have zl:(ys.map (zf t b')).take ms.length=ys.map (zf t b'):=by rw [pl,<- Ag (f:=zf t b'),BH]
    have rl':(ys.map (rf t b')).take ms.length=ys.map (rf t b'):=by rw [pl,<- Ag (f:=rf t b'),BH]
    rw [zl] at da;rw [rl'] at pr4;have sH:Same H H4:=λc o hc=>kp c o hc;have il:=(Ae.mp hv).1;refine ⟨_,rfl,l,_,rfl,.inl (SqL.of (kp _ _ hl)),λfl nfl=>?_⟩;have w5:=Same.upd (o:=.lst vs) nfl;refine ⟨_,rfl,rl,_,rfl,.inl ⟨SqL.of (w5 _ _ hr4),λtz ntz=>⟨_,rfl,zLn2,λzt nzt=>?_⟩⟩⟩;have w6:=Same.upd (o:=.tup rvs) ntz;have w7:=Same.upd (o:=.tup [.ref tz,.ref nn]) nzt;have w57:=(w5.trans w6).trans w7;have hfl:upd (upd (upd H4 fl (.lst vs)) tz (.tup rvs)) zt (.tup [.ref tz,.ref nn]) fl=some (.lst vs):=(w6.trans w7) _ _ aB;have htz:upd (upd (upd H4 fl (.lst vs)) tz (.tup rvs)) zt (.tup [.ref tz,.ref nn]) tz=some (.tup rvs):=w7 _ _ aB;have hzt:upd (upd (upd H4 fl (.lst vs)) tz (.tup rvs)) zt (.tup [.ref tz,.ref nn]) zt=some (.tup [.ref tz,.ref nn]):=aB;generalize upd (upd (upd H4 fl (.lst vs)) tz (.tup rvs)) zt (.tup [.ref tz,.ref nn])=H7 at w57 hfl htz hzt ⊢;refine ⟨_,rfl,a,_,_,rfl,SqT.of (w57 _ _ (kp _ _ hra)),rfl,fl,vs,(i:Int),i,rfl,rfl,hfl,jC il,?_⟩;have fl0:H fl=none:=sm0 sH nfl;have tk8:∀ c o,c≠fl->H7 c=some o->upd H7 fl (.lst (vs.set i (.ref zt))) c=some o:=λc o n hc=>by rw [aH n];exact hc
    have s8:Same H (upd H7 fl (.lst (vs.set i (.ref zt)))):=λc o hc=>tk8 c o (λe=>by rw [e,fl0] at hc;cases hc) (w57 _ _ (kp _ _ hc));have t8:Tk H7 (upd H7 fl (.lst (vs.set i (.ref zt)))):=λc ts hc=>tk8 c _ (λe=>by rw [e,hfl] at hc;cases hc) hc;have fl8:upd H7 fl (.lst (vs.set i (.ref zt))) fl=some (.lst (vs.set i (.ref zt))):=aB;have od8:upd H7 fl (.lst (vs.set i (.ref zt))) od=some (.dK kvs):=tk8 _ _ (λe=>by rw [<- e,ho4] at nfl;cases nfl) (w57 _ _ ho4);have da8:=(da.keep w57.tk).keep t8;have pr8:=(pr4.keep w57.tk).keep t8;have tz8:=t8 _ _ htz;have zt8:=t8 _ _ hzt;generalize upd H7 fl (.lst (vs.set i (.ref zt)))=H8 at s8 fl8 od8 da8 pr8 tz8 zt8 ⊢;have ew:(NW (M*b') (ys.map (zf t b')))=λy=>di.1 y*t:=funext nwz;have o8:=o.keep s8;have sc:=o.so.scale b0 g4.bb;refine ⟨_,rfl,_,rfl,a,_,_,rfl,SqT.of (s8 _ _ hra),rfl,_,rfl,_,rfl,b,r,q,fl,od,nn,rs,us,ps,rbs,ws,M*b',(scl b' S).set i (λy=>di.1 y*b'-di.1 y*t,di.2),j,(λy=>dj.1 y*b',dj.2),rbj,kvs,ks,ys.map (zf t b'),di.2,rfl,?_,by rw [ew];exact kI'.mono s8⟩;have mxr:IsMx (M*b') (λy=>di.1 y*b'-di.1 y*t) (if ([t,b']:List Int)=[1,1] then [] else ys.map (rf t b')):=by
     split
     ·rename_i e
      injection e with e1 e2;injection e2 with e2 _;exact rJ.congr λy=>by rw [e1,e2,Int.sub_self]
     ·rename_i e
      have tb:t≠b':=λz=>e (by
       rw [<- z] at am ⊢;rw [aA7 am])
      refine ⟨by rw [rmm];exact mx.pw,by rw [rmm];exact mx.nd,λy=>?_,frr⟩;rw [rmm,mx.mem,<- Int.mul_sub];constructor
      ·intro h z
       rcases Fk.mp z with z|z
       ·exact h z
       ·omega
      ·intro h z
       exact h (by rw [z,Co])
    have S1:StV H8 fl (M*b') ((scl b' S).set i (λy=>di.1 y*b'-di.1 y*t,di.2)):=(o.st.scale M0 b0).put hl s8 fl8 ⟨zt,tz,nn,rvs,_,rfl,zt8,tz8,pr8,mxr,s8 _ _ hnn⟩;have nl:di.2.length<=6:=Bh ((fU okd.srt).length_le_of_subset okd.nin) o.bs.ww.l;refine ⟨o8.bs,S1,by rw [CT];unfold scl;rw [Ag,o.so.sl];exact o.bs.rm.1.symm,λd hd=>?_,by rw [BU g3];exact fJ hdj,hrj,od8,da8,λz hz=>⟨(fz z hz).am,(fz z hz).dvd⟩,λz hz=>?_,λy hy=>?_,.inr (SqT.of (s8 _ _ hnn)),okd.nin,by omega,Mb,(o.so.bm.mul g4.bb).mono (by have:=o.b24;omega),?_⟩
    ·rcases Ft hd with h|h
     ·exact sc.ok d h
     ·rw [h]
      refine ⟨λy=>?_,okd.nin,okd.srt,λy hy=>okd.inw y λe=>hy (by show di.1 y*b'-di.1 y*t=0;rw [e,Co,Co];rfl)⟩;have:=Bg g6 (okd.nn y);show 0<=di.1 y*b'-di.1 y*t;omega
    ·obtain ⟨y,hy,rfl⟩:=AS.mp hz
     exact okd.inw y.1 ((mx.mem y.1).mp (Cy hy))
    ·rw [nwz]
     have h1:=(da.2.1 y).mp hy;rw [zm] at h1;have h2:=(mx.mem y).mp h1;have h3:=okd.nn y;exact Ba (by omega) (by omega)
    ·rw [ew]
     show Bt 2900 (tot ws (λy=>dj.1 y*b'+di.1 y*t));rw [iH (λy=>dj.1 y*b') (λy=>di.1 y*t) ws,gF,gF];obtain ⟨vi,hvi⟩:∃ vi,rs[i]?=some vi:=⟨_,Ad g1⟩;obtain ⟨rbi,hri,_,_,_,rmi⟩:=o.bs.rm.get hvi;obtain ⟨_,tb1⟩:=o.so.small hdi hri rmi;obtain ⟨_,tb2⟩:=o.so.small hdj hrj (o.bs.rm.at hrj);have b24:=o.b24;have h1:Bt 2800 (tot ws dj.1*b'):=(tb2.mul g4.bb).mono (by omega);have h2:Bt 2800 (tot ws di.1*t):=(tb1.mul g4.bt).mono (by omega);exact (h1.add h2).mono (by decide)
end
def ResL (us:List V)(ps:List (Str×Str))(rbs:List (Int×Int))(ws:List Str)(M:Int)(S:List PF)(H:Hp)(Q:VK):Rw->Prop
 |.draw i x t b=>∃ d rb,S[i]?=some d/\rbs[i]?=some rb/\IntoL us ps ws (M*sk M b) (scl (sk M b) S) i (λy=>d.1 y*sk M b,d.2) rb (oneW x (nF M t b)) [x] H Q
 |.fill i x t b=>∃ d rb,S[i]?=some d/\rbs[i]?=some rb/\(¬ tot ws d.1*b<t*M->RefL "low" i H Q)/\(tot ws d.1*b<t*M->IntoL us ps ws (M*sk M b) (scl (sk M b) S) i (λy=>d.1 y*sk M b,d.2) rb (oneW x (nF M t b-tot ws d.1*sk M b)) [x] H Q)
 |.pour i j t b=>∃ di dj rbj,S[i]?=some di/\S[j]?=some dj/\rbs[j]?=some rbj/\((∀ y,di.1 y=0)->RefL "dry" i H Q)/\(¬ (∀ y,di.1 y=0)->IntoL us ps ws (M*b) ((scl b S).set i (λy=>di.1 y*b-di.1 y*t,di.2)) j (λy=>dj.1 y*b,dj.2) rbj (λy=>di.1 y*t) di.2 H Q)
 |.empty i=>∃ d,S[i]?=some d/\∀ z l' H',Same H H'->H l'=none->H' z=some (.tup [.non,.ref l'])->StV H' l' M (S.set i (λ_=>0,d.2))->Q (.ref z) H'
 |.rinse i=>∃ d,S[i]?=some d/\(¬ (∀ y,d.1 y=0)->RefL "wet" i H Q)/\((∀ y,d.1 y=0)->∀ z l' H',Same H H'->H l'=none->H' z=some (.tup [.non,.ref l'])->StV H' l' M (S.set i (λ_=>0,[]))->Q (.ref z) H')
def lA (K:Aa):Sp:=λvs H Q _=>∃ b r q l a rs us ps rbs ws M S β rw,vs=[.ref b,.ref l,.ref a]/\OnIn H b r q l rs us ps rbs ws M S β/\RwV H a rw/\GoodR rs.length ws rw/\ScR M rw/\ResL us ps rbs ws M S H Q rw
theorem rQ {M t b N rt rb:Int}(hM:0<M)(h:Fr M t b N):decide (t*rb<rt*b)=decide (N*rb<rt*M):=by
 have b0:0<b:=by have:=h.am.b1;omega
 refine decide_eq_decide.mpr ?_;have e1:rt*b*M=rt*M*b:=AJ ..;have e2:t*rb*M=N*rb*b:=by rw [AJ,h.e,AJ]
 rw [<- Du hM,e1,e2,Du b0]
def law1 {K:Aa}{H:Hp}{b r q l dd nl qa:Addr}{rs us:List V}{ps:List (Str×Str)}{rbs:List (Int×Int)}{ws:List Str}{M:Int}{S:List PF}{β i:Nat}{d:PF}{rb:Int×Int}{x:Str}{t t' b' N:Int}
  (o:OnIn H b r q l rs us ps rbs ws M S β) (hd:S[i]?=some d) (hr:rbs[i]?=some rb) (xw:x∈ws) (fr:Fr (M*t') t b' N) (N0:0<N) (bN:Bt 2800 N) (t0:0<t') (bt':Bt 200 t')
  (hm:H dd=some (.dK [(AN x,.ref qa)])) (hq:H qa=some (.tup [.int t,.int b'])) (hn:H nl=some (.lst [.str x])) :
  LawIn K H b r q l dd nl rs us ps rbs ws (M*t') (scl t' S) i (λy=>d.1 y*t',d.2) rb [(AN x,.ref qa)] [x] [(x,t,b')] [x]:=by
 have rm:=o.bs.rm.at hr;obtain ⟨n0,sm⟩:=o.so.small hd hr rm;have b24:=o.b24;have ss:=o.so.scale t0 bt';have Mb:=Ba o.so.m0 t0;have nw:=nw1 (x:=x) Mb fr;refine ⟨o.bs,o.st.scale o.so.m0 t0,by unfold scl;rw [Ag,o.so.sl];exact o.bs.rm.1.symm,ss.ok,fJ hd,hr,hm,⟨⟨rfl,by simp⟩,λy=>Iff.rfl,λy hy=>?_⟩,λz hz=>?_,λz hz=>?_,λy hy=>?_,.inl (SqL.of hn),λz hz=>?_,(by show 1<=20;decide),Mb,(o.so.bm.mul bt').mono (by omega),?_⟩
 ·rw [AB.mp hy,nw]
  refine ⟨qa,t,b',?_,hq,?_⟩
  ·unfold valV
   simp
  ·unfold oneW
   rw [if_pos rfl];exact fr
 ·rw [AB.mp hz]
  exact ⟨fr.am,fr.dvd⟩
 ·rw [AB.mp hz]
  exact xw
 ·rw [AB.mp hy,nw]
  unfold oneW;rw [if_pos rfl];exact N0
 ·rw [AB.mp hz]
  exact xw
 ·rw [nw]
  show Bt 2900 (tot ws (λy=>d.1 y*t'+oneW x N y));rw [iH (λy=>d.1 y*t') (oneW x N) ws,gF,oR o.bs.ww.nd xw];have h1:Bt 2800 (tot ws d.1*t'):=(sm.mul bt').mono (by omega);exact (h1.add (bN.mono (by decide))).mono (by decide)
section
variable {P:Az}{w:World}{K:Aa}{mg:Str->Option Value}{base:Heap}
abbrev Naft:List Str:=["_law_bench_here","_law_state","_law_row_here","_law_lies","_law_found"]
def aC2:FnScope Naft ["_law_bench_here","_law_state","_law_row_here"] (aI sAfter):=fnScOk (by decide +kernel)
def aAk {f:Addr}{fd:Bf}(F:Fun K "_law_after" "_law_after" sAfter f fd)(T:Txt mg)(cI:Cal P w K mg base CX0 5 "_law_into" ["_law_bench_here","_law_state","_law_phial","_law_more","_law_names_here"] (qN K))(cP:Cal P w K mg base CX0 5 "_law_poured" ["_law_bench_here","_law_state","_law_row_here"] (kN K))(cS:Cal P w K mg base CX0 5 "_law_sum" ["_law_held"] (sV K))(cU:Cal P w K mg base CX0 5 "_law_under" ["_law_one","_law_other"] (fO K))(cT:Cal P w K mg base CX0 5 "_law_take" ["_law_one","_law_other"] (mG K)):FnOk P w K mg base CX0 6 f fd ["_law_bench_here","_law_state","_law_row_here"] (lA K):=by
 refine F.ok aC2 (λvs H Q E h=>?_) (λcdv A outer s H vs Q E hr h=>?_)
 ·obtain ⟨_,_,_,_,_,_,_,_,_,_,_,_,_,_,rfl,_⟩:=h
  rfl
 ·obtain ⟨b,r,q,l,a,rs,us,ps,rbs,ws,M,S,β,rw',rfl,o,rv,gr,scr,res⟩:=h
  refine ⟨_,(aD (bF (aS dB (pit 2 0) aU (aV _))
    (aG (aL (aJ cI hr rfl aQ (aA (pv 0) (aA (pv 1) (aA (pit 2 1) (aA (vV (qY (pit 2 2) (pit 2 3) vJ) rfl rfl (by simp) (by simp)) (aA (cJ (aA (pit 2 2) aC)) aC))))))))
    aP)
   (aD (bF (aS dB (pit 2 0) aU (aV _))
    (aG (aL (aJ cP hr rfl aQ (aA (pv 0) (aA (pv 1) (aA (pv 2) aC))))))
    aP)
   (aD (bF (aS dB (pit 2 0) aU (aV _))
    (aD (aM (i:=3) aC2.nd rfl (Or.inl rfl) (aJ cS hr rfl aQ (aA (aZ (fE rfl) rfl T.dict' lW (aA (bH dW (bH bB (pv 1) (pit 2 1) (λ_ _=>rfl)) aE (λ_ _=>rfl)) aC)) aC)))
    (aD (bF (eD (cV (aJ cU hr rfl aQ (aA (pv 3) (aA (pit 2 3) aC)))))
     (aG (aL (aW (aA (aW (aA aU (aA (pit 2 1) (aA dU aC)))) (aA dU aC)))))
     aP)
    (aG (aL (aJ cI hr rfl aQ (aA (pv 0) (aA (pv 1) (aA (pit 2 1) (aA (vV (qY (pit 2 2) (aJ cT hr rfl aQ (aA (pit 2 3) (aA (pv 3) aC))) vJ) rfl rfl (by simp) (by simp)) (aA (cJ (aA (pit 2 2) aC)) aC))))))))))
    aP)
   (aD (aM (i:=4) aC2.nd rfl (Or.inl rfl) (aZ bX rfl T.list' eO (aA (pv 1) aC)))
   (aD (bF (PW.pt (mT (aS dB (pit 2 0) aU (aV _)) (iQ (aS (aDi hr.units) (bH dW (bH bB (pv 4) (pit 2 1) (λ_ _=>rfl)) aE (λ_ _=>rfl)) (aW aC) (aV _)))))
    (aG (aL (aW (aA (aW (aA aU (aA (pit 2 1) (aA dU aC)))) (aA dU aC)))))
    aP)
   (aD (gU (aW (aA (aW aC) (aA (bH bB (cJ (aA (bH dW (bH bB (pv 4) (pit 2 1) (λ_ _=>rfl)) aE (λ_ _=>rfl)) (aA (aW aC) aC))) (aZ yL rfl T.int' yM (aA (dH dB (pit 2 0) aU (aV _)) aC)) (λ_ _=>rfl)) aC))) (mW (pv 4) (pit 2 1) set_list))
   (aG (aL (aW (aA dU (aA (pv 4) aC))))))))))),?_⟩
  refine cut7 ?_
  intros
  have b24:=o.b24;cases rw' with
  |draw i x t b'=>
   obtain ⟨q',h1,h2⟩:=rv;obtain ⟨g1,g2,g3,g4⟩:=gr;obtain ⟨d,rb,hd,hrb,kI⟩:=res;have sq:=SqT.of (K:=K) h1;have b0:0<b':=by have:=g3.am.b1;omega
   refine ⟨a,_,_,rfl,sq,rfl,rfl,_,rfl,iteT ⟨_,rfl,_,rfl,a,_,_,rfl,sq,rfl,λdd ndd=>?_⟩⟩;have s1:=Same.upd (o:=.dK []) ndd;refine ⟨a,_,_,rfl,SqT.of (s1 _ _ h1),rfl,a,_,_,rfl,SqT.of (s1 _ _ h1),rfl,aB,[(.inr x,.ref q')],rfl,by show 1<=15;decide,?_⟩;have s2:Same H (upd (upd H dd (.dK [])) dd (.dK [(.inr x,.ref q')])):=λc o hc=>by
    have n:c≠dd:=λe=>by rw [e,ndd] at hc;cases hc
    rw [aH n,aH n];exact hc
   refine ⟨a,_,_,rfl,SqT.of (s2 _ _ h1),rfl,zLn1,λnl nnl=>?_⟩;have s3:=Same.upd (o:=.lst [.str x]) nnl;have k0:=eI (M:=M) g3.am.b1;have Mb:=Ba o.so.m0 k0;have fr:Fr (M*sk M b') t b' (nF M t b'):=pI g3.am;refine ⟨b,r,q,l,dd,nl,rs,us,ps,rbs,ws,M*sk M b',scl (sk M b') S,i,_,rb,_,[x],[(x,t,b')],[x],rfl,law1 (o.keep (s2.trans s3)) hd hrb g2 fr (aGd o.so.m0 g3.am g4) ((aAn o.so.m0 g3 o.so.bm scr).mono (by omega)) k0 scr (s3 _ _ aB) ((s2.trans s3) _ _ h2) aB,?_⟩;rw [nw1 Mb fr];exact kI.mono (s2.trans s3)
  |fill i x t b'=>
   obtain ⟨q',h1,h2⟩:=rv;obtain ⟨g1,g2,g3⟩:=gr;obtain ⟨d,rb,hd,hrb,kL,kI⟩:=res;have sq:=SqT.of (K:=K) h1;have b0:0<b':=by have:=g3.am.b1;omega
   have M0:=o.so.m0;obtain ⟨vs,v,hl,vl,hv,a1,mm,nn,ms,ys,rfl,ha1,hmm,pr,mx,hnn⟩:=o.st.get hd;have okd:=o.so.ok d (Av hd);obtain ⟨kv0,k1,k2,k3,k4⟩:=vI pr;have nd0:(kv0.map (·.1)).Nodup:=by
    rw [k2];exact Cg.mpr (mx.nd.imp λh e=>h (AN.inj e))
   obtain ⟨n0,sm⟩:=o.so.small hd hrb (o.bs.rm.at hrb);have tS:sumN M ys=tot ws d.1:=gE o.bs.ww.nd mx okd.inw;refine ⟨a,_,_,rfl,sq,rfl,rfl,_,rfl,iteF ⟨a,_,_,rfl,sq,rfl,rfl,_,rfl,iteF ⟨a,_,_,rfl,sq,rfl,rfl,_,rfl,iteT ⟨_,rfl,a,_,_,rfl,sq,rfl,l,_,(i:Int),.ref a1,rfl,rfl,SqL.of hl,bD hv,a1,_,0,.ref mm,rfl,rfl,SqT.of ha1,rfl,mm,ms,kv0,rfl,hmm,k1,nd0,k3,λp np=>?_⟩⟩⟩⟩;have s1:=Same.upd (o:=.dK kv0) np;have da1:DA (upd H p (.dK kv0)) M ys kv0 (ys.map (·.1)):=⟨⟨k2,mx.nd⟩,λy=>Iff.rfl,λy hy=>by
    obtain ⟨x',hx,rfl⟩:=AS.mp hy;obtain ⟨q2,mq,hq'⟩:=k4 x' hx;refine ⟨q2,_,_,kH nd0 mq,s1 _ _ hq',?_⟩;rw [mx.nw];exact mx.fr x' hx⟩
   refine ⟨p,kv0,ys.map (·.1),M,ys,rfl,aB,da1,M0,o.so.bm.mono (by omega),mx.over,by rw [tS];exact sm.mono (by omega),λli tl bl H2 s2 hli frl=>?_⟩;rw [tS] at frl;have s02:=s1.trans s2;have fsm:=dQ M0 frl;have bl1:=frl.am.b1;have tw:Tw K H2 li q' tl bl t b':=⟨SqT.of hli,SqT.of (s02 _ _ h2),frl.am,g3.am,(sm.le frl.am.t0 fsm.1).mono (by omega),(o.so.bm.le (by omega) fsm.2).mono (by omega),g3.bt.mono (by decide),g3.bb.mono (by decide)⟩;refine ⟨_,rfl,a,_,_,rfl,SqT.of (s02 _ _ h1),rfl,li,q',tl,bl,t,b',rfl,tw,_,rfl,?_⟩;rw [rQ M0 frl];refine ite2 (λc=>?_) (λc=>?_)
   ·have c':¬ tot ws d.1*b'<t*M:=λz=>by rw [decide_eq_true z] at c;cases c
    refine ⟨a,_,_,rfl,SqT.of (s02 _ _ h1),rfl,zLn3,λt3 nt3=>⟨zLn2,λzz nzz=>?_⟩⟩;have w1:=Same.upd (o:=.tup [.str "low",.int ((i:Nat):Int),.non]) nt3;have w2:=Same.upd (o:=.tup [.ref t3,.non]) nzz;exact kL c' zz t3 _ ((s02.trans w1).trans w2) aB (w2 _ _ aB)
   ·have c':tot ws d.1*b'<t*M:=BG λz=>c (by rw [decide_eq_false z];rfl)
    have k0:=eI (M:=M) g3.am.b1;have c2:=(aD5 (T:=tot ws d.1) M0 g3.am).mp c';obtain ⟨le,fo⟩:=xP M0 g3.am frl c';refine ⟨_,rfl,_,rfl,a,_,_,rfl,SqT.of (s02 _ _ h1),rfl,λdd ndd=>?_⟩;have s3:=Same.upd (o:=.dK []) ndd;have s03:=s02.trans s3;refine ⟨a,_,_,rfl,SqT.of (s03 _ _ h1),rfl,a,_,_,rfl,SqT.of (s03 _ _ h1),rfl,_,rfl,q',li,t,b',tl,bl,rfl,⟨SqT.of (s03 _ _ h2),SqT.of (s3 _ _ hli),tw.a2,tw.a1,tw.st2,tw.sb2,tw.st1,tw.sb1⟩,le,λpo H4 s4 hpo=>⟨s4 _ _ aB,[(.inr x,.ref po)],rfl,by show 1<=15;decide,?_⟩⟩;have dd4:=s4 _ _ (aB (H:=H2) (a:=dd) (o:=.dK []));have dd0:H dd=none:=sm0 s02 ndd;have s5:Same H (upd H4 dd (.dK [(.inr x,.ref po)])):=λc o hc=>by
     rw [aH λe=>by rw [e,dd0] at hc;cases hc];exact (s03.trans s4) _ _ hc
    have pod:po≠dd:=λe=>by rw [e,dd4] at hpo;cases hpo
    have po5:=(aH (H:=H4) (o:=.dK [(.inr x,.ref po)]) pod).trans hpo;refine ⟨a,_,_,rfl,SqT.of (s5 _ _ h1),rfl,zLn1,λnl nnl=>?_⟩;have s6:=Same.upd (o:=.lst [.str x]) nnl;have Mb:=Ba M0 k0;refine ⟨b,r,q,l,dd,nl,rs,us,ps,rbs,ws,M*sk M b',scl (sk M b') S,i,_,rb,_,[x],[(x,_,_)],[x],rfl,law1 (o.keep (s5.trans s6)) hd hrb g2 fo (by omega) (((aAn M0 g3 o.so.bm scr).le (by omega) (by have:=Bk n0 (Er k0);omega)).mono (by omega)) k0 scr (s6 _ _ aB) (s6 _ _ po5) aB,?_⟩;rw [nw1 Mb fo];exact (kI c').mono (s5.trans s6)
  |pour i j t b'=>
   obtain ⟨q',h1,h2⟩:=id rv;obtain ⟨di,dj,rbj,k1,k2,k3,k4,k5⟩:=res;have sq:=SqT.of (K:=K) h1;refine ⟨a,_,_,rfl,sq,rfl,rfl,_,rfl,iteF ⟨a,_,_,rfl,sq,rfl,rfl,_,rfl,iteT ⟨_,rfl,_,rfl,_,rfl,?_⟩⟩⟩;exact ⟨b,r,q,l,a,rs,us,ps,rbs,ws,M,S,β,i,j,t,b',di,dj,rbj,rfl,o,rv,gr,k1,k2,k3,k4,k5⟩
  |empty i=>
   have h1:H a=some (.tup [.str "empty",.int ((i:Nat):Int)]):=rv;obtain ⟨d,hd,k⟩:=res;have sq:=SqT.of (K:=K) h1;obtain ⟨vs,v,hl,vl,hv,a1,mm,nn,ms,ys,rfl,ha1,hmm,pr,mx,hnn⟩:=o.st.get hd;have il:=(Ae.mp hv).1;refine ⟨a,_,_,rfl,sq,rfl,rfl,_,rfl,iteF ⟨a,_,_,rfl,sq,rfl,rfl,_,rfl,iteF ⟨a,_,_,rfl,sq,rfl,rfl,_,rfl,iteF ⟨_,rfl,l,_,rfl,.inl (SqL.of hl),λfl nfl=>?_⟩⟩⟩⟩;have s1:=Same.upd (o:=.lst vs) nfl;have hfl:upd H fl (.lst vs) fl=some (.lst vs):=aB;generalize upd H fl (.lst vs)=H1 at s1 hfl ⊢;refine ⟨a,_,_,rfl,SqT.of (s1 _ _ h1),rfl,rfl,_,rfl,iteF ⟨zLn0,λe0 ne0=>?_⟩⟩;have s2:=Same.upd (o:=.tup []) ne0;have he0:upd H1 e0 (.tup []) e0=some (.tup []):=aB;generalize upd H1 e0 (.tup [])=H2 at s2 he0 ⊢;have s02:=s1.trans s2;refine ⟨_,rfl,a,_,_,rfl,SqT.of (s02 _ _ h1),rfl,fl,_,(i:Int),.ref a1,rfl,rfl,SqL.of (s2 _ _ hfl),bD hv,a1,_,1,.ref nn,rfl,rfl,SqT.of (s02 _ _ ha1),rfl,zLn0,λe1 ne1=>⟨zLn2,λll nll=>?_⟩⟩;have s3:=Same.upd (o:=.tup []) ne1;have s4:=Same.upd (o:=.lst [.ref nn,.ref e1]) nll;have s24:=s3.trans s4;have s04:=s02.trans s24;refine ⟨a,_,_,rfl,SqT.of (s04 _ _ h1),rfl,rfl,.inr ⟨_,rfl,ll,_,0,.ref nn,rfl,rfl,SqL.of aB,rfl,zLn2,λzt nzt=>?_⟩⟩;have s5:=Same.upd (o:=.tup [.ref e0,.ref nn]) nzt;have hfl5:=(s24.trans s5) _ _ (s2 _ _ hfl);have he05:=(s24.trans s5) _ _ he0;have s05:=s04.trans s5;have hn5:=s05 _ _ hnn;have hzt:upd _ zt (.tup [.ref e0,.ref nn]) zt=some (.tup [.ref e0,.ref nn]):=aB (H:=upd (upd H2 e1 (.tup [])) ll (.lst [.ref nn,.ref e1]));generalize upd (upd (upd H2 e1 (.tup [])) ll (.lst [.ref nn,.ref e1])) zt (.tup [.ref e0,.ref nn])=H5 at s05 hfl5 he05 hn5 hzt ⊢;refine ⟨_,rfl,a,_,_,rfl,SqT.of (s05 _ _ h1),rfl,fl,vs,(i:Int),i,rfl,rfl,hfl5,jC il,?_⟩;refine ⟨_,rfl,zLn2,λzz nzz=>?_⟩;have fl0:H fl=none:=nfl;have sF:Same H (upd (upd H5 fl (.lst (vs.set i (.ref zt)))) zz (.tup [.non,.ref fl])):=λc o hc=>(Same.upd nzz) _ _ (by rw [aH (λe=>by rw [e,fl0] at hc;cases hc)];exact s05 _ _ hc);have tkF:Tk H5 (upd (upd H5 fl (.lst (vs.set i (.ref zt)))) zz (.tup [.non,.ref fl])):=λc ts hc=>(Same.upd nzz) _ _ (by rw [aH (λe=>by rw [e,hfl5] at hc;cases hc)];exact hc);exact k zz fl _ sF fl0 aB (o.st.put hl sF ((Same.upd nzz) _ _ aB) ⟨zt,e0,nn,[],[],rfl,tkF _ _ hzt,tkF _ _ he05,.nil,rJ,tkF _ _ hn5⟩)
  |rinse i=>
   have h1:H a=some (.tup [.str "rinse",.int ((i:Nat):Int)]):=rv;obtain ⟨d,hd,kB,kG⟩:=res;have sq:=SqT.of (K:=K) h1;obtain ⟨vs,v,hl,vl,hv,a1,mm,nn,ms,ys,rfl,ha1,hmm,pr,mx,hnn⟩:=o.st.get hd;have il:=(Ae.mp hv).1;refine ⟨a,_,_,rfl,sq,rfl,rfl,_,rfl,iteF ⟨a,_,_,rfl,sq,rfl,rfl,_,rfl,iteF ⟨a,_,_,rfl,sq,rfl,rfl,_,rfl,iteF ⟨_,rfl,l,_,rfl,.inl (SqL.of hl),λfl nfl=>?_⟩⟩⟩⟩;have s1:=Same.upd (o:=.lst vs) nfl;have hfl:upd H fl (.lst vs) fl=some (.lst vs):=aB;generalize upd H fl (.lst vs)=H1 at s1 hfl ⊢;have pl:=pr.length;refine ⟨a,_,_,rfl,SqT.of (s1 _ _ h1),rfl,rfl,_,rfl,iteT ⟨_,rfl,a,_,_,rfl,SqT.of (s1 _ _ h1),rfl,fl,_,(i:Int),.ref a1,rfl,rfl,SqL.of hfl,bD hv,a1,_,0,.ref mm,rfl,rfl,SqT.of (s1 _ _ ha1),rfl,zLn0,λx0 nx0=>⟨mm,x0,_,rfl,rfl,SqT.of ((Same.upd nx0) _ _ (s1 _ _ hmm)),SqT.of aB,_,rfl,ite2 (λc=>?_) (λc=>?_)⟩⟩⟩
   ·have ne:¬ (∀ y,d.1 y=0):=λz=>by
     have:=(lJ mx).mpr z;subst this;have:ms=[]:=CN.mp pl;subst this;exact absurd c (by decide)
    have w0:=Same.upd (o:=.tup []) nx0;refine ⟨a,_,_,rfl,SqT.of ((s1.trans w0) _ _ h1),rfl,zLn3,λt3 nt3=>⟨zLn2,λzz nzz=>?_⟩⟩;have w1:=Same.upd (o:=.tup [.str "wet",.int ((i:Nat):Int),.non]) nt3;have w2:=Same.upd (o:=.tup [.ref t3,.non]) nzz;exact kB ne zz t3 _ (((s1.trans w0).trans w1).trans w2) aB (w2 _ _ aB)
   have em:ms=[]:=by
    cases ms with
    |nil=>rfl
    |cons u r=>exact absurd rfl c
   have zr:∀ y,d.1 y=0:=(lJ mx).mp (CN.mp (by rw [<- pl,em];rfl));have k:=kG zr;have w0:=Same.upd (o:=.tup []) nx0;replace s1:=s1.trans w0;replace hfl:=w0 _ _ hfl;generalize upd H1 x0 (.tup [])=H1' at s1 hfl ⊢;refine ⟨zLn0,λe0 ne0=>?_⟩;have s2:=Same.upd (o:=.tup []) ne0;have he0:upd H1' e0 (.tup []) e0=some (.tup []):=aB;generalize upd H1' e0 (.tup [])=H2 at s2 he0 ⊢;have s02:=s1.trans s2;refine ⟨_,rfl,a,_,_,rfl,SqT.of (s02 _ _ h1),rfl,fl,_,(i:Int),.ref a1,rfl,rfl,SqL.of (s2 _ _ hfl),bD hv,a1,_,1,.ref nn,rfl,rfl,SqT.of (s02 _ _ ha1),rfl,zLn0,λe1 ne1=>⟨zLn2,λll nll=>?_⟩⟩;have s3:=Same.upd (o:=.tup []) ne1;have s4:=Same.upd (o:=.lst [.ref nn,.ref e1]) nll;have s24:=s3.trans s4;have s04:=s02.trans s24;refine ⟨a,_,_,rfl,SqT.of (s04 _ _ h1),rfl,rfl,.inr ⟨_,rfl,ll,_,1,.ref e1,rfl,rfl,SqL.of aB,rfl,zLn2,λzt nzt=>?_⟩⟩;have s5:=Same.upd (o:=.tup [.ref e0,.ref e1]) nzt;have hfl5:=(s24.trans s5) _ _ (s2 _ _ hfl);have he05:=(s24.trans s5) _ _ he0;have s05:=s04.trans s5;have he1:upd (upd H2 e1 (.tup [])) ll (.lst [.ref nn,.ref e1]) e1=some (.tup []):=s4 _ _ aB;have hn5:=s5 _ _ he1;have hzt:upd _ zt (.tup [.ref e0,.ref e1]) zt=some (.tup [.ref e0,.ref e1]):=aB (H:=upd (upd H2 e1 (.tup [])) ll (.lst [.ref nn,.ref e1]));generalize upd (upd (upd H2 e1 (.tup [])) ll (.lst [.ref nn,.ref e1])) zt (.tup [.ref e0,.ref e1])=H5 at s05 hfl5 he05 hn5 hzt ⊢;refine ⟨_,rfl,a,_,_,rfl,SqT.of (s05 _ _ h1),rfl,fl,vs,(i:Int),i,rfl,rfl,hfl5,jC il,?_⟩;refine ⟨_,rfl,zLn2,λzz nzz=>?_⟩;have fl0:H fl=none:=nfl;have sF:Same H (upd (upd H5 fl (.lst (vs.set i (.ref zt)))) zz (.tup [.non,.ref fl])):=λc o hc=>(Same.upd nzz) _ _ (by rw [aH (λe=>by rw [e,fl0] at hc;cases hc)];exact s05 _ _ hc);have tkF:Tk H5 (upd (upd H5 fl (.lst (vs.set i (.ref zt)))) zz (.tup [.non,.ref fl])):=λc ts hc=>(Same.upd nzz) _ _ (by rw [aH (λe=>by rw [e,hfl5] at hc;cases hc)];exact hc);exact k zz fl _ sF fl0 aB (o.st.put hl sF ((Same.upd nzz) _ _ aB) ⟨zt,e0,e1,[],[],rfl,tkF _ _ hzt,tkF _ _ he05,.nil,rJ,tkF _ _ hn5⟩)
end
def uS (C c1 c3 c4:Addr):Sp:=λvs H Q E=>∃ p dx b r q l qa rs us ps rbs ws M S β i d rb x t b' n,vs=[.ref p,.ref b,.ref l,.int (n:Nat)]/\n<1000/\H p=some (.ins C dx (fs3 "phial" "ware" "level" (.int (i:Nat)) (.str x) (.ref qa)))/\H qa=some (.tup [.int t,.int b'])/\RwL t b'/\Bt 200 (sk M b')/\x∈ws/\OnIn H b r q l rs us ps rbs ws M S β/\S[i]?=some d/\rbs[i]?=some rb /\
 (¬ tot ws d.1*b'<t*M->BadE c1 [("phial",.int (i:Nat)),("place",.int (n:Nat))] H E)/\(tot ws d.1*b'<t*M->IntoR c3 c4 us ps ws (M*sk M b') (scl (sk M b') S) i (λy=>d.1 y*sk M b',d.2) rb (oneW x (nF M t b'-tot ws d.1*sk M b')) [x] n H Q E)
section
variable {P:Az}{w:World}{K:Aa}{mg:Str->Option Value}{base:Heap}{cP c0 c1 c2 c3 c4 c5 f1 f3 f4 C:Addr}
abbrev Nof:List Str:=["self","bench","phials","place","lies","comes"]
def pC:FnScope Nof Non (aI qR):=fnScOk (by decide +kernel)
def zY {f:Addr}{fd g1:Bf}(F:Fun K "onto_at" "Fill.onto_at" qR f fd)(D:DCl K C ["phial","ware","level"])(R:ErB K mg cP c0 c1 c2 c3 c4 c5 f1 f3 f4)(F1:FnOk P w K mg base CX0 1 f1 g1 ["self","place","phial"] (spI2 c1))(b1:Binds K g1 ["self","place","phial"] [])
  (cW:Cal P w K mg base CX0 6 "whole" ["one"] (hW K)) (cL:Cal P w K mg base CX0 6 "less" ["one","other"] (fO K)) (cMi:Cal P w K mg base CX0 6 "minus" ["one","other"] (kU K)) (cM:Cal P w K mg base (CXg P w) 6 "with_more" ["bench","phials","phial","comes","names","place"] (qM K c3 c4)):FnOk P w K mg base (CXg P w) 7 f fd Non (uS C c1 c3 c4):=by
 refine F.okF pC (λvs H Q E h=>?_) (λcdv A outer s H vs Q E hr h=>?_)
 ·obtain ⟨_,_,_,_,_,_,_,_,_,_,_,_,_,_,_,_,_,_,_,_,_,_,rfl,_⟩:=h
  rfl
 ·obtain ⟨p,dx,b,r,q,l,qa,rs,us,ps,rbs,ws,M,S,β,i,d,rb,x,t,b',n,rfl,hn,hp,hqa,ra,bs,xw,o,hd,hrb,kB,kI⟩:=h
  refine ⟨_,(aD (aM (i:=4) pC.nd rfl (Or.inl rfl) (aJ cW hr rfl aQ (aA (bH dW (bH bB (pv 2) (eX (pv 0) rfl) (λ_ _=>rfl)) aE (λ_ _=>rfl)) aC)))
   (aD (bF (eD (cV (aJ cL hr rfl aQ (aA (pv 4) (aA (eX (pv 0) rfl) aC)))))
    (aG (iR (k:=1) rfl xe_f rfl (hr.mono (by decide)) rfl R.r1.m (R.r1.e "place" (by simp)).i F1 b1 (aA (pv 3) (aA (eX (pv 0) rfl) aC))))
    aP)
   (aD (aM (i:=5) pC.nd rfl (Or.inl rfl) (aW (aA (aW (aA (eX (pv 0) rfl) (aA (aJ cMi hr rfl aQ (aA (eX (pv 0) rfl) (aA (pv 4) aC))) aC))) aC)))
   (aG (aL (aJ cM hr rfl mY (aA (pv 1) (aA (pv 2) (aA (eX (pv 0) rfl) (aA (pv 5) (aA (aW (aA (eX (pv 0) rfl) aC)) (aA (pv 3) aC)))))))))))),?_⟩
  refine cut4 ?_
  intros
  have E1:=aGr (f1:="phial") (f2:="ware") (f3:="level") (u1:=.int (i:Nat)) (u2:=.str x) (u3:=.ref qa) (by decide +kernel) (by decide +kernel);have E2:=aGq (f1:="phial") (f2:="ware") (f3:="level") (u1:=.int (i:Nat)) (u2:=.str x) (u3:=.ref qa) (by decide +kernel);have E3:=aGp (f1:="phial") (f2:="ware") (f3:="level") (u1:=.int (i:Nat)) (u2:=.str x) (u3:=.ref qa);obtain ⟨vs,v,hl,vl,hv,a,mm,nn,ms,ys,rfl,ha,hm,pr,mx,hnn⟩:=o.st.get hd;have M0:=o.so.m0;have b24:=o.b24;have okd:=o.so.ok d (Av hd);have oy:=mx.over;obtain ⟨n0,sm⟩:=o.so.small hd hrb (o.bs.rm.at hrb);have tS:sumN M ys=tot ws d.1:=gE o.bs.ww.nd mx okd.inw;have b0:0<b':=by have:=ra.am.b1;omega
  have i16:i<16:=by
   have h1:=(Ae.mp hd).1;have h2:=o.bs.bn.l16;have h3:=o.so.sl;have h4:=o.bs.rm.1;omega
  refine ⟨_,rfl,_,rfl,p,C,dx,_,_,rfl,hp,D.cl,D.na _ (by simp),E1,l,_,(i:Int),.ref a,rfl,rfl,SqL.of hl,bD hv,a,_,0,.ref mm,rfl,rfl,SqT.of ha,rfl,mm,ms,ys,M,rfl,SqT.of hm,pr,oy,M0,o.so.bm.mono (by omega),λj=>?_,λli tl bl H1 s1 hli frl=>?_⟩
  ·exact (sm.le (dA M0 (oy.take j)) (by rw [<- tS];exact eW M0 j oy)).mono (by omega)
  rw [tS] at frl;have fsm:=dQ M0 frl;have bl1:=frl.am.b1;have tw:Tw K H1 li qa tl bl t b':=⟨hli,SqT.of (s1 _ _ hqa),frl.am,ra.am,(sm.le frl.am.t0 fsm.1).mono (by omega),(o.so.bm.le (by omega) fsm.2).mono (by omega),ra.bt.mono (by decide),ra.bb.mono (by decide)⟩;refine ⟨_,rfl,_,rfl,p,C,dx,_,_,rfl,s1 _ _ hp,D.cl,D.na _ (by simp),E3,li,qa,tl,bl,t,b',rfl,tw,_,rfl,?_⟩;rw [rQ M0 frl];refine ite2 (λc=>?_) (λc=>?_)
  ·have c':¬ tot ws d.1*b'<t*M:=λz=>by rw [decide_eq_true z] at c;cases c
   exact ⟨_,rfl,_,rfl,p,C,dx,_,_,rfl,s1 _ _ hp,D.cl,D.na _ (by simp),E1,aFo hn (by omega) ((kB c').mono s1)⟩
  ·have c':tot ws d.1*b'<t*M:=BG λz=>c (by rw [decide_eq_false z];rfl)
   have k0:=eI (M:=M) ra.am.b1;have Mk:=Ba M0 k0;have c2:=(aD5 (T:=tot ws d.1) M0 ra.am).mp c';obtain ⟨le,fo⟩:=xP M0 ra.am frl c';refine ⟨_,rfl,p,C,dx,_,_,rfl,s1 _ _ hp,D.cl,D.na _ (by simp),E2,_,rfl,p,C,dx,_,_,rfl,s1 _ _ hp,D.cl,D.na _ (by simp),E3,_,rfl,qa,li,t,b',tl,bl,rfl,tw.flip,le,λpo H2 s2 hpo=>⟨zLn2,λpr npr=>⟨zLn1,λcm ncm=>?_⟩⟩⟩;have s3:=Same.upd (o:=.tup [.str x,.ref po]) npr;have s4:=Same.upd (o:=.tup [.ref pr]) ncm;have s04:=((s1.trans s2).trans s3).trans s4;refine ⟨_,rfl,_,rfl,_,rfl,p,C,dx,_,_,rfl,s04 _ _ hp,D.cl,D.na _ (by simp),E1,_,rfl,_,rfl,p,C,dx,_,_,rfl,s04 _ _ hp,D.cl,D.na _ (by simp),E2,zLn1,λnm nnm=>⟨_,rfl,?_⟩⟩;have s5:=Same.upd (o:=.tup [.str x]) nnm;have s05:=s04.trans s5;have kI':=(kI c').mono s05;have bN:Bt 2800 (nF M t b'-tot ws d.1*sk M b'):=((aAn M0 ra o.so.bm bs).le (by omega) (by have:=Bk n0 (Er k0);omega)).mono (by omega);have e:=nw1 (x:=x) Mk fo;rw [<- e] at kI';refine ⟨b,r,q,l,cm,nm,rs,us,ps,rbs,ws,M*sk M b',scl (sk M b') S,i,_,rb,[.ref pr],[(x,_,_)],[x],n,rfl,hn,aGf (o.keep s05) hd hrb xw fo.dvd fo.am k0 ?_ bs (s5 _ _ aB) ((s4.trans s5) _ _ aB) (((s3.trans s4).trans s5) _ _ hpo) aB,kI'.1,kI'.2⟩;rw [e];unfold oneW;rw [if_pos rfl];exact bN
end
def ResP (c0 c1 c2 c3 c4:Addr)(us:List V)(ps:List (Str×Str))(rbs:List (Int×Int))(ws:List Str)(M:Int)(S:List PF)(n:Nat)(H:Hp)(Q:VK)(E:XK):Rw->Prop
 |.draw i x t b=>∃ d rb,S[i]?=some d/\rbs[i]?=some rb/\IntoR c3 c4 us ps ws (M*sk M b) (scl (sk M b) S) i (λy=>d.1 y*sk M b,d.2) rb (oneW x (nF M t b)) [x] n H Q E
 |.fill i x t b=>∃ d rb,S[i]?=some d/\rbs[i]?=some rb/\(¬ tot ws d.1*b<t*M->BadE c1 [("phial",.int (i:Nat)),("place",.int (n:Nat))] H E)/\(tot ws d.1*b<t*M->IntoR c3 c4 us ps ws (M*sk M b) (scl (sk M b) S) i (λy=>d.1 y*sk M b,d.2) rb (oneW x (nF M t b-tot ws d.1*sk M b)) [x] n H Q E)
 |_=>False
def RwV.kw {M:Int}{n:Nat}(h:RwV H a rw)(res:ResP c0 c1 c2 c3 c4 us ps rbs ws M S n H Q E rw):∃ b x us,V.ref a=.ref b/\H b=some (.tup (.str x::us))/\x∈kws:=by
 cases rw with
 |draw _ _ _ _=>obtain ⟨q,h1,_⟩:=h;exact ⟨a,_,_,rfl,h1,by decide +kernel⟩
 |fill _ _ _ _=>obtain ⟨q,h1,_⟩:=h;exact ⟨a,_,_,rfl,h1,by decide +kernel⟩
 |pour _ _ _ _=>exact res.elim
 |empty _=>exact res.elim
 |rinse _=>exact res.elim
def kY (K:Aa)(c0 c1 c2 c3 c4:Addr):Sp:=λvs H Q E=>∃ b r q l a rs us ps rbs ws M S β rw n,vs=[.ref b,.ref l,.ref a,.int ((n:Nat):Int)]/\n<1000/\OnIn H b r q l rs us ps rbs ws M S β/\RwV H a rw/\GoodR rs.length ws rw/\ScR M rw/\ResP c0 c1 c2 c3 c4 us ps rbs ws M S n H Q E rw
def uY (K:Aa)(c0 c1 c2 c3 c4:Addr):Sp:=λvs H Q E=>∃ b r q l a rs us ps rbs ws M S β rw,vs=[.ref b,.ref l,.ref a]/\OnIn H b r q l rs us ps rbs ws M S β/\RwV H a rw/\GoodR rs.length ws rw/\ScR M rw/\ResP c0 c1 c2 c3 c4 us ps rbs ws M S 0 H Q E rw
abbrev aBt (CD CF c0 c1 c2 c3 c4:Addr):List (Addr×Sp):=[(CD,uT CD c3 c4),(CF,uS CF c1 c3 c4)]
section
variable {P:Az}{w:World}{K:Aa}{mg:Str->Option Value}{base:Heap}{cP c0 c1 c2 c3 c4 c5 f1 f3 f4 CD CF:Addr}
def zG:FnScope ["bench","phials","row","place"] ["bench","phials","row","place"] (aI sDoneAt):=fnScOk (by decide +kernel)
def wN (F:Fun K "done_at" "done_at" sDoneAt f fd)(cD:Cal P w K mg base (CXg P w) 7 "deed_at" ["bench","row","place"] (kZ K CD CF))(hT:∀ c∈aBt CD CF c0 c1 c2 c3 c4,Cls K c.1/\MCal P w K mg base (CXg P w) 7 c.1 "onto_at" Non c.2):FnOk P w K mg base (CXg P w) 8 f fd ["bench","phials","row","place"] (kY K c0 c1 c2 c3 c4):=by
 refine F.okF zG (λvs H Q E h=>?_) (λcdv A outer s H vs Q E hr h=>?_)
 ·obtain ⟨_,_,_,_,_,_,_,_,_,_,_,_,_,_,_,rfl,_⟩:=h
  rfl
 ·obtain ⟨b,r,q,l,a,rs,us,ps,rbs,ws,M,S,β,rw',n,rfl,hn,o,rv,gr,scr,res⟩:=h
  refine ⟨_,aG (aL (aFv hT hr mY (aJ cD hr rfl mY (aA (pv 0) (aA (pv 2) (aA (pv 3) aC)))) (aA (pv 0) (aA (pv 1) (aA (pv 3) aC))))),?_⟩;have bn:BnV H b rs.length:=⟨r,_,rs,o.bs.bn.hp,o.bs.bn.hr,rfl⟩;have s16:S.length<=16:=by rw [o.so.sl,<- o.bs.rm.1];exact o.bs.bn.l16
  refine ⟨_,rfl,_,rfl,_,rfl,b,rs.length,.ref a,n,rfl,bn,rv.row gr o.bs.ww,rv.kw res,λa' x us' p dx C fs H' ev ha s' np hp dO=>?_⟩;cases ev;cases rw' with
  |draw i x' t b'=>
   obtain ⟨q',h1,h2⟩:=rv;rw [h1] at ha;cases ha;obtain ⟨d,rb,hd,hrb,kI⟩:=res;cases dO with
   |draw u1 u2 u3=>
    refine ⟨CD,_,p,dx,_,Au ..,rfl,hp,aBy (by decide +kernel) (by decide +kernel) (by decide +kernel),_,rfl,_,rfl,_,rfl,?_⟩;exact ⟨p,dx,b,r,q,l,q',rs,us,ps,rbs,ws,M,S,β,i,d,rb,x',t,b',n,rfl,hn,hp,s' _ _ h2,gr.2.2.1,scr,gr.2.1,o.keep s',hd,hrb,kI.mono s'⟩
  |fill i x' t b'=>
   obtain ⟨q',h1,h2⟩:=rv;rw [h1] at ha;cases ha;obtain ⟨d,rb,hd,hrb,kB,kI⟩:=res;cases dO with
   |fill u1 u2 u3=>
    refine ⟨CF,_,p,dx,_,Aj _ (Au ..),rfl,hp,aBy (by decide +kernel) (by decide +kernel) (by decide +kernel),_,rfl,_,rfl,_,rfl,?_⟩;exact ⟨p,dx,b,r,q,l,q',rs,us,ps,rbs,ws,M,S,β,i,d,rb,x',t,b',n,rfl,hn,hp,s' _ _ h2,gr.2.2,scr,gr.2.1,o.keep s',hd,hrb,λc=>(kB c).mono s',λc=>(kI c).mono s'⟩
  |pour i j t b'=>exact res.elim
  |empty i=>exact res.elim
  |rinse i=>exact res.elim
def aFh:FnScope ["bench","phials","row"] ["bench","phials","row"] (aI sDone):=fnScOk (by decide +kernel)
def aD0 (F:Fun K "done" "done" sDone f fd)(cD:Cal P w K mg base (CXg P w) 8 "done_at" ["bench","phials","row","place"] (kY K c0 c1 c2 c3 c4)):FnOk P w K mg base (CXg P w) 9 f fd ["bench","phials","row"] (uY K c0 c1 c2 c3 c4):=by
 refine F.okF aFh (λvs H Q E h=>?_) (λcdv A outer s H vs Q E hr h=>?_)
 ·obtain ⟨_,_,_,_,_,_,_,_,_,_,_,_,_,_,rfl,_⟩:=h
  rfl
 ·obtain ⟨b,r,q,l,a,rs,us,ps,rbs,ws,M,S,β,rw',rfl,o,rv,gr,scr,res⟩:=h
  refine ⟨_,aG (aL (aJ cD hr rfl mY (aA (pv 0) (aA (pv 1) (aA (pv 2) (aA aE aC)))))),?_⟩;exact ⟨_,rfl,_,rfl,_,rfl,b,r,q,l,a,rs,us,ps,rbs,ws,M,S,β,rw',0,rfl,by decide,o,rv,gr,scr,res⟩
end
end K33
namespace TR
open PySem PySem.Spec PyProof.Rows L2 GM
def aFa {σ:L2.St}(S:L2.St->Hp->Prop)(h:∀ σ' H',S σ' H'->u D σ' H')(g:∀ N:L2.St->Hp->Prop,(∀ σ' H',S σ' H'->N σ' H')->t { D with nx:=N } σ H):tSeq t u D σ H:=g (u D) h
def Top2 (l:List Int)(f s:Int):Prop:=∃ r,(l++[0,0]).Perm (f::s::r)/\s<=f/\∀ x∈r,x<=s
def Nd (ds:List Int)(d:Int):Prop:=∃ f s,Top2 ds f s/\d=max f (s+1)
def av:List Int->Int
 |[]=>0
 |c::r=>av r-c+1
def Okc:List Int->Prop
 |[]=>True
 |c::r=>Okc r/\0<=c/\c<64/\c<=av r
def Gd (p:List Int)(m l:Int):Prop:=∀ r,Okc r->l<=av r->Okc (p++r)/\av r-l+m<=av (p++r)
def Am (H:Hp)(m:Addr)(n:Nat):Prop:=∃ t b:Int,H m=some (.tup [.int t,.int b])/\0<=t/\1<=b/\Bt (64*n-1) t/\Bt (64*n-1) b
abbrev Pt:=V×Nat×Int
def szs (cs:List Pt):Nat:=(cs.map (·.2.1)).sum
def Tr (H:Hp):Nat->V->Nat->Int->Prop
 |0,_,_,_=>False
 |n+1,v,s,d=>
  (∃ (p m:Addr) (x:Str),v=.ref p/\H p=some (.tup [.str "ware",.str x,.ref m])/\Am H m 1/\s=1/\d=0) \/
  (∃ (p m q:Addr) (x:Str) (cs:List Pt),v=.ref p/\H p=some (.tup [.str "recipe",.str x,.ref m,.ref q])/\H q=some (.tup (cs.map (·.1)))/\1<=cs.length/\cs.length<64 /\
   (∀ c∈cs,Tr H n c.1 c.2.1 c.2.2)/\s=1+szs cs/\Nd (cs.map (·.2.2)) d/\Am H m s)
def Bx (a:Addr)(H H':Hp):Prop:=∀ b o,b≠a->H b=some o->H' b=some o
def nzc (cs:List Int):Nat:=(cs.filter λc=>c != 0).length
structure Pile (H:Hp)(cs:List Int)(j:Nat)(pl:List Pt):Prop where
 tr:∀ c∈pl,Tr H (nzc (cs.drop (cs.length-j))+1) c.1 c.2.1 c.2.2
 sz:szs pl=j
 ln:(pl.length:Int)=av (cs.drop (cs.length-j))
 hd:1<=j->∃ pl' q,pl=pl'++[q]/\∀ c,cs[cs.length-j]?=some c->1<=c->1<=q.2.2
def AtP (H:Hp):V->List Nat->V->Prop
 |v,[],u=>v=u
 |v,k::r,u=>∃ (p m q:Addr) (x:Str) (vs:List V) (c:V),v=.ref p/\H p=some (.tup [.str "recipe",.str x,.ref m,.ref q])/\H q=some (.tup vs)/\vs[k]?=some c/\AtP H c r u
abbrev pth (ks:List Nat):List V:=ks.map λ(k:Nat)=>V.int (k:Int)
def Ent (H:Hp)(root:V)(N:Nat)(e:Addr)(s:Nat):Prop:=∃ (pa:Addr) (ks:List Nat) (v:V) (n:Nat) (d:Int),H e=some (.tup [.ref pa,v])/\H pa=some (.tup (pth ks))/\AtP H root ks v/\Tr H n v s d/\ks.length+n<=N
end TR
namespace K33
open PySem PySem.Spec PyProof.Rows L2 GM TM TR
def rwb:Rw->Int
 |.draw _ _ _ b=>b
 |.fill _ _ _ b=>b
 |.pour _ _ _ b=>b
 |_=>1
inductive GR (H:Hp)(nb:Nat)(ws:List Str):Addr->Prop where
 |am {z:Addr} {wd:Str} {p x q t b}:wd = "draw" \/ wd = "fill" -> H z=some (.tup [.str wd,.int p,.str x,.ref q])->0<=p->p<(nb:Int)->x∈ws->H q=some (.tup [.int t,.int b])->Rm t b->b<=100->GR H nb ws z
 |pour {z p o q t b}:H z=some (.tup [.str "pour",.int p,.int o,.ref q])->0<=p->p<(nb:Int)->0<=o->o<(nb:Int)->p≠o->H q=some (.tup [.int t,.int b])->Rm t b->t<=b->b<=100->GR H nb ws z
 |one {z:Addr} {wd:Str} {p}:wd = "empty" \/ wd = "rinse" -> H z=some (.tup [.str wd,.int p])->0<=p->p<(nb:Int)->GR H nb ws z
def WsV (H:Hp)(wl:Addr)(ws:List Str):Prop:=H wl=some (.lst (ws.map V.str))/\ws.length=6/\∀ x∈ws,Wr x
def rD {p d nb:Int}(p0:0<=p)(pn:p<nb)(d0:0<=d)(dn:d<nb-1):0<=(p+1+d)%nb/\(p+1+d)%nb<nb/\p≠(p+1+d)%nb:=by
 have e:=bJ (p+1+d) (m:=nb) (by omega);refine ⟨e.1,e.2,λz=>?_⟩
 by_cases h:p+1+d<nb
 ·rw [Int.emod_eq_of_lt (by omega) h] at z
  omega
 ·have:(p+1+d)%nb=(p+1+d-nb)%nb:=by rw [Int.sub_emod,Int.emod_self,Int.sub_zero,Int.emod_emod]
  rw [this,Int.emod_eq_of_lt (by omega) (by omega)] at z;omega
def vX {d b:Int}(d0:0<=d)(db:d<b)(b1:1<=b)(b100:b<=100)(sb:Bt 100 b):Rm ((1+d)/G (1+d) b) (b/G (1+d) b)/\(1+d)/G (1+d) b<=b/G (1+d) b/\b/G (1+d) b<=100:=by
 have g:=jJ (a:=1+d) (b:=b) (by omega);exact ⟨jW (by omega) b1 (sb.le (by omega) (by omega)) sb,Int.ediv_le_ediv g (by omega),Ep (BI _ (by omega)) b100⟩
def aG7 (h:WsV H wl ws)(l:Lf H a):wl≠a:=λz=>by
 obtain ⟨n,e,_⟩:=l;obtain ⟨h1,h2,_⟩:=h;rw [z,e] at h1;have:=congrArg List.length (HO.lst.inj (AK h1));rw [Ag,h2] at this;simp at this
def iL:Sp:=λvs H Q _=>∃ b wl a nb ws,vs=[.ref b,.ref wl,.ref a]/\BnV H b nb/\1<=nb/\nb<=16/\WsV H wl ws/\Lf H a/\∀ z H',SmB a H H'->Lf H' a->GR H' nb ws z->Q (.ref z) H'
def aCq (K:Aa):Sp:=λvs H Q _=>∃ b wl sc nb ws,∃ (ns:List Int) (k:Nat),vs=[.ref b,.ref wl,.ref sc,.int (k:Nat)]/\BnV H b nb/\1<=nb/\nb<=16/\WsV H wl ws/\SqL K H sc (ns.map V.int)/\k<ns.length/\k<=900/\∀ z H',Same H H'->GR H' nb ws z->Q (.ref z) H'
def aHy {d:Int}(d0:0<=d)(d5:d<5):∃ wd:Str,atI [V.str "draw",.str "fill",.str "pour",.str "empty",.str "rinse"] d=some (.str wd)/\(wd = "draw" \/ wd = "fill" \/ wd = "pour" \/ wd = "empty" \/ wd = "rinse"):=by
 have:d=0\/d=1\/d=2\/d=3\/d=4:=by omega
 rcases this with rfl|rfl|rfl|rfl|rfl
 ·exact ⟨"draw",rfl,.inl rfl⟩
 ·exact ⟨"fill",rfl,.inr (.inl rfl)⟩
 ·exact ⟨"pour",rfl,.inr (.inr (.inl rfl))⟩
 ·exact ⟨"empty",rfl,.inr (.inr (.inr (.inl rfl)))⟩
 ·exact ⟨"rinse",rfl,.inr (.inr (.inr (.inr rfl)))⟩
def aHx {d:Int}(d0:0<=d)(d9:d<9):∃ wd:Str,atI [V.str "draw",.str "draw",.str "draw",.str "fill",.str "pour",.str "pour",.str "pour",.str "empty",.str "rinse"] d=some (.str wd)/\(wd = "draw" \/ wd = "fill" \/ wd = "pour" \/ wd = "empty" \/ wd = "rinse"):=by
 have:d=0\/d=1\/d=2\/d=3\/d=4\/d=5\/d=6\/d=7\/d=8:=by omega
 rcases this with rfl|rfl|rfl|rfl|rfl|rfl|rfl|rfl|rfl
 ·exact ⟨"draw",rfl,.inl rfl⟩
 ·exact ⟨"draw",rfl,.inl rfl⟩
 ·exact ⟨"draw",rfl,.inl rfl⟩
 ·exact ⟨"fill",rfl,.inr (.inl rfl)⟩
 ·exact ⟨"pour",rfl,.inr (.inr (.inl rfl))⟩
 ·exact ⟨"pour",rfl,.inr (.inr (.inl rfl))⟩
 ·exact ⟨"pour",rfl,.inr (.inr (.inl rfl))⟩
 ·exact ⟨"empty",rfl,.inr (.inr (.inr (.inl rfl)))⟩
 ·exact ⟨"rinse",rfl,.inr (.inr (.inr (.inr rfl)))⟩
def GR.good {nb:Nat}(h:GR H nb ws z):∃ rw,RwV H z rw/\GoodR nb ws rw/\rwb rw<=100:=by
 have ra:∀ {t b:Int},Rm t b->RwA t b:=λh=>⟨⟨by have:=h.1;omega,h.2,h.3⟩,h.4.mono (by decide),h.5.mono (by decide)⟩;have rl:∀ {t b:Int},Rm t b->RwL t b:=λ{t b} h=>(ra h).big t h.4 (by
  have h1:=h.1;have h2:=Bg h.2 (show 0<=t by omega);omega)
 cases h with
 |@am wd p x q t b a1 a2 a3 a4 a5 a6 a7 a8=>
  obtain ⟨i,rfl⟩:=AG a3
  rcases a1 with rfl|rfl
  ·exact ⟨.draw i x t b,⟨q,a2,a6⟩,⟨by omega,a5,rl a7,a7.1⟩,a8⟩
  ·exact ⟨.fill i x t b,⟨q,a2,a6⟩,⟨by omega,a5,rl a7⟩,a8⟩
 |@pour p o q t b a1 a2 a3 a4 a5 a6 a7 a8 a9 a10=>
  obtain ⟨i,rfl⟩:=AG a2;obtain ⟨j,rfl⟩:=AG a4;exact ⟨.pour i j t b,⟨q,a1,a7⟩,⟨by omega,by omega,λe=>a6 (by rw [e]),ra a8,a8.1,a9⟩,a10⟩
 |@one wd p a1 a2 a3 a4=>
  obtain ⟨i,rfl⟩:=AG a3
  rcases a1 with rfl|rfl
  ·exact ⟨.empty i,a2,(show i<nb by omega),(by show (1:Int)<=100;decide)⟩
  ·exact ⟨.rinse i,a2,(show i<nb by omega),(by show (1:Int)<=100;decide)⟩
section
variable {P:Az}{w:World}{K:Aa}{mg:Str->Option Value}{base:Heap}
abbrev Nfr:List Str:=["_law_bench_here","_law_wares_here","_law_left","_law_many","_law_kind_here","_law_phial","_law_other","_law_bottom","_law_ware","_law_top"]
def dM:FnScope Nfr ["_law_bench_here","_law_wares_here","_law_left"] (aI sFreeRow):=fnScOk (by decide +kernel)
def tJ (F:Fun K "_law_free_row" "_law_free_row" sFreeRow f fd)(T:Txt mg)(cD:Cal P w K mg base CX0 1 "_law_digit" ["_law_left","_law_many"] gH)(cL:Cal P w K mg base CX0 1 "_law_lowest" ["_law_top","_law_bottom"] dZ):FnOk P w K mg base CX0 2 f fd ["_law_bench_here","_law_wares_here","_law_left"] iL:=by
 refine F.ok dM (λvs H Q E h=>?_) (λcdv A outer s H vs Q E hr h=>?_)
 ·obtain ⟨_,_,_,_,_,rfl,_⟩:=h
  rfl
 ·obtain ⟨b,wl,a,nb,ws,rfl,bn,n1,n16,wv,lf,k⟩:=h
  refine ⟨_,(aD (aM (i:=3) dM.nd rfl (Or.inl rfl) (aT bC rfl T.len BC (aA (pit 0 0) aC)))
   (aD (aM (i:=4) dM.nd rfl (Or.inl rfl) (bH bB (cJ (pa_c aU (pa_c aU (pa_c aU (pa_c aU (pa_c aU aC)))))) (aJ cD hr rfl aQ (aA (pv 2) (aA aE aC))) (λ_ _=>rfl)))
   (aD (aM (i:=5) dM.nd rfl (Or.inl rfl) (aJ cD hr rfl aQ (aA (pv 2) (aA (pv 3) aC))))
   (aD (bF (PW.pt (mT (aS dB (pv 4) aU (aV _)) (iQ (aS dB (pv 3) aE (aV _)))))
    (aG (aM (i:=4) dM.nd rfl (Or.inl rfl) aU))
    aP)
   (aD (bF (PW.pt (hU (aS dB (pv 4) aU (aV _)) (fH (aS dB (pv 4) aU (aV _)))))
    (aG (aL (aW (aA (pv 4) (aA (pv 5) aC)))))
    aP)
   (aD (bF (aS dB (pv 4) aU (aV _))
    (aD (aM (i:=6) dM.nd rfl (Or.inl rfl) (aK bG (aK bK (aK bK (pv 5) aE) (aJ cD hr rfl aQ (aA (pv 2) (aA (aK rE (pv 3) aE) aC)))) (pv 3)))
    (aD (aM (i:=7) dM.nd rfl (Or.inl rfl) (aK bK aE (aJ cD hr rfl aQ (aA (pv 2) (aA aE aC)))))
    (aG (aL (aW (aA (pv 4) (aA (pv 5) (aA (pv 6) (aA (aJ cL hr rfl aQ (aA (aK bK aE (aJ cD hr rfl aQ (aA (pv 2) (aA (pv 7) aC)))) (aA (pv 7) aC))) aC)))))))))
    aP)
   (aD (aM (i:=8) dM.nd rfl (Or.inl rfl) (bH bB (pv 1) (aJ cD hr rfl aQ (aA (pv 2) (aA aE aC))) (λ_ _=>rfl)))
   (aD (aM (i:=9) dM.nd rfl (Or.inl rfl) (aK bK aE (aJ cD hr rfl aQ (aA (pv 2) (aA aE aC)))))
   (aG (aL (aW (aA (pv 4) (aA (pv 5) (aA (pv 8) (aA (aJ cL hr rfl aQ (aA (pv 9) (aA (aK bK aE (aJ cD hr rfl aQ (aA (pv 2) (aA aE aC)))) aC))) aC))))))))))))))),?_⟩
  refine cut9 ?_
  intros
  obtain ⟨r,q0,rs,hb,hrr,rl⟩:=id bn;have wne:=aG7 wv lf;refine ⟨b,_,_,rfl,SqT.of hb,rfl,r,_,rfl,.inr (SqT.of hrr),?_⟩;refine ⟨zLn5,λz5 nz5=>?_⟩;have s5:=Same.upd (o:=.lst [V.str "draw",.str "fill",.str "pour",.str "empty",.str "rinse"]) nz5;have h5:upd H z5 (.lst [V.str "draw",.str "fill",.str "pour",.str "empty",.str "rinse"]) z5=some (.lst [V.str "draw",.str "fill",.str "pour",.str "empty",.str "rinse"]):=aB;have z5a:z5≠a:=lf.there nz5;generalize upd H z5 (.lst [V.str "draw",.str "fill",.str "pour",.str "empty",.str "rinse"])=H1 at s5 h5 ⊢;have lf1:=lf.keep s5;refine ⟨_,rfl,a,5,rfl,lf1,by decide,b9,λd0 H2 d00 d05 sb2 lf2=>?_⟩;obtain ⟨wd,hat,hwd⟩:=aHy d00 d05;refine ⟨z5,_,d0,.str wd,rfl,rfl,SqL.of (sb2 _ _ z5a h5),hat,?_⟩;have sb02:SmB a H H2:=(SmB.of s5).trans sb2;have bnb:Bt 9000 ((rs.length:Nat):Int):=b9 (by omega) (by omega);refine ⟨_,rfl,_,rfl,a,_,rfl,lf2,by omega,bnb,λp H3 p0 pl sb3 lf3=>?_⟩;have sb03:=sb02.trans sb3;have pn:p<(nb:Int):=by rw [<- rl];exact pl
  dsimp only [gName];refine aFa (λσ' H'=>∃ wd':Str,σ'=[some (.ref b),some (.ref wl),some (.ref a),some (.int ((rs.length:Nat):Int)),some (.str wd'),some (.int p),none,none,none,none]/\H'=H3/\((wd' = "empty" \/ wd' = "rinse")\/(wd' = "pour" /\ 1<nb)\/(wd' = "draw" \/ wd' = "fill"))) ?_ (λN hN=>?_)
  ·intro σ' H' hh
   obtain ⟨wd',rfl,rfl,hw⟩:=hh
   rcases hw with hw|⟨rfl,n2⟩|hw
   ·have fin:∀ z,H' z=none->Q (.ref z) (upd H' z (.tup [.str wd',.int p])):=λz nz=>k z _ (sb03.own (sb03.none nz (lf3.there nz))) (lf3.keep (Same.upd nz)) (.one hw aB p0 pn)
    rcases hw with rfl|rfl
    ·exact ⟨_,rfl,rfl,_,rfl,iteT ⟨_,rfl,_,rfl,zLn2,fin⟩⟩
    ·exact ⟨_,rfl,rfl,_,rfl,iteF ⟨_,rfl,rfl,_,rfl,iteT ⟨_,rfl,_,rfl,zLn2,fin⟩⟩⟩
   ·refine ⟨_,rfl,rfl,_,rfl,iteF ⟨_,rfl,rfl,_,rfl,iteF ⟨_,rfl,rfl,_,rfl,iteT ?_⟩⟩⟩
    refine ⟨_,rfl,_,_,rfl,rfl,_,rfl,_,rfl,_,_,rfl,rfl,a,_,rfl,lf3,by omega,b9 (by omega) (by omega),λd H4 d00 dl sb4 lf4=>?_⟩;have sb04:=sb03.trans sb4;obtain ⟨o0,ol,po⟩:=rD p0 pn d00 (by rw [<- rl];exact dl);refine ⟨_,_,rfl,rfl,_,rfl,_,_,rfl,rfl,by omega,?_⟩;refine ⟨_,rfl,a,100,rfl,lf4,by decide,b9,λe H5 e0 el sb5 lf5=>⟨_,_,rfl,rfl,?_⟩⟩;have sb05:=sb04.trans sb5;have sbt:Bt 100 (1+e):=cZ 100 (c:=101) (by omega) (by omega);refine ⟨_,rfl,_,rfl,_,rfl,_,rfl,_,rfl,a,_,rfl,lf5,by omega,sbt.mono (by decide),λe2 H6 e20 e2l sb6 lf6=>⟨_,_,rfl,rfl,_,rfl,1+e2,1+e,rfl,by omega,by omega,sbt.mono (by decide),λq H7 s7 nq hq=>⟨zLn4,λz nz=>?_⟩⟩⟩;have sb06:=sb05.trans sb6;have sb07:=sb06.trans (SmB.of s7);have lf7:=lf6.keep s7;obtain ⟨rm,le,l1⟩:=vX e20 e2l (by omega) (by omega) sbt;rw [rl];refine k z _ (sb07.own (sb07.none nz (lf7.there nz))) (lf7.keep (Same.upd nz)) (.pour aB p0 pn o0 ol po (Same.upd nz _ _ hq) rm le l1)
   ·have fin:∀ {wd':Str},(wd' = "draw" \/ wd' = "fill")->∀ (x:Str) q t b' H7 z,x∈ws->SmB a H H7->Lf H7 a->H7 q=some (.tup [.int t,.int b'])->Rm t b'->b'<=100->H7 z=none->Q (.ref z) (upd H7 z (.tup [.str wd',.int p,.str x,.ref q])):=λ{wd'} hw x q t b' H7 z wx sb7 lf7 hq rm l1 nz=>k z _ (sb7.own (sb7.none nz (lf7.there nz))) (lf7.keep (Same.upd nz)) (.am hw aB p0 pn wx (Same.upd nz _ _ hq) rm l1)
    have fin':=fin hw
    rcases hw with rfl|rfl <;>
    ·refine ⟨_,rfl,rfl,_,rfl,iteF ⟨_,rfl,rfl,_,rfl,iteF ⟨_,rfl,rfl,_,rfl,iteF ?_⟩⟩⟩
     refine ⟨_,rfl,_,rfl,a,6,rfl,lf3,by decide,b9,λd H4 d00 dl sb4 lf4=>?_⟩;have sb04:=sb03.trans sb4;obtain ⟨j,rfl⟩:=AG d00;obtain ⟨x,hx⟩:∃ x,ws[j]?=some x:=⟨_,Ad (by have:=wv.2.1;omega)⟩;refine ⟨wl,_,(j:Int),.str x,rfl,rfl,SqL.of (sb04 _ _ wne wv.1),bD (by rw [As,hx];rfl),?_⟩;refine ⟨_,rfl,a,1000,rfl,lf4,by decide,b9,λe H5 e0 el sb5 lf5=>⟨_,_,rfl,rfl,?_⟩⟩;refine ⟨_,rfl,_,rfl,_,rfl,_,rfl,_,rfl,a,100,rfl,lf5,by decide,b9,λe2 H6 e20 e2l sb6 lf6=>⟨_,_,rfl,rfl,1+e,1+e2,rfl,by omega,by omega,(cZ 100 (c:=101) (by omega) (by omega):Bt 100 (1+e2)).mono (by decide),λq H7 s7 nq hq=>⟨zLn4,λz nz=>?_⟩⟩⟩;exact fin' x q _ _ H7 z (Av hx) (((sb04.trans sb5).trans sb6).trans (SmB.of s7)) (lf6.keep s7) hq (jW (by omega) (by omega) (cZ 100 (c:=1001) (by omega) (by omega)) (cZ 100 (c:=101) (by omega) (by omega))) (Ep (BI _ (by omega)) (by omega)) nz
  ·rcases hwd with rfl|rfl|rfl|rfl|rfl
   ·exact ⟨_,rfl,rfl,_,rfl,iteF (iteF (hN _ _ ⟨_,rfl,rfl,.inr (.inr (.inl rfl))⟩))⟩
   ·exact ⟨_,rfl,rfl,_,rfl,iteF (iteF (hN _ _ ⟨_,rfl,rfl,.inr (.inr (.inr rfl))⟩))⟩
   ·refine ⟨_,rfl,rfl,_,rfl,iteT ⟨_,rfl,rfl,_,rfl,ite2 (λhc=>hN _ _ ⟨_,rfl,rfl,.inl (.inl rfl)⟩) (λhc=>hN _ _ ⟨_,rfl,rfl,.inr (.inl ⟨rfl,?_⟩)⟩)⟩⟩
    have:¬ ((rs.length:Nat):Int)=1:=λz=>hc (decide_eq_true (by rw [z]));omega
   ·exact ⟨_,rfl,rfl,_,rfl,iteF (iteF (hN _ _ ⟨_,rfl,rfl,.inl (.inl rfl)⟩))⟩
   ·exact ⟨_,rfl,rfl,_,rfl,iteF (iteF (hN _ _ ⟨_,rfl,rfl,.inl (.inr rfl)⟩))⟩
abbrev Nrw:List Str:=["_law_bench_here","_law_wares_here","_law_script","_law_k","_law_number","_law_many","_law_phial","_law_ware","_law_kind_here","_law_other","_law_bottom"]
def mK:FnScope Nrw ["_law_bench_here","_law_wares_here","_law_script","_law_k"] (aI sRow):=fnScOk (by decide +kernel)
def aF2 (F:Fun K "_law_row" "_law_row" sRow f fd)(T:Txt mg)(cC:Cal P w K mg base CX0 2 "_law_cell_at" ["_law_script","_law_k"] (iM K))(cM:Cal P w K mg base CX0 2 "_law_mixed" ["_law_cell","_law_k"] fI)(cF:Cal P w K mg base CX0 2 "_law_free_row" ["_law_bench_here","_law_wares_here","_law_left"] iL)(cU:Cal P w K mg base CX0 2 "_law_much" ["_law_number"] mH)(cL:Cal P w K mg base CX0 2 "_law_lowest" ["_law_top","_law_bottom"] dZ):FnOk P w K mg base CX0 3 f fd ["_law_bench_here","_law_wares_here","_law_script","_law_k"] (aCq K):=by
 refine F.ok mK (λvs H Q E h=>?_) (λcdv A outer s H vs Q E hr h=>?_)
 ·obtain ⟨_,_,_,_,_,_,_,rfl,_⟩:=h
  rfl
 ·obtain ⟨b,wl,sc,nb,ws,ns,kk,rfl,bn,n1,n16,wv,hS,kl,k9,k⟩:=h
  refine ⟨_,(aD (bF (aS dB (aK bG (aJ cC hr rfl aQ (aA (pv 2) (aA aE aC))) aE) aE (aV _))
    (aG (aL (aJ cF hr rfl aQ (aA (pv 0) (aA (pv 1) (aA (cJ (aA (aT gD rfl T.abs' oF (aA (bH bB (pv 2) (pv 3) (λ_ _=>rfl)) aC)) aC)) aC))))))
    aP)
   (aD (aM (i:=4) mK.nd rfl (Or.inl rfl) (aJ cM hr rfl aQ (aA (bH bB (pv 2) (pv 3) (λ_ _=>rfl)) (aA (pv 3) aC))))
   (aD (aM (i:=5) mK.nd rfl (Or.inl rfl) (aT bC rfl T.len BC (aA (pit 0 0) aC)))
   (aD (aM (i:=6) mK.nd rfl (Or.inl rfl) (aK bG (aK aX (pv 4) aE) (pv 5)))
   (aD (aM (i:=7) mK.nd rfl (Or.inl rfl) (bH bB (pv 1) (aK bG (aK aX (pv 4) aE) (aT bC rfl T.len BC (aA (pv 1) aC))) (λ_ _=>rfl)))
   (aD (aM (i:=8) mK.nd rfl (Or.inl rfl) (bH bB (cJ (pa_c aU (pa_c aU (pa_c aU (pa_c aU (pa_c aU (pa_c aU (pa_c aU (pa_c aU (pa_c aU aC)))))))))) (aK bG (pv 4) aE) (λ_ _=>rfl)))
   (aD (bF (PW.pt (hU (aS dB (pv 8) aU (aV _)) (fH (aS dB (pv 8) aU (aV _)))))
    (aG (aL (aW (aA (pv 8) (aA (pv 6) (aA (pv 7) (aA (aJ cU hr rfl aQ (aA (aK aX (pv 4) aE) aC)) aC)))))))
    aP)
   (aD (bF (PW.pt (mT (aS dB (pv 8) aU (aV _)) (iQ (aS aFz (pv 5) aE (aV _)))))
    (aD (aM (i:=9) mK.nd rfl (Or.inl rfl) (aK bG (aK bK (aK bK (pv 6) aE) (aK bG (aK aX (pv 4) aE) (aK rE (pv 5) aE))) (pv 5)))
    (aD (aM (i:=10) mK.nd rfl (Or.inl rfl) (aK bK aE (aK bG (aK aX (pv 4) aE) aE)))
    (aG (aL (aW (aA (pv 8) (aA (pv 6) (aA (pv 9) (aA (aJ cL hr rfl aQ (aA (aK bK aE (aK bG (aK aX (pv 4) aE) (pv 10))) (aA (pv 10) aC))) aC)))))))))
    aP)
   (aD (bF (aS dB (pv 8) aU (aV _))
    (aG (aL (aW (aA aU (aA (pv 6) aC)))))
    aP)
   (aG (aL (aW (aA (pv 8) (aA (pv 6) aC)))))))))))))),?_⟩
  refine aIj ?_
  intros
  obtain ⟨c,hc⟩:∃ c,ns[kk]?=some c:=⟨_,Ad kl⟩;have hcat:atI (ns.map V.int) (kk:Int)=some (.int c):=bD (by rw [As,hc];rfl);obtain ⟨r,q0,rs,hb,hrr,rl⟩:=id bn;refine ⟨_,rfl,sc,ns,0,rfl,hS,by decide,λc0=>⟨_,_,rfl,rfl,(by show (0:Int)<2;decide),rfl,_,rfl,ite2 (λ_=>?_) (λ_=>?_)⟩⟩
  ·refine ⟨_,rfl,_,rfl,_,rfl,_,rfl,sc,_,(kk:Int),.int c,rfl,rfl,hS,hcat,c,rfl,zLn1,λl nl=>?_⟩
   have c0':=abs_nonneg c;generalize (if c<0 then -c else c)=n at *
   have sl:=Same.upd (o:=.lst [.int n]) nl;have hl:upd H l (.lst [.int n]) l=some (.lst [.int n]):=aB;generalize upd H l (.lst [.int n])=H1 at sl hl ⊢;refine ⟨b,wl,l,nb,ws,rfl,bn.keep sl,n1,n16,⟨sl _ _ wv.1,wv.2⟩,⟨n,hl,c0'⟩,λz H' sb lf gr=>k z H' (dD sl sb nl) gr⟩
  ·refine ⟨_,rfl,_,rfl,sc,_,(kk:Int),.int c,rfl,rfl,hS,hcat,_,rfl,c,(kk:Int),rfl,by omega,by omega,λn n0 nl=>?_⟩
   refine ⟨b,_,_,rfl,SqT.of hb,rfl,r,_,rfl,.inr (SqT.of hrr),?_⟩;have nbp:(0:Int)<((rs.length:Nat):Int):=by omega
   obtain ⟨p0,pn⟩:=bJ (n/16) nbp;refine ⟨_,rfl,_,_,rfl,rfl,⟨by decide,b9⟩,_,rfl,_,_,rfl,rfl,nbp,?_⟩;have wlen:(((ws.map V.str).length:Nat):Int)=6:=by rw [Ag,wv.2.1];rfl
   obtain ⟨j0,jn⟩:=bJ (n/256) (m:=6) (by decide);obtain ⟨j,ej⟩:=AG j0;obtain ⟨x,hx⟩:∃ x,ws[j]?=some x:=⟨_,Ad (by have:=wv.2.1;omega)⟩;refine ⟨_,rfl,_,rfl,_,_,rfl,rfl,⟨by decide,b9⟩,_,rfl,wl,_,rfl,.inl (SqL.of wv.1),_,_,rfl,rfl,by show (0:Int)<_;rw [wlen];decide,wl,_,_,.str x,rfl,rfl,SqL.of wv.1,by rw [wlen,ej];exact bD (by rw [As,hx];rfl),?_⟩;refine ⟨zLn9,λz9 nz9=>?_⟩;have s9:=Same.upd (o:=.lst [V.str "draw",.str "draw",.str "draw",.str "fill",.str "pour",.str "pour",.str "pour",.str "empty",.str "rinse"]) nz9;have h9:upd H z9 (.lst [V.str "draw",.str "draw",.str "draw",.str "fill",.str "pour",.str "pour",.str "pour",.str "empty",.str "rinse"]) z9=some (.lst [V.str "draw",.str "draw",.str "draw",.str "fill",.str "pour",.str "pour",.str "pour",.str "empty",.str "rinse"]):=aB;generalize upd H z9 (.lst [V.str "draw",.str "draw",.str "draw",.str "fill",.str "pour",.str "pour",.str "pour",.str "empty",.str "rinse"])=H1 at s9 h9 ⊢;obtain ⟨m0,ml⟩:=bJ n (m:=9) (by decide);obtain ⟨wd,hat,hwd⟩:=aHx m0 ml;have pn':(n/16%((rs.length:Nat):Int))<(nb:Int):=by rw [<- rl];exact pn
   refine ⟨_,rfl,_,_,rfl,rfl,(by show (0:Int)<9;decide),z9,_,_,.str wd,rfl,rfl,SqL.of h9,hat,?_⟩;have wx:=Av hx;have finO:∀ {wd':Str},(wd' = "empty" \/ wd' = "rinse")->∀ z,H1 z=none->Q (.ref z) (upd H1 z (.tup [.str wd',.int (n/16%((rs.length:Nat):Int))])):=λ{wd'} hw z nz=>k z _ (s9.trans (Same.upd nz)) (.one hw aB p0 pn');have finA:∀ {wd':Str},(wd' = "draw" \/ wd' = "fill")->∀ q t b' H7 z,Same H H7->H7 q=some (.tup [.int t,.int b'])->Rm t b'->b'<=100->H7 z=none->Q (.ref z) (upd H7 z (.tup [.str wd',.int (n/16%((rs.length:Nat):Int)),.str x,.ref q])):=λ{wd'} hw q t b' H7 z s7 hq rm l1 nz=>k z _ (s7.trans (Same.upd nz)) (.am hw aB p0 pn' wx (Same.upd nz _ _ hq) rm l1);have n4:0<=n/4096/\n/4096<2147483647:=⟨DT n0 (by decide),Fv (BI _ n0) nl⟩
   rcases hwd with rfl|rfl|rfl|rfl|rfl
   ·refine ⟨_,rfl,rfl,_,rfl,iteT ⟨_,rfl,_,rfl,_,rfl,_,rfl,_,_,rfl,rfl,⟨by decide,b9⟩,_,rfl,n4.1,n4.2,λt b' q H7 rm l12 s7 nq hq=>⟨zLn4,λz nz=>finA (.inl rfl) q t b' H7 z (s9.trans s7) hq rm (by omega) nz⟩⟩⟩
   ·refine ⟨_,rfl,rfl,_,rfl,iteF ⟨_,rfl,rfl,_,rfl,iteT ⟨_,rfl,_,rfl,_,rfl,_,rfl,_,_,rfl,rfl,⟨by decide,b9⟩,_,rfl,n4.1,n4.2,λt b' q H7 rm l12 s7 nq hq=>⟨zLn4,λz nz=>finA (.inr rfl) q t b' H7 z (s9.trans s7) hq rm (by omega) nz⟩⟩⟩⟩
   ·refine ⟨_,rfl,rfl,_,rfl,iteF ⟨_,rfl,rfl,_,rfl,iteF ⟨_,rfl,rfl,_,rfl,iteT ⟨_,rfl,_,_,rfl,rfl,_,rfl,ite2 (λhc2=>?_) (λhc2=>?_)⟩⟩⟩⟩
    ·have n2:(1:Int)<((rs.length:Nat):Int):=of_decide_eq_true hc2
     have m1:(0:Int)<((rs.length:Nat):Int)-1:=by omega
     obtain ⟨d0,dl⟩:=bJ (n/256) m1;obtain ⟨o0,ol,po⟩:=rD p0 pn d0 dl;refine ⟨_,rfl,_,_,rfl,rfl,_,rfl,_,_,rfl,rfl,⟨by decide,b9⟩,_,rfl,_,_,rfl,rfl,_,_,rfl,rfl,m1,_,_,rfl,rfl,_,rfl,_,_,rfl,rfl,nbp,?_⟩;obtain ⟨e0,el⟩:=bJ (n/4096) (m:=7) (by decide);refine ⟨_,rfl,_,_,rfl,rfl,⟨by decide,b9⟩,_,_,rfl,rfl,(by show (0:Int)<7;decide),_,_,rfl,rfl,?_⟩;have bp:(0:Int)<1+n/4096%7:=by omega
     obtain ⟨f0,fl⟩:=bJ (n/32768) bp;have sbt:Bt 100 (1+n/4096%7):=cZ 100 (c:=101) (by omega) (by omega);obtain ⟨rm,le,l1⟩:=vX f0 fl (by omega) (by omega) sbt;refine ⟨_,rfl,_,rfl,_,rfl,_,rfl,_,_,rfl,rfl,⟨by decide,b9⟩,_,rfl,_,_,rfl,rfl,bp,_,_,rfl,rfl,_,rfl,_,_,rfl,by omega,by omega,sbt.mono (by decide),λq H7 s7 nq hq=>⟨zLn4,λz nz=>?_⟩⟩;exact k z _ ((s9.trans s7).trans (Same.upd nz)) (.pour aB p0 pn' o0 (by rw [<- rl];exact ol) po (Same.upd nz _ _ hq) rm le l1)
    ·refine ⟨_,rfl,rfl,_,rfl,iteT ⟨_,rfl,zLn2,λz nz=>finO (.inl rfl) z nz⟩⟩
   ·exact ⟨_,rfl,rfl,_,rfl,iteF ⟨_,rfl,rfl,_,rfl,iteF ⟨_,rfl,rfl,_,rfl,iteF (iteF ⟨_,rfl,rfl,_,rfl,iteF ⟨_,rfl,_,rfl,zLn2,λz nz=>finO (.inl rfl) z nz⟩⟩)⟩⟩⟩
   ·exact ⟨_,rfl,rfl,_,rfl,iteF ⟨_,rfl,rfl,_,rfl,iteF ⟨_,rfl,rfl,_,rfl,iteF (iteF ⟨_,rfl,rfl,_,rfl,iteF ⟨_,rfl,_,rfl,zLn2,λz nz=>finO (.inr rfl) z nz⟩⟩)⟩⟩⟩
end
end K33
namespace K33
open PySem PySem.Spec PyProof.Rows L2 GM TM
inductive Fat where
 |dry (i:Nat)
 |low (i:Nat)
 |wet (i:Nat)
 |spilt (i:Nat) (M N:Int) (rb:Int×Int)
 |touch (i:Nat) (pa:Addr)
abbrev Ou:Type:=Fat ⊕ List PF
def BadF (c0 c1 c2 c3 c4:Addr)(n:Nat)(H:Hp)(E:XK):Fat->Prop
 |.dry _=>True
 |.low i=>BadE c1 [("phial",.int (i:Nat)),("place",.int (n:Nat))] H E
 |.wet _=>True
 |.spilt i M N rb=>BadO c3 n i M N rb H E
 |.touch i pa=>BadE c4 [("pair",.ref pa),("phial",.int (i:Nat)),("place",.int (n:Nat))] H E
def RfV (H:Hp)(t3:Addr):Fat->Prop
 |.dry i=>H t3=some (.tup [.str "dry",.int ((i:Nat):Int),.non])
 |.low i=>H t3=some (.tup [.str "low",.int ((i:Nat):Int),.non])
 |.wet i=>H t3=some (.tup [.str "wet",.int ((i:Nat):Int),.non])
 |.spilt i M N rb=>∃ a t b,H t3=some (.tup [.str "spilt",.int ((i:Nat):Int),.ref a])/\H a=some (.tup [.int t,.int b])/\Fr (M*rb.2) t b (N*rb.2-rb.1*M)
 |.touch i pa=>H t3=some (.tup [.str "touch",.int ((i:Nat):Int),.ref pa])
def OutP (c0 c1 c2 c3 c4:Addr)(n:Nat)(M:Int)(H:Hp)(Q:VK)(E:XK):Ou->Prop
 |.inl f=>BadF c0 c1 c2 c3 c4 n H E f
 |.inr S=>∀ l' H',Same H H'->H l'=none->StV H' l' M S->Q (.ref l') H'
def OutL (M:Int)(H:Hp)(Q:VK):Ou->Prop
 |.inl f=>∀ z t3 H',Same H H'->H' z=some (.tup [.ref t3,.non])->RfV H' t3 f->Q (.ref z) H'
 |.inr S=>∀ z l' H',Same H H'->H l'=none->H' z=some (.tup [.non,.ref l'])->StV H' l' M S->Q (.ref z) H'
def IntoO (us:List V)(ps:List (Str×Str))(ws:List Str)(M:Int)(S:List PF)(i:Nat)(d:PF)(rb:Int×Int)(add:Str->Int)(xs:List Str)(o:Ou):Prop:=
 (rb.1*M<tot ws (λy=>d.1 y+add y)*rb.2/\o=.inl (.spilt i M (tot ws (λy=>d.1 y+add y)) rb)) \/
 (¬ rb.1*M<tot ws (λy=>d.1 y+add y)*rb.2/\∃ nm',NmU d.2 xs nm'/\((∃ pa,pairOf us ps nm'=.ref pa/\o=.inl (.touch i pa))\/(pairOf us ps nm'=.non/\o=.inr (S.set i (λy=>d.1 y+add y,nm')))))
def RowO (us:List V)(ps:List (Str×Str))(rbs:List (Int×Int))(ws:List Str)(M:Int)(S:List PF)(o:Ou):Rw->Prop
 |.draw i x t b=>∃ d rb,S[i]?=some d/\rbs[i]?=some rb/\IntoO us ps ws (M*sk M b) (scl (sk M b) S) i (λy=>d.1 y*sk M b,d.2) rb (oneW x (nF M t b)) [x] o
 |.fill i x t b=>∃ d rb,S[i]?=some d/\rbs[i]?=some rb/\((¬ tot ws d.1*b<t*M/\o=.inl (.low i))\/(tot ws d.1*b<t*M/\IntoO us ps ws (M*sk M b) (scl (sk M b) S) i (λy=>d.1 y*sk M b,d.2) rb (oneW x (nF M t b-tot ws d.1*sk M b)) [x] o))
 |.pour i j t b=>∃ di dj rbj,S[i]?=some di/\S[j]?=some dj/\rbs[j]?=some rbj/\(((∀ y,di.1 y=0)/\o=.inl (.dry i))\/(¬ (∀ y,di.1 y=0)/\IntoO us ps ws (M*b) ((scl b S).set i (λy=>di.1 y*b-di.1 y*t,di.2)) j (λy=>dj.1 y*b,dj.2) rbj (λy=>di.1 y*t) di.2 o))
 |.empty i=>∃ d,S[i]?=some d/\o=.inr (S.set i (λ_=>0,d.2))
 |.rinse i=>∃ d,S[i]?=some d/\((¬ (∀ y,d.1 y=0)/\o=.inl (.wet i))\/((∀ y,d.1 y=0)/\o=.inr (S.set i (λ_=>0,[]))))
def knd:Rw->Bool
 |.draw ..=>true
 |.fill ..=>true
 |_=>false
def rwM (M:Int):Rw->Int
 |.draw _ _ _ b=>M*sk M b
 |.fill _ _ _ b=>M*sk M b
 |.pour _ _ _ b=>M*b
 |_=>M
def rws (M:Int):Rw->Int
 |.draw _ _ _ b=>sk M b
 |.fill _ _ _ b=>sk M b
 |.pour _ _ _ b=>b
 |_=>1
def aF9 (a b:List Str):∃ c,NmU a b c:=by
 have tr:∀ x y z:Str,decide (leS x y)=true->decide (leS y z)=true->decide (leS x z)=true:=λx y z h1 h2=>decide_eq_true (List.le_trans (of_decide_eq_true h1) (of_decide_eq_true h2));have to:∀ x y:Str,(decide (leS x y)||decide (leS y x))=true:=λx y=>by
  rcases List.le_total x.cps.toList y.cps.toList with h|h
  ·rw [decide_eq_true (show leS x y from h)];rfl
  ·rw [decide_eq_true (show leS y x from h),Bool.or_true]
 have p:=List.mergeSort_perm (SX.ddl (a++b)) λx y=>decide (leS x y);have s:=List.pairwise_mergeSort tr to (SX.ddl (a++b));generalize (SX.ddl (a++b)).mergeSort (λx y=>decide (leS x y))=ss at p s;have nd:ss.Nodup:=p.nodup_iff.mpr (SX.ddl_nodup _);refine ⟨ss,?_,λy=>by rw [p.mem_iff,SX.ddl_mem,Br]⟩;refine (List.pairwise_and_iff.mpr ⟨s,nd⟩).imp λ{x y} h=>?_;exact BG λz=>h.2 (TM.ext (EU (of_decide_eq_true h.1) (List.not_lt.mp z)))
section
variable {us:List V}{ps:List (Str×Str)}{rbs:List (Int×Int)}{ws:List Str}{M:Int}{S:List PF}{H:Hp}{Q:VK}{E:XK}{c0 c1 c2 c3 c4:Addr}{n:Nat}
def pO {i:Nat}{rb:Int×Int}{add:Str->Int}(pt:PsT H us ps):∃ o,IntoO us ps ws M S i d rb add xs o:=by
 by_cases c:rb.1*M<tot ws (λy=>d.1 y+add y)*rb.2
 ·exact ⟨_,.inl ⟨c,rfl⟩⟩
 ·obtain ⟨nm,u⟩:=aF9 d.2 xs
  rcases fZ (xs:=nm) pt with e|⟨pa,p,e,_,_⟩
  ·exact ⟨_,.inr ⟨c,nm,u,.inr ⟨e,rfl⟩⟩⟩
  ·exact ⟨_,.inr ⟨c,nm,u,.inl ⟨pa,e,rfl⟩⟩⟩
theorem IntoO.r {i:Nat}{rb:Int×Int}{add:Str->Int}(h:IntoO us ps ws M S i d rb add xs o)(k:OutP c0 c1 c2 c3 c4 n M H Q E o):IntoR c3 c4 us ps ws M S i d rb add xs n H Q E:=by
 rcases h with ⟨c,rfl⟩|⟨c,nm',u,⟨pa,e,rfl⟩|⟨e,rfl⟩⟩
 ·exact ⟨λ_=>k,λc'=>absurd c c'⟩
 ·refine ⟨λc'=>absurd c' c,λ_ nm2 u2=>?_⟩
  cases u.uniq u2;exact ⟨λpa' e'=>by rw [e] at e';cases e';exact k,λe'=>by rw [e] at e';cases e'⟩
 ·refine ⟨λc'=>absurd c' c,λ_ nm2 u2=>?_⟩
  cases u.uniq u2;exact ⟨λpa' e'=>(by rw [e] at e';cases e'),λ_=>k⟩
theorem IntoO.l {i:Nat}{rb:Int×Int}{add:Str->Int}(h:IntoO us ps ws M S i d rb add xs o)(k:OutL M H Q o):IntoL us ps ws M S i d rb add xs H Q:=by
 rcases h with ⟨c,rfl⟩|⟨c,nm',u,⟨pa,e,rfl⟩|⟨e,rfl⟩⟩
 ·exact ⟨λ_ z t3 a t b H' s h1 h2 h3 h4=>k z t3 H' s h1 ⟨a,t,b,h2,h3,h4⟩,λc'=>absurd c c'⟩
 ·refine ⟨λc'=>absurd c' c,λ_ nm2 u2=>?_⟩
  cases u.uniq u2;exact ⟨λpa' e' z t3 H' s h1 h2=>by rw [e] at e';cases e';exact k z t3 H' s h1 h2,λe'=>by rw [e] at e';cases e'⟩
 ·refine ⟨λc'=>absurd c' c,λ_ nm2 u2=>?_⟩
  cases u.uniq u2;exact ⟨λpa' e'=>(by rw [e] at e';cases e'),λ_=>k⟩
def IntoO.sok {β i:Nat}{rb:Int×Int}{add:Str->Int}(so:Sok ws rbs M S β)(hd:S[i]?=some d)(hr:rbs[i]?=some rb)(a0:∀ y,0<=add y)(aw:∀ y,add y≠0->y∈ws)(xw:∀ x∈xs,x∈ws)(h:IntoO us ps ws M S i d rb add xs (.inr S')):Sok ws rbs M S' β:=by
 rcases h with ⟨c,e⟩|⟨c,nm',u,⟨pa,e,e2⟩|⟨e,e2⟩⟩
 ·cases e
 ·cases e2
 ·cases e2
  have ok:=so.ok d (Av hd);refine ⟨so.m0,so.bm,by rw [CT];exact so.sl,λd' hd'=>?_,λk d' rb' hd' hr'=>?_⟩
  ·rcases Ft hd' with h|h
   ·exact so.ok d' h
   ·rw [h]
    refine ⟨λy=>Int.add_nonneg (ok.nn y) (a0 y),λy hy=>?_,u.srt,λy hy=>?_⟩
    ·rcases (u.mem y).mp hy with h|h
     ·exact ok.nin y h
     ·exact xw y h
    ·by_cases z:d.1 y=0
     ·exact aw y λz2=>hy (by show d.1 y+add y=0;omega)
     ·exact ok.inw y z
  ·by_cases ik:i=k
   ·subst ik
    rw [Ca (Ae.mp hd).1] at hd';cases hd';rw [hr] at hr';cases hr';show tot ws (λy=>d.1 y+add y)*rb.2<=_;omega
   ·rw [BU ik] at hd'
    exact so.fit k d' rb' hd' hr'
def aBj {nb:Nat}(pt:PsT H us ps)(nS:S.length=nb)(nr:rbs.length=nb)(g:GoodR nb ws rw):∃ o,RowO us ps rbs ws M S o rw:=by
 have gS:∀ {i:Nat},i<nb->∃ d rb,S[i]?=some d/\rbs[i]?=some rb:=λ{i} h=>⟨_,_,Ad (by omega),Ad (by omega)⟩;cases rw with
 |draw i x t b=>
  obtain ⟨d,rb,h1,h2⟩:=gS g.1;obtain ⟨o,ho⟩:=pO (ws:=ws) (M:=M*sk M b) (S:=scl (sk M b) S) (i:=i) (d:=(λy=>d.1 y*sk M b,d.2)) (rb:=rb) (add:=oneW x (nF M t b)) (xs:=[x]) pt;exact ⟨o,d,rb,h1,h2,ho⟩
 |fill i x t b=>
  obtain ⟨d,rb,h1,h2⟩:=gS g.1
  by_cases c:tot ws d.1*b<t*M
  ·obtain ⟨o,ho⟩:=pO (ws:=ws) (M:=M*sk M b) (S:=scl (sk M b) S) (i:=i) (d:=(λy=>d.1 y*sk M b,d.2)) (rb:=rb) (add:=oneW x (nF M t b-tot ws d.1*sk M b)) (xs:=[x]) pt
   exact ⟨o,d,rb,h1,h2,.inr ⟨c,ho⟩⟩
  ·exact ⟨_,d,rb,h1,h2,.inl ⟨c,rfl⟩⟩
 |pour i j t b=>
  obtain ⟨di,_,h1,_⟩:=gS g.1;obtain ⟨dj,rbj,h2,h3⟩:=gS g.2.1
  by_cases c:∀ y,di.1 y=0
  ·exact ⟨_,di,dj,rbj,h1,h2,h3,.inl ⟨c,rfl⟩⟩
  ·obtain ⟨o,ho⟩:=pO (ws:=ws) (M:=M*b) (S:=(scl b S).set i (λy=>di.1 y*b-di.1 y*t,di.2)) (i:=j) (d:=(λy=>dj.1 y*b,dj.2)) (rb:=rbj) (add:=λy=>di.1 y*t) (xs:=di.2) pt
   exact ⟨o,di,dj,rbj,h1,h2,h3,.inr ⟨c,ho⟩⟩
 |empty i=>
  obtain ⟨d,_,h1,_⟩:=gS (show i<nb from g);exact ⟨_,d,h1,rfl⟩
 |rinse i=>
  obtain ⟨d,_,h1,_⟩:=gS (show i<nb from g)
  by_cases c:∀ y,d.1 y=0
  ·exact ⟨_,d,h1,.inr ⟨c,rfl⟩⟩
  ·exact ⟨_,d,h1,.inl ⟨c,rfl⟩⟩
theorem RowO.p (hk:knd rw=true)(h:RowO us ps rbs ws M S o rw)(k:OutP c0 c1 c2 c3 c4 n (rwM M rw) H Q E o):ResP c0 c1 c2 c3 c4 us ps rbs ws M S n H Q E rw:=by
 cases rw with
 |draw i x t b=>
  obtain ⟨d,rb,h1,h2,h3⟩:=h;exact ⟨d,rb,h1,h2,h3.r k⟩
 |fill i x t b=>
  obtain ⟨d,rb,h1,h2,h3⟩:=h;refine ⟨d,rb,h1,h2,?_⟩
  rcases h3 with ⟨c,rfl⟩|⟨c,h3⟩
  ·exact ⟨λ_=>k,λc'=>absurd c' c⟩
  ·exact ⟨λc'=>absurd c c',λ_=>h3.r k⟩
 |pour i j t b=>exact absurd hk AC
 |empty i=>exact absurd hk AC
 |rinse i=>exact absurd hk AC
theorem RowO.l (h:RowO us ps rbs ws M S o rw)(k:OutL (rwM M rw) H Q o):ResL us ps rbs ws M S H Q rw:=by
 cases rw with
 |draw i x t b=>
  obtain ⟨d,rb,h1,h2,h3⟩:=h;exact ⟨d,rb,h1,h2,h3.l k⟩
 |fill i x t b=>
  obtain ⟨d,rb,h1,h2,h3⟩:=h;refine ⟨d,rb,h1,h2,?_⟩
  rcases h3 with ⟨c,rfl⟩|⟨c,h3⟩
  ·exact ⟨λ_=>k,λc'=>absurd c' c⟩
  ·exact ⟨λc'=>absurd c c',λ_=>h3.l k⟩
 |pour i j t b=>
  obtain ⟨di,dj,rbj,h1,h2,h3,h4⟩:=h;refine ⟨di,dj,rbj,h1,h2,h3,?_⟩
  rcases h4 with ⟨c,rfl⟩|⟨c,h4⟩
  ·exact ⟨λ_=>k,λc'=>absurd c c'⟩
  ·exact ⟨λc'=>absurd c' c,λ_=>h4.l k⟩
 |empty i=>
  obtain ⟨d,h1,rfl⟩:=h;exact ⟨d,h1,k⟩
 |rinse i=>
  obtain ⟨d,h1,h2⟩:=h;refine ⟨d,h1,?_⟩
  rcases h2 with ⟨c,rfl⟩|⟨c,rfl⟩
  ·exact ⟨λ_=>k,λc'=>absurd c' c⟩
  ·exact ⟨λc'=>absurd c c',λ_=>k⟩
theorem aBb {f g:Str->Int}(h:∀ y,f y<=g y):∀ ws:List Str,tot ws f<=tot ws g
 |[]=>DS _
 |y::r=>by
  have ih:=aBb h r;have:=h y;unfold tot at ih ⊢;rw [Al,Al,AL,AL];omega
theorem qE:∀ ws:List Str,tot ws (λ_=>0)=0
 |[]=>rfl
 |y::r=>by
  have ih:=qE r;unfold tot at ih ⊢;rw [Al,AL,ih];rfl
def Sok.put {β i:Nat}(so:Sok ws rbs M S β)(rp:∀ (i:Nat) rb,rbs[i]?=some rb->0<=rb.2)(hd:S[i]?=some d)(ok:Okf ws d')(le:∀ y,d'.1 y<=d.1 y):Sok ws rbs M (S.set i d') β:=by
 refine ⟨so.m0,so.bm,by rw [CT];exact so.sl,λe he=>?_,λk e rb he hr=>?_⟩
 ·rcases Ft he with h|h
  ·exact so.ok e h
  ·rw [h];exact ok
 ·by_cases ik:i=k
  ·subst ik
   rw [Ca (Ae.mp hd).1] at he;cases he;exact Ep (BD (aBb le ws) (rp i rb hr)) (so.fit i d rb hd hr)
  ·rw [BU ik] at he
   exact so.fit k e rb he hr
def Sok.mono {β γ:Nat}(so:Sok ws rbs M S β)(h:β<=γ):Sok ws rbs M S γ:=⟨so.m0,so.bm.mono h,so.sl,so.ok,so.fit⟩
def wD {n:Int}(h:0<=n)(y:Str):0<=oneW x n y:=by
 unfold oneW;split
 ·exact h
 ·exact DS _
def wF {n:Int}(h:x∈ws)(y:Str)(hy:oneW x n y≠0):y∈ws:=by
 unfold oneW at hy;split at hy
 ·rename_i e;rw [<- e];exact h
 ·exact absurd rfl hy
def uZ (h:x∈ws):∀ y∈[x],y∈ws:=λy hy=>by rw [AB.mp hy];exact h
def RowO.sok {β γ nb:Nat}(so:Sok ws rbs M S β)(rp:∀ (i:Nat) rb,rbs[i]?=some rb->0<=rb.2)(g:GoodR nb ws rw)(sm:0<rws M rw/\Bt γ (rws M rw))(h:RowO us ps rbs ws M S (.inr S') rw):Sok ws rbs (rwM M rw) S' (β+γ):=by
 have M0:=so.m0;cases rw with
 |draw i x t b=>
  obtain ⟨d,rb,h1,h2,h3⟩:=h;obtain ⟨g1,g2,g3,g4⟩:=g;obtain ⟨b0,bb⟩:=sm;exact IntoO.sok (so.scale b0 bb) (fJ h1) h2 (wD (aGe M0 g3.am)) (wF g2) (uZ g2) h3
 |fill i x t b=>
  obtain ⟨d,rb,h1,h2,h3⟩:=h;obtain ⟨g1,g2,g3⟩:=g;obtain ⟨b0,bb⟩:=sm
  rcases h3 with ⟨c,e⟩|⟨c,h3⟩
  ·cases e
  ·exact IntoO.sok (so.scale b0 bb) (fJ h1) h2 (wD (by have:=(aD5 (T:=tot ws d.1) M0 g3.am).mp c;omega)) (wF g2) (uZ g2) h3
 |pour i j t b=>
  obtain ⟨di,dj,rbj,h1,h2,h3,h4⟩:=h;obtain ⟨g1,g2,g3,g4,g5,g6⟩:=g;obtain ⟨b0,bb⟩:=sm
  rcases h4 with ⟨c,e⟩|⟨c,h4⟩
  ·cases e
  ·have ok:=so.ok di (Av h1)
   have tn:∀ y,0<=di.1 y*t:=λy=>Bk (ok.nn y) (by omega);have s1:=(so.scale b0 bb).put (d':=(λy=>di.1 y*b-di.1 y*t,di.2)) rp (fJ h1) ⟨λy=>by
    have:=Bg g6 (ok.nn y);show 0<=di.1 y*b-di.1 y*t;omega,ok.nin,ok.srt,λy hy=>ok.inw y λe=>hy (by show di.1 y*b-di.1 y*t=0;rw [e,Co,Co];rfl)⟩ (λy=>by
    have:=tn y;show di.1 y*b-di.1 y*t<=di.1 y*b;omega)
   exact IntoO.sok s1 (by rw [BU g3];exact fJ h2) h3 tn (λy hy=>ok.inw y λe=>hy (by show di.1 y*t=0;rw [e,Co])) ok.nin h4
 |empty i=>
  obtain ⟨d,h1,e⟩:=h;cases e;have ok:=so.ok d (Av h1);exact (so.put (d':=(λ_=>0,d.2)) rp h1 ⟨λ_=>DS _,ok.nin,ok.srt,λy hy=>absurd rfl hy⟩ ok.nn).mono (Nat.le_add_right ..)
 |rinse i=>
  obtain ⟨d,h1,h2⟩:=h;have ok:=so.ok d (Av h1)
  rcases h2 with ⟨c,e⟩|⟨c,e⟩
  ·cases e
  ·cases e
   exact (so.put (d':=(λ_=>0,[])) rp h1 ⟨λ_=>DS _,(λy hy=>by cases hy),.nil,λy hy=>absurd rfl hy⟩ ok.nn).mono (Nat.le_add_right ..)
def dPh (M:Int)(d:PF)(D:Dt):Prop:=∃ ys,IsMx M d.1 ys/\D=.t [.t (ys.map dOf),.t (d.2.map Dt.s)]
def Pr.dv2 {K:Aa}{v:V}{x:Str×Int×Int}(h:Pr H v x):Dv K H 2 v (dOf x):=by
 obtain ⟨p,q,rfl,h1,h2⟩:=h;exact .two (SqZ.of h1) .s (.two (SqZ.of h2) .i .i)
def PrL.dl2 {K:Aa}{vs:List V}{xs:List (Str×Int×Int)}(h:PrL H vs xs):DL K H 2 vs (xs.map dOf):=by
 induction h with
 |nil=>exact DL.nil
 |cons p _ ih=>exact DL.cons (Pr.dv2 p) ih
theorem xW {K:Aa}{m:Nat}:∀ (xs:List Str),DL K H m (xs.map V.str) (xs.map Dt.s)
 |[]=>DL.nil
 |x::r=>DL.cons .s (xW r)
def PhA.dv {K:Aa}{v:V}{d:PF}{D:Dt}(M0:0<M)(h:PhA H M v d)(k:dPh M d D):Dv K H 4 v D:=by
 obtain ⟨a,m,n,us,ys,rfl,h1,h2,h3,h4,h5⟩:=h;obtain ⟨zs,h6,rfl⟩:=k;cases h4.uniq M0 h6;exact .two (SqZ.of h1) (.tup (SqZ.of h2) (PrL.dl2 h3)) (.tup (SqZ.of h5) (xW _))
def PhA.dph (h:PhA H M v d):∃ D,dPh M d D:=by
 obtain ⟨a,m,n,us,ys,rfl,h1,h2,h3,h4,h5⟩:=h;exact ⟨_,ys,h4,rfl⟩
theorem xQ {α β:Type}{p:α->β->Prop}:∀ l:List α,(∀ a∈l,∃ b,p a b)->∃ bs:List β,bs.length=l.length/\∀ (i:Nat) a b,l[i]?=some a->bs[i]?=some b->p a b
 |[],_=>⟨[],rfl,λi a b h=>by simp at h⟩
 |a::l,h=>by
  obtain ⟨b,hb⟩:=h a (Au ..);obtain ⟨bs,h1,h2⟩:=xQ l λx hx=>h x (Aj _ hx);refine ⟨b::bs,by rw [AI,AI,h1],λi x y hx hy=>?_⟩;cases i with
  |zero=>cases hx;cases hy;exact hb
  |succ i=>exact h2 i x y (by simpa using hx) (by simpa using hy)
def StV.ds {l:Addr}(h:StV H l M S):∃ ds:List Dt,ds.length=S.length/\∀ (i:Nat) d D,S[i]?=some d->ds[i]?=some D->dPh M d D:=xQ S λd hd=>by
 obtain ⟨i,hi⟩:=Fd hd;obtain ⟨vs,v,_,_,_,ph⟩:=h.get hi;exact ph.dph
theorem StV.dl {K:Aa}{l:Addr}{ds:List Dt}(M0:0<M)(h:StV H l M S)(dl:ds.length=S.length)(hd:∀ (i:Nat) d D,S[i]?=some d->ds[i]?=some D->dPh M d D):∃ vs,H l=some (.lst vs)/\DL K H 40 vs ds:=by
 obtain ⟨vs,h1,h2,h3⟩:=h;refine ⟨vs,h1,by omega,λi v D hv hD=>?_⟩;obtain ⟨d,hd'⟩:∃ d,S[i]?=some d:=⟨_,Ad (by have:=(Ae.mp hv).1;omega)⟩;exact ((h3 i v d hv hd').dv M0 (hd i d D hd' hD)).mono (by decide)
theorem StV.same {K:Aa}{l l':Addr}(M0:0<M)(h:StV H l M S)(h':StV H l' M S):∃ vs vs' ds,H l=some (.lst vs)/\H l'=some (.lst vs')/\DL K H 40 vs ds/\DL K H 40 vs' ds:=by
 obtain ⟨ds,h1,h2⟩:=h.ds;obtain ⟨vs,a1,a2⟩:=h.dl (K:=K) M0 h1 h2;obtain ⟨vs',b1,b2⟩:=h'.dl (K:=K) M0 h1 h2;exact ⟨vs,vs',ds,a1,b1,a2,b2⟩
end
end K33
namespace K33
open PySem PySem.Spec PyProof.Rows L2 GM TM TR
def aFk {nb:Nat}{M:Int}(g:GoodR nb ws rw)(l:rwb rw<=10000):0<rws M rw/\Bt 14 (rws M rw)/\ScR M rw:=by
 have sm:∀ {b:Int},1<=b->b<=10000->0<sk M b/\Bt 14 (sk M b)/\Bt 200 (sk M b):=λ{b} b1 l=>by
  have h0:=eI (M:=M) b1;have h1:=aHm (M:=M) b1;have h2:Bt 14 (sk M b):=cZ 14 (c:=10001) (by omega) (by omega);exact ⟨h0,h2,h2.mono (by decide)⟩
 cases rw with
 |draw i x t b=>exact sm g.2.2.1.am.b1 l
 |fill i x t b=>exact sm g.2.2.am.b1 l
 |pour i j t b=>
  have b1:=g.2.2.2.1.am.b1;have l':b<=10000:=l;exact ⟨by show 0<b;omega,cZ 14 (c:=10001) (by show 0<=b;omega) (by show b<10001;omega),trivial⟩
 |empty i=>exact ⟨(by show (0:Int)<1;decide),cZ 14 (c:=2) (by show (0:Int)<=1;decide) (by show (1:Int)<2;decide),trivial⟩
 |rinse i=>exact ⟨(by show (0:Int)<1;decide),cZ 14 (c:=2) (by show (0:Int)<=1;decide) (by show (1:Int)<2;decide),trivial⟩
def kP (K:Aa):Sp:=λvs H Q _=>∃ sc b wl r q rs us ps rbs ws,∃ (ns:List Int) (st la:Nat),vs=[.ref sc,.ref b,.ref wl,.int ((st:Nat):Int),.int ((la:Nat):Int)]/\SqL K H sc (ns.map V.int)/\ns.length<=63/\BS H b r q rs us ps rbs ws/\WsV H wl ws/\st<=la/\la<=63/\∀ l M S β H',Same H H'->H l=none->StV H' l M S->Sok ws rbs M S β->β<=14*(la-st)+1->Q (.ref l) H'
def fw:Fat->Str
 |.dry _=>"dry"
 |.low _=>"low"
 |.wet _=>"wet"
 |.spilt ..=>"spilt"
 |.touch ..=>"touch"
def fcl (c0 c1 c2 c3 c4:Addr):Fat->Addr
 |.dry _=>c1
 |.low _=>c1
 |.wet _=>c1
 |.spilt ..=>c3
 |.touch ..=>c4
def ErV (c0 c1 c2 c3 c4:Addr)(H:Hp)(e:Addr)(n:Nat):Fat->Prop
 |.dry _=>False
 |.low i=>∃ dx,H e=some (excD e c1 (some dx))/\H dx=some (xdE dx [("phial",.int (i:Nat)),("place",.int (n:Nat))])
 |.wet _=>False
 |.spilt i M N rb=>∃ dx a t b,H e=some (excD e c3 (some dx))/\H dx=some (xdE dx [("over",.ref a),("phial",.int (i:Nat)),("place",.int (n:Nat))])/\H a=some (.tup [.int t,.int b])/\Fr (M*rb.2) t b (N*rb.2-rb.1*M)
 |.touch i pa=>∃ dx,H e=some (excD e c4 (some dx))/\H dx=some (xdE dx [("pair",.ref pa),("phial",.int (i:Nat)),("place",.int (n:Nat))])
def FtG (H:Hp):Fat->Prop
 |.spilt _ M _ rb=>0<M*rb.2
 |.touch _ pa=>∃ x y:Str,H pa=some (.tup [.str x,.str y])
 |_=>True
def FtG.keep (s:Same H H')(h:FtG H f):FtG H' f:=by
 cases f with
 |touch i pa=>obtain ⟨x,y,h⟩:=h;exact ⟨x,y,s _ _ h⟩
 |_=>exact h
def RfV.keep (s:Same H H')(h:RfV H z f):RfV H' z f:=by
 cases f with
 |spilt i M N rb=>obtain ⟨a,t,b,h1,h2,h3⟩:=h;exact ⟨a,t,b,s _ _ h1,s _ _ h2,h3⟩
 |dry i=>exact s _ _ h
 |low i=>exact s _ _ h
 |wet i=>exact s _ _ h
 |touch i pa=>exact s _ _ h
def IntoO.ftg {M:Int}{i:Nat}{rb:Int×Int}{add:Str->Int}(pt:PsT H us ps)(M0:0<M)(r0:0<rb.2)(h:IntoO us ps ws M S i d rb add xs (.inl f)):FtG H f:=by
 rcases h with ⟨c,e⟩|⟨c,nm',u,⟨pa,e,e2⟩|⟨e,e2⟩⟩
 ·cases e
  exact Ba M0 r0
 ·cases e2
  rcases fZ (xs:=nm') pt with e3|⟨pa',p,e3,_,hp⟩
  ·rw [e] at e3;cases e3
  ·rw [e] at e3;cases e3
   exact ⟨_,_,hp⟩
 ·cases e2
def RowO.ftg {M:Int}{nb:Nat}(pt:PsT H us ps)(M0:0<M)(rp:∀ (i:Nat) rb,rbs[i]?=some rb->0<rb.2)(g:GoodR nb ws rw)(h:RowO us ps rbs ws M S (.inl f) rw):FtG H f:=by
 cases rw with
 |draw i x t b=>
  obtain ⟨d,rb,h1,h2,h3⟩:=h;exact h3.ftg pt (Ba M0 (by have:=g.2.2.1.am.b1;have:=eI (M:=M) this;omega)) (rp i rb h2)
 |fill i x t b=>
  obtain ⟨d,rb,h1,h2,h3⟩:=h
  rcases h3 with ⟨c,e⟩|⟨c,h3⟩
  ·cases e;trivial
  ·exact h3.ftg pt (Ba M0 (by have:=g.2.2.am.b1;have:=eI (M:=M) this;omega)) (rp i rb h2)
 |pour i j t b=>
  obtain ⟨di,dj,rbj,h1,h2,h3,h4⟩:=h
  rcases h4 with ⟨c,e⟩|⟨c,h4⟩
  ·cases e;trivial
  ·exact h4.ftg pt (Ba M0 (by have:=g.2.2.2.1.am.b1;omega)) (rp j rbj h3)
 |empty i=>obtain ⟨d,h1,e⟩:=h;cases e
 |rinse i=>
  obtain ⟨d,h1,h2⟩:=h
  rcases h2 with ⟨c,e⟩|⟨c,e⟩
  ·cases e;trivial
  ·cases e
def aEm {n:Nat}(h:∀ dx H',Same H H'->(∀ e,H' e=none->ErV c0 c1 c2 c3 c4 (upd H' e (excD e (fcl c0 c1 c2 c3 c4 f) (some dx))) e n f)->E (.ref (fcl c0 c1 c2 c3 c4 f)) (some dx) H'):BadF c0 c1 c2 c3 c4 n H E f:=by
 cases f with
 |dry i=>trivial
 |low i=>exact λdx H' s hd=>h dx H' s λe he=>⟨dx,aB,Same.upd he _ _ hd⟩
 |wet i=>trivial
 |spilt i M N rb=>exact λa t b dx H' s ha fr hd=>h dx H' s λe he=>⟨dx,a,t,b,aB,Same.upd he _ _ hd,Same.upd he _ _ ha,fr⟩
 |touch i pa=>exact λdx H' s hd=>h dx H' s λe he=>⟨dx,aB,Same.upd he _ _ hd⟩
def fkd:Fat->Prop
 |.dry ..=>False
 |.low ..=>True
 |.wet ..=>False
 |.spilt ..=>True
 |.touch ..=>True
def uW (c0 c1 c2 c3 c4:Addr):Sp:=λvs H Q _=>∃ a dd f,vs=[.ref a]/\fkd f/\H a=some (excD a (fcl c0 c1 c2 c3 c4 f) dd)/\∀ l H',Same H H'->H' l=some (.lst [.str (fw f)])->Q (.ref l) H'
def iJ (c0 c1 c2 c3 c4:Addr):Sp:=λvs H Q _=>∃ (a z:Addr) (n:Nat) (f:Fat),vs=[.ref a,.ref z,.int (n:Nat)]/\ErV c0 c1 c2 c3 c4 H a n f/\RfV H z f/\FtG H f/\∀ H',Same H H'->Q (.bl true) H'
section
variable {P:Az}{w:World}{K:Aa}{mg:Str->Option Value}{base:Heap}{cP c0 c1 c2 c3 c4 c5 f1 f3 f4:Addr}
def aGb:(["_law_room"]:List Str).Nodup:=by decide +kernel
abbrev Nphs:List Str:=["_law_script","_law_bench_here","_law_wares_here","_law_start","_law_last","_law_state","_law_k","_law_refusal","_law_found"]
def tD:FnScope Nphs ["_law_script","_law_bench_here","_law_wares_here","_law_start","_law_last"] (aI sPhials):=fnScOk (by decide +kernel)
def wI (F:Fun K "_law_phials" "_law_phials" sPhials f fd)(T:Txt mg)(cA:Cal P w K mg base CX0 6 "_law_after" ["_law_bench_here","_law_state","_law_row_here"] (lA K))(cR:Cal P w K mg base CX0 6 "_law_row" ["_law_bench_here","_law_wares_here","_law_script","_law_k"] (aCq K)):FnOk P w K mg base CX0 7 f fd ["_law_script","_law_bench_here","_law_wares_here","_law_start","_law_last"] (kP K):=by
 refine F.ok tD (λvs H Q E h=>?_) (λcdv A outer s H vs Q E hr h=>?_)
 ·obtain ⟨_,_,_,_,_,_,_,_,_,_,_,_,_,rfl,_⟩:=h
  rfl
 ·obtain ⟨sc,b,wl,r,q,rs,us,ps,rbs,ws,ns,st,la,rfl,hS,n63,bs,wv,sl,l63,k⟩:=h
  refine ⟨_,(aD (aC9 (iy:=5) (N':=["_law_room"]) (cl:=[]) (g:=L2.gName 0) (λ_=>[none]) rfl rfl (by decide +kernel) (by decide +kernel) (jZ (by decide +kernel)) (λ_ _=>oH)
    (jR (pit 1 0)) (λ_ _ _ _ _=>bA (i:=0) aGb rfl (Or.inl rfl) (Or.inr rfl)) (λ_ _ _ _ _=>fW) (λ_ _ _ _ _=>aW (aA (aW aC) (aA (aW aC) aC))) tD.nd rfl (Or.inl rfl) (Or.inr rfl) rfl)
   (aD (dN AV rfl (fX rfl T.range (aA (pv 3) (aA (aT (oA rfl) rfl T.min' boot_min (aA (aT bC rfl T.len BC (aA (pv 0) aC)) (aA (pv 4) aC))) aC))) (bA (i:=6) tD.nd rfl (Or.inl rfl))
    (aD (gU (aJ cA hr rfl aQ (aA (pv 1) (aA (pv 5) (aA (aJ cR hr rfl aQ (aA (pv 1) (aA (pv 2) (aA (pv 0) (aA (pv 6) aC))))) aC)))) (iT rfl (cY (bA (i:=7) tD.nd rfl (Or.inl rfl)) (cY (bA (i:=8) tD.nd rfl (Or.inl rfl)) fK))))
    (aG (bF (aS aBq (pv 7) dU (aV _))
     (aG (aM (i:=5) tD.nd rfl (Or.inl rfl) (pv 8)))
     aP))))
   (aG (aL (pv 5))))),?_⟩
  refine cut3 ?_
  intros
  have l16:=bs.bn.l16;refine ⟨b,_,_,rfl,SqT.of bs.bn.hp,rfl,r,rfl,⟨_,SqT.of bs.bn.hr⟩,λph nph=>?_⟩;refine lV (Ys.tup (SqT.of bs.bn.hr)) (λ_ _ y H'=>PhA H' 1 y (λ_=>0,[])) (λ_ _ _ _ _ h t=>by obtain ⟨a,m,n,us,ys,e,h1,h2,h3,h4,h5⟩:=h;exact ⟨a,m,n,us,ys,e,t _ _ h1,t _ _ h2,h3.keep t,h4,t _ _ h5⟩) nph (by omega) (λi x H' R hx sm hR=>?_) (λys H3 s3 hph yl hy=>?_)
  ·refine ⟨(Keep.refl _).set rfl,zLn0,λe1 ne1=>⟨zLn0,λe2 ne2=>⟨zLn2,λz nz=>?_⟩⟩⟩
   have t1:=Same.upd (o:=.tup []) ne1;have t2:=Same.upd (o:=.tup []) ne2;have t3:=Same.upd (o:=.tup [.ref e1,.ref e2]) nz;exact hR _ _ ((t1.trans t2).trans t3) ⟨z,e1,e2,[],[],rfl,aB,(t2.trans t3) _ _ aB,.nil,rJ,t3 _ _ aB⟩
  have rl:=bs.rm.1;have st0:StV H3 ph 1 (CO rbs.length (λ_=>0,[])):=⟨ys,hph,by rw [List.length_replicate];omega,λi v d hv hd=>by
   obtain ⟨x,hx⟩:∃ x,rs[i]?=some x:=⟨_,Ad (by have:=(Ae.mp hv).1;omega)⟩;rw [Ex] at hd;split at hd
   ·cases hd;exact hy i x v hx hv
   ·cases hd⟩
  have rp0:∀ (i:Nat) rb,rbs[i]?=some rb->0<=rb.2/\0<=rb.1:=λi rb h=>by
   have:=bs.rm.at h;exact ⟨by have:=this.b1;omega,by have:=this.t1;omega⟩
  have so0:Sok ws rbs 1 (CO rbs.length (λ_=>0,[])) 1:=⟨by decide,cZ 1 (c:=2) (by decide) (by decide),by rw [List.length_replicate],λd hd=>by
   rw [(List.mem_replicate.mp hd).2];exact ⟨λ_=>DS _,(λy hy=>by cases hy),.nil,λy hy=>absurd rfl hy⟩,λi d rb hd hr=>by
   rw [Ex] at hd;split at hd
   ·cases hd
    show tot ws (λ_=>0)*rb.2<=rb.1*1;rw [qE,Co,Int.mul_one];exact (rp0 i rb hr).2
   ·cases hd⟩
  refine ⟨_,rfl,_,rfl,sc,_,rfl,.inl (s3.seq hS),_,rfl,_,_,rfl,_,_,rfl,⟨by omega,by omega,by split<;>omega,by split<;>omega⟩,?_⟩;refine jY (λi σ H'=>∃ (l:Addr) (M:Int) (S:List PF) (β:Nat) (v6 v7 v8:Option V),σ=[some (.ref sc),some (.ref b),some (.ref wl),some (.int ((st:Nat):Int)),some (.int ((la:Nat):Int)),some (.ref l),v6,v7,v8]/\Same H H'/\H l=none/\StV H' l M S/\Sok ws rbs M S β/\β<=14*i+1) ⟨ph,1,_,1,none,none,none,rfl,s3,nph,st0,so0,by omega⟩ ?_ ?_
  rotate_left
  ·intro σ H4 hh
   obtain ⟨l,M,S,β,v6,v7,v8,rfl,s4,nl,st4,so4,bl⟩:=hh;refine ⟨_,rfl,k l M S β H4 s4 nl st4 so4 ?_⟩;refine Bh bl ?_;have:((if ((la:Nat):Int)<(((ns.map V.int).length:Nat):Int) then ((la:Nat):Int) else (((ns.map V.int).length:Nat):Int))-((st:Nat):Int)).toNat<=la-st:=by split<;>omega
   omega
  intro i σ H4 D' hN hi hh;obtain ⟨l,M,S,β,v6,v7,v8,rfl,s4,nl,st4,so4,bl⟩:=hh;have ki:st+i<ns.length/\st+i<la:=by
   have h2:i<((if ((la:Nat):Int)<(((ns.map V.int).length:Nat):Int) then ((la:Nat):Int) else (((ns.map V.int).length:Nat):Int))-((st:Nat):Int)).toNat:=hi;rw [Ag] at h2;split at h2<;>omega
  have ek:((st:Nat):Int)+(i:Int)=((st+i:Nat):Int):=by omega
  rw [ek];have bn:BnV H4 b rs.length:=⟨r,_,rs,s4 _ _ bs.bn.hp,s4 _ _ bs.bn.hr,rfl⟩;refine ⟨_,rfl,_,rfl,_,rfl,_,rfl,_,rfl,_,rfl,b,wl,sc,rs.length,ws,ns,st+i,rfl,bn,bs.bn.l1,l16,⟨s4 _ _ wv.1,wv.2⟩,s4.seq hS,ki.1,by omega,λz H5 s5 gr=>?_⟩;obtain ⟨rw',rv,gd,l1⟩:=gr.good;have sm:=aFk (M:=M) gd (by omega);have s05:=s4.trans s5;have bs5:=bs.keep s05;have o5:OnIn H5 b r q l rs us ps rbs ws M S β:=⟨bs5,st4.keep s5,so4,by omega⟩;have rp:∀ (i:Nat) rb,rbs[i]?=some rb->0<=rb.2:=λi rb h=>(rp0 i rb h).1;obtain ⟨o,ro⟩:=aBj (H:=H5) (us:=us) (ps:=ps) (rbs:=rbs) (ws:=ws) (M:=M) (S:=S) bs5.bn.pt (by rw [so4.sl,<- rl]) (by omega) gd;refine ⟨b,r,q,l,z,rs,us,ps,rbs,ws,M,S,β,rw',rfl,o5,rv,gd,sm.2.2,ro.l ?_⟩;cases o with
  |inl f=>
   intro zz t3 H6 s6 hz _;refine ⟨zz,_,rfl,SqT.of hz,rfl,_,_,rfl,_,_,rfl,rfl,_,rfl,rfl,_,rfl,iteF (hN _ _ ⟨l,M,S,β,_,_,_,rfl,s05.trans s6,nl,(st4.keep s5).keep s6,so4,by omega⟩)⟩
  |inr S'=>
   intro zz l' H6 s6 nl' hz st6;refine ⟨zz,_,rfl,SqT.of hz,rfl,_,_,rfl,_,_,rfl,rfl,_,rfl,rfl,_,rfl,iteT ⟨_,rfl,hN _ _ ⟨l',_,S',β+14,_,_,_,rfl,s05.trans s6,sm0 s05 nl',st6,RowO.sok so4 rp gd ⟨sm.1,sm.2.1⟩ ro,by omega⟩⟩⟩
def aCu:FnScope ["_law_found"] ["_law_found"] (aI sWhole):=fnScOk (by decide +kernel)
def zU (F:Fun K "_law_whole" "_law_whole" sWhole f fd)(T:Txt mg):FnOk P w K mg base CX0 1 f fd ["_law_found"] (spWh K):=by
 refine F.ok aCu (λvs H Q E h=>?_) (λcdv A outer s H vs Q E hr h=>?_)
 ·obtain ⟨_,_,rfl,_⟩:=h
  rfl
 ·obtain ⟨v,β,rfl,h,k⟩:=h
  refine ⟨_,aG (aL (iW (aT eF rfl T.isi BA (aA (pv 0) (aA (eM (v:=.ty "int") rfl T.int' yM rfl) aC)))
   (fY (vT (aT eF rfl T.isi BA (aA (pv 0) (aA (eM (v:=.ty "bool") rfl T.bool' yN rfl) aC))))))),?_⟩
  cases h with
  |int=>exact ⟨_,rfl,_,"int",true,rfl,.int_int,_,rfl,iteT ⟨_,rfl,_,"bool",false,rfl,.int_bool,_,rfl,k⟩⟩
  |bl=>exact ⟨_,rfl,_,"int",true,rfl,.bl_int,_,rfl,iteT ⟨_,rfl,_,"bool",true,rfl,.bl_bool,_,rfl,k⟩⟩
  |oth h=>exact ⟨_,rfl,_,"int",false,rfl,h,_,rfl,iteF k⟩
def aBh:FnScope ["_law_error","_law_found"] ["_law_error"] (aI sKind):=fnScOk (by decide +kernel)
def aDv (F:Fun K "_law_kind" "_law_kind" sKind f fd)(T:Txt mg)(R:ErB K mg cP c0 c1 c2 c3 c4 c5 f1 f3 f4):FnOk P w K mg base CX0 1 f fd ["_law_error"] (uW c0 c1 c2 c3 c4):=by
 refine F.ok aBh (λvs H Q E h=>?_) (λcdv A outer s H vs Q E hr h=>?_)
 ·obtain ⟨_,_,_,rfl,_⟩:=h
  rfl
 ·obtain ⟨a,dd,ft,rfl,fk,ha,k⟩:=h
  refine ⟨_,(aD (aM (i:=1) aBh.nd rfl (Or.inl rfl) (cJ aC))
   (aD (bF (cV (aT eK rfl T.isi BA (aA (pv 0) (aA (dP (v:=.ref c0) rfl R.m0 rfl) aC)))) (aG (dG (iV AY Bc Bb bY (pv 1) (aA aU aC)))) aP)
   (aD (bF (cV (aT eK rfl T.isi BA (aA (pv 0) (aA (dP (v:=.ref c1) rfl R.r1.m rfl) aC)))) (aG (dG (iV AY Bc Bb bY (pv 1) (aA aU aC)))) aP)
   (aD (bF (cV (aT eK rfl T.isi BA (aA (pv 0) (aA (dP (v:=.ref c2) rfl R.m2 rfl) aC)))) (aG (dG (iV AY Bc Bb bY (pv 1) (aA aU aC)))) aP)
   (aD (bF (cV (aT eK rfl T.isi BA (aA (pv 0) (aA (dP (v:=.ref c3) rfl R.r3.m rfl) aC)))) (aG (dG (iV AY Bc Bb bY (pv 1) (aA aU aC)))) aP)
   (aD (bF (cV (aT eK rfl T.isi BA (aA (pv 0) (aA (dP (v:=.ref c4) rfl R.r4.m rfl) aC)))) (aG (dG (iV AY Bc Bb bY (pv 1) (aA aU aC)))) aP)
   (aD (bF (cV (aT eK rfl T.isi BA (aA (pv 0) (aA (dP (v:=.ref c5) rfl R.m5 rfl) aC)))) qW aP)
   (aG (aL (pv 1)))))))))),?_⟩
  refine cut8 ?_
  intros
  refine ⟨zLn0,λl nl=>?_⟩;have sl:=Same.upd (o:=.lst []) nl;have hl:upd H l (.lst []) l=some (.lst []):=aB;have nl0:=nl;have kk:∀ x:Str,x=fw ft->Q (.ref l) (upd (upd H l (.lst [])) l (.lst [.str x])):=λx e=>k l _ (λb o e=>by rw [aH (bE e nl0)];exact sl _ _ e) (by rw [e];exact aB);have la:∀ x:Str,∀ p o,p≠l->(upd H l (.lst [])) p=some o->upd (upd H l (.lst [])) l (.lst [.str x]) p=some o:=λx p o n h=>by rw [aH n];exact h
  generalize upd H l (.lst [])=H1 at sl hl kk la ⊢;have h1:=sl _ _ ha;have al:a≠l:=λe=>by rw [e] at ha;rw [ha] at nl0;cases nl0
  cases ft with
  |dry i=>exact fk.elim
  |low i=>
   have ck:=(R.r1.e "place" (by simp)).i.k;have h2:=la "low" _ _ al h1;refine ⟨_,rfl,a,c1,dd,.ref c0,.ref c0,false,rfl,h1,ck,rfl,R.i10,_,rfl,iteF ?_⟩;refine ⟨_,rfl,a,c1,dd,.ref c1,.ref c1,true,rfl,h1,ck,rfl,R.i11,_,rfl,iteT ?_⟩;refine ⟨_,rfl,.inl ⟨rfl,_,SqL.of hl⟩,l,_,_,rfl,rfl,hl,bP (by show 0<=1000;decide),?_⟩;refine ⟨_,rfl,a,c1,dd,.ref c2,.ref c2,false,rfl,h2,ck,rfl,R.i12,_,rfl,iteF ?_⟩;refine ⟨_,rfl,a,c1,dd,.ref c3,.ref c3,false,rfl,h2,ck,rfl,R.i13,_,rfl,iteF ?_⟩;refine ⟨_,rfl,a,c1,dd,.ref c4,.ref c4,false,rfl,h2,ck,rfl,R.i14,_,rfl,iteF ?_⟩;refine ⟨_,rfl,a,c1,dd,.ref c5,.ref c5,false,rfl,h2,ck,rfl,R.i15,_,rfl,iteF ?_⟩;exact ⟨_,rfl,kk _ rfl⟩
  |wet i=>exact fk.elim
  |spilt i M N rb=>
   have ck:=(R.r3.e "place" (by simp)).i.k;have h2:=la "spilt" _ _ al h1;refine ⟨_,rfl,a,c3,dd,.ref c0,.ref c0,false,rfl,h1,ck,rfl,R.i30,_,rfl,iteF ?_⟩;refine ⟨_,rfl,a,c3,dd,.ref c1,.ref c1,false,rfl,h1,ck,rfl,R.i31,_,rfl,iteF ?_⟩;refine ⟨_,rfl,a,c3,dd,.ref c2,.ref c2,false,rfl,h1,ck,rfl,R.i32,_,rfl,iteF ?_⟩;refine ⟨_,rfl,a,c3,dd,.ref c3,.ref c3,true,rfl,h1,ck,rfl,R.i33,_,rfl,iteT ?_⟩;refine ⟨_,rfl,.inl ⟨rfl,_,SqL.of hl⟩,l,_,_,rfl,rfl,hl,bP (by show 0<=1000;decide),?_⟩;refine ⟨_,rfl,a,c3,dd,.ref c4,.ref c4,false,rfl,h2,ck,rfl,R.i34,_,rfl,iteF ?_⟩;refine ⟨_,rfl,a,c3,dd,.ref c5,.ref c5,false,rfl,h2,ck,rfl,R.i35,_,rfl,iteF ?_⟩;exact ⟨_,rfl,kk _ rfl⟩
  |touch i pa=>
   have ck:=(R.r4.e "place" (by simp)).i.k;have h2:=la "touch" _ _ al h1;refine ⟨_,rfl,a,c4,dd,.ref c0,.ref c0,false,rfl,h1,ck,rfl,R.i40,_,rfl,iteF ?_⟩;refine ⟨_,rfl,a,c4,dd,.ref c1,.ref c1,false,rfl,h1,ck,rfl,R.i41,_,rfl,iteF ?_⟩;refine ⟨_,rfl,a,c4,dd,.ref c2,.ref c2,false,rfl,h1,ck,rfl,R.i42,_,rfl,iteF ?_⟩;refine ⟨_,rfl,a,c4,dd,.ref c3,.ref c3,false,rfl,h1,ck,rfl,R.i43,_,rfl,iteF ?_⟩;refine ⟨_,rfl,a,c4,dd,.ref c4,.ref c4,true,rfl,h1,ck,rfl,R.i44,_,rfl,iteT ?_⟩;refine ⟨_,rfl,.inl ⟨rfl,_,SqL.of hl⟩,l,_,_,rfl,rfl,hl,bP (by show 0<=1000;decide),?_⟩;refine ⟨_,rfl,a,c4,dd,.ref c5,.ref c5,false,rfl,h2,ck,rfl,R.i45,_,rfl,iteF ?_⟩;exact ⟨_,rfl,kk _ rfl⟩
def vC:FnScope ["_law_error","_law_due","_law_place"] ["_law_error","_law_due","_law_place"] (aI sRefused):=fnScOk (by decide +kernel)
def tH (F:Fun K "_law_refused" "_law_refused" sRefused f fd)(T:Txt mg)(R:ErB K mg cP c0 c1 c2 c3 c4 c5 f1 f3 f4)(cK:Cal P w K mg base CX0 1 "_law_kind" ["_law_error"] (uW c0 c1 c2 c3 c4))(cW:Cal P w K mg base CX0 1 "_law_whole" ["_law_found"] (spWh K)):FnOk P w K mg base CX0 2 f fd ["_law_error","_law_due","_law_place"] (iJ c0 c1 c2 c3 c4):=by
 refine F.ok vC (λvs H Q E h=>?_) (λcdv A outer s H vs Q E hr h=>?_)
 ·obtain ⟨_,_,_,_,rfl,_⟩:=h
  rfl
 ·obtain ⟨a,z,n,ft,rfl,er,rf,fg,k⟩:=h
  refine ⟨_,(aD (bF (PW.pt (hU (eD (cV (aT eK rfl T.isi BA (aA (pv 0) (aA (eM (v:=.ty "ValueError") rfl T.val aG1 rfl) aC))))) (fH (aS (aDj hr.units) (aJ cK hr rfl aQ (aA (pv 0) aC)) (cJ (aA (pit 1 0) aC)) (aV _)))))
    (aG (aL eY))
    aP)
   (aD (bF (PW.pt (hU (eD (cV (aJ cW hr rfl aQ (aA (jT (pv 0) rfl) aC)))) (fH (aS nA (jT (pv 0) rfl) (pv 2) (aV _)))))
    (aG (aL eY))
    aP)
   (aD (bF (aS dB (pit 1 0) aU (aV _))
    (aG (aL eY))
    aP)
   (aD (bF (PW.pt (hU (eD (cV (aJ cW hr rfl aQ (aA (jT (pv 0) rfl) aC)))) (fH (aS nA (jT (pv 0) rfl) (pit 1 1) (aV _)))))
    (aG (aL eY))
    aP)
   (aD (bF (aS dB (pit 1 0) aU (aV _))
    (aG (aL (dH (aBs hr.units) (jT (pv 0) rfl) (pit 1 2) (aV _))))
    aP)
   (aG (aL (aDd (dH nA (pit 1 0) aU (aV _)) (fY (dH (aDn hr.units) (jT (pv 0) rfl) (pit 1 2) (aV _))))))))))),?_⟩
  refine cut6 ?_
  intros
  cases ft with
  |dry i=>exact er.elim
  |low i=>
   obtain ⟨dx,ha,hdx⟩:=er;have hz:H z=some (.tup [.str "low",.int ((i:Nat):Int),.non]):=rf;have ck:=(R.r1.e "place" (by simp)).i.k;have e1:=R.r1.e "place" (by simp);have e2:=R.r1.e "phial" (by simp);refine ⟨_,rfl,a,c1,some dx,.type "ValueError",.ty "ValueError",true,rfl,ha,ck,rfl,R.r1.v,_,rfl,iteF ?_⟩;refine ⟨_,rfl,a,some dx,.low i,rfl,trivial,ha,λl H1 s1 hl=>?_⟩;refine ⟨z,_,_,rfl,SqT.of (s1 _ _ hz),rfl,zLn1,λl2 n2=>?_⟩;have s2:=Same.upd (o:=.lst [.str "low"]) n2;have h2:upd H1 l2 (.lst [.str "low"]) l2=some (.lst [.str "low"]):=aB;generalize upd H1 l2 (.lst [.str "low"])=H2 at s2 h2 ⊢;have s02:=s1.trans s2;refine ⟨l,l2,_,rfl,rfl,SqL.of (s2 _ _ hl),SqL.of h2,λv hv=>by rw [AB.mp hv];exact .inl rfl,_,rfl,iteF ?_⟩;have ha2:=s02 _ _ ha;have hx2:=s02 _ _ hdx;have sz:=SqT.of (K:=K) (s02 _ _ hz);refine ⟨_,rfl,a,c1,cP,f1,dx,_,.int (n:Nat),rfl,ha2,hx2,e1,rfl,_,true,rfl,.int,_,rfl,iteF ⟨_,rfl,a,c1,cP,f1,dx,_,.int (n:Nat),rfl,ha2,hx2,e1,rfl,_,rfl,rfl,_,rfl,ite2 (λhc=>by simp at hc) (λ_=>?_)⟩⟩;refine ⟨z,_,_,rfl,sz,rfl,rfl,_,rfl,iteF ?_⟩;refine ⟨_,rfl,a,c1,cP,f1,dx,_,.int (i:Nat),rfl,ha2,hx2,e2,rfl,_,true,rfl,.int,_,rfl,iteF ⟨_,rfl,a,c1,cP,f1,dx,_,.int (i:Nat),rfl,ha2,hx2,e2,rfl,z,_,_,rfl,sz,rfl,rfl,_,rfl,ite2 (λhc=>by simp at hc) (λ_=>?_)⟩⟩;exact ⟨z,_,_,rfl,sz,rfl,rfl,_,rfl,iteF ⟨z,_,_,rfl,sz,rfl,rfl,_,rfl,iteT (k _ s02)⟩⟩
  |wet i=>exact er.elim
  |spilt i M N rb=>
   obtain ⟨dx,ea,te,be,ha,hdx,hea,fre⟩:=er;obtain ⟨oa,to,bo,hz,hoa,fro⟩:=rf;have ck:=(R.r3.e "place" (by simp)).i.k;have e1:=R.r3.e "place" (by simp);have e2:=R.r3.e "phial" (by simp);refine ⟨_,rfl,a,c3,some dx,.type "ValueError",.ty "ValueError",true,rfl,ha,ck,rfl,R.r3.v,_,rfl,iteF ?_⟩;refine ⟨_,rfl,a,some dx,.spilt i M N rb,rfl,trivial,ha,λl H1 s1 hl=>?_⟩;refine ⟨z,_,_,rfl,SqT.of (s1 _ _ hz),rfl,zLn1,λl2 n2=>?_⟩;have s2:=Same.upd (o:=.lst [.str "spilt"]) n2;have h2:upd H1 l2 (.lst [.str "spilt"]) l2=some (.lst [.str "spilt"]):=aB;generalize upd H1 l2 (.lst [.str "spilt"])=H2 at s2 h2 ⊢;have s02:=s1.trans s2;refine ⟨l,l2,_,rfl,rfl,SqL.of (s2 _ _ hl),SqL.of h2,λv hv=>by rw [AB.mp hv];exact .inl rfl,_,rfl,iteF ?_⟩;have ha2:=s02 _ _ ha;have hx2:=s02 _ _ hdx;have sz:=SqT.of (K:=K) (s02 _ _ hz);refine ⟨_,rfl,a,c3,cP,f3,dx,_,.int (n:Nat),rfl,ha2,hx2,e1,rfl,_,true,rfl,.int,_,rfl,iteF ⟨_,rfl,a,c3,cP,f3,dx,_,.int (n:Nat),rfl,ha2,hx2,e1,rfl,_,rfl,rfl,_,rfl,ite2 (λhc=>by simp at hc) (λ_=>?_)⟩⟩;refine ⟨z,_,_,rfl,sz,rfl,rfl,_,rfl,iteF ?_⟩;refine ⟨_,rfl,a,c3,cP,f3,dx,_,.int (i:Nat),rfl,ha2,hx2,e2,rfl,_,true,rfl,.int,_,rfl,iteF ⟨_,rfl,a,c3,cP,f3,dx,_,.int (i:Nat),rfl,ha2,hx2,e2,rfl,z,_,_,rfl,sz,rfl,rfl,_,rfl,ite2 (λhc=>by simp at hc) (λ_=>?_)⟩⟩;refine ⟨z,_,_,rfl,sz,rfl,rfl,_,rfl,iteT ⟨_,rfl,a,c3,cP,f3,dx,_,.ref ea,rfl,ha2,hx2,R.r3.e "over" (by simp),rfl,z,_,_,rfl,sz,rfl,ea,oa,[te,be],[to,bo],rfl,rfl,SqT.of (s02 _ _ hea),SqT.of (s02 _ _ hoa),?_⟩⟩;obtain ⟨u1,u2⟩:=fre.uniq fg fro;rw [u1,u2,decide_eq_true rfl];exact k _ s02
  |touch i pa=>
   obtain ⟨dx,ha,hdx⟩:=er;have hz:H z=some (.tup [.str "touch",.int ((i:Nat):Int),.ref pa]):=rf;obtain ⟨x,y,hpa⟩:=fg;have ck:=(R.r4.e "place" (by simp)).i.k;have e1:=R.r4.e "place" (by simp);have e2:=R.r4.e "phial" (by simp);refine ⟨_,rfl,a,c4,some dx,.type "ValueError",.ty "ValueError",true,rfl,ha,ck,rfl,R.r4.v,_,rfl,iteF ?_⟩;refine ⟨_,rfl,a,some dx,.touch i pa,rfl,trivial,ha,λl H1 s1 hl=>?_⟩;refine ⟨z,_,_,rfl,SqT.of (s1 _ _ hz),rfl,zLn1,λl2 n2=>?_⟩;have s2:=Same.upd (o:=.lst [.str "touch"]) n2;have h2:upd H1 l2 (.lst [.str "touch"]) l2=some (.lst [.str "touch"]):=aB;generalize upd H1 l2 (.lst [.str "touch"])=H2 at s2 h2 ⊢;have s02:=s1.trans s2;refine ⟨l,l2,_,rfl,rfl,SqL.of (s2 _ _ hl),SqL.of h2,λv hv=>by rw [AB.mp hv];exact .inl rfl,_,rfl,iteF ?_⟩;have ha2:=s02 _ _ ha;have hx2:=s02 _ _ hdx;have sz:=SqT.of (K:=K) (s02 _ _ hz);refine ⟨_,rfl,a,c4,cP,f4,dx,_,.int (n:Nat),rfl,ha2,hx2,e1,rfl,_,true,rfl,.int,_,rfl,iteF ⟨_,rfl,a,c4,cP,f4,dx,_,.int (n:Nat),rfl,ha2,hx2,e1,rfl,_,rfl,rfl,_,rfl,ite2 (λhc=>by simp at hc) (λ_=>?_)⟩⟩;refine ⟨z,_,_,rfl,sz,rfl,rfl,_,rfl,iteF ?_⟩;refine ⟨_,rfl,a,c4,cP,f4,dx,_,.int (i:Nat),rfl,ha2,hx2,e2,rfl,_,true,rfl,.int,_,rfl,iteF ⟨_,rfl,a,c4,cP,f4,dx,_,.int (i:Nat),rfl,ha2,hx2,e2,rfl,z,_,_,rfl,sz,rfl,rfl,_,rfl,ite2 (λhc=>by simp at hc) (λ_=>?_)⟩⟩;refine ⟨z,_,_,rfl,sz,rfl,rfl,_,rfl,iteF ⟨z,_,_,rfl,sz,rfl,rfl,_,rfl,iteF ⟨_,rfl,a,c4,cP,f4,dx,_,.ref pa,rfl,ha2,hx2,R.r4.e "pair" (by simp),rfl,z,_,_,rfl,sz,rfl,pa,pa,_,_,[.s x,.s y],rfl,rfl,SqT.of (s02 _ _ hpa),SqT.of (s02 _ _ hpa),.cons .s (.cons .s .nil),.cons .s (.cons .s .nil),k _ s02⟩⟩⟩
end
def uV (K:Aa):Sp:=λvs H Q _=>∃ (a:Addr) (ns:List Int),vs=[.ref a]/\SqL K H a (ns.map V.int)/\ns.length<=63/\∀ H',Q (.bl true) H'
def StV.copy {l l':Addr}{M:Int}(h:StV H l M S)(hl:H l=some (.lst vs))(s:Same H H')(hl':H' l'=some (.lst vs)):StV H' l' M S:=by
 obtain ⟨vs',h1,h2,h3⟩:=h;rw [hl] at h1;cases h1;exact ⟨vs,hl',h2,λi v d hv hd=>(h3 i v d hv hd).keep s⟩
def StV.tk {l:Addr}{M:Int}(h:StV H l M S)(t:Tk H H')(hl:∀ o,H l=some o->H' l=some o):StV H' l M S:=by
 obtain ⟨vs,h1,h2,h3⟩:=h;exact ⟨vs,hl _ h1,h2,λi v d hv hd=>by
  obtain ⟨a,m,n,us,ys,e,p1,p2,p3,p4,p5⟩:=h3 i v d hv hd;exact ⟨a,m,n,us,ys,e,t _ _ p1,t _ _ p2,p3.keep t,p4,t _ _ p5⟩⟩
def ErB.ck {K:Aa}{mg:Str->Option Value}{cP c0 c1 c2 c3 c4 c5 f1 f3 f4:Addr}(R:ErB K mg cP c0 c1 c2 c3 c4 c5 f1 f3 f4)(f:Fat):PySem.W.subIn K (.ref (fcl c0 c1 c2 c3 c4 f)) (.ref cP)=some true/\∃ g,ExI K (fcl c0 c1 c2 c3 c4 f) cP g:=by
 cases f with
 |dry i=>exact ⟨R.r1.s,_,(R.r1.e "place" (by simp)).i⟩
 |low i=>exact ⟨R.r1.s,_,(R.r1.e "place" (by simp)).i⟩
 |wet i=>exact ⟨R.r1.s,_,(R.r1.e "place" (by simp)).i⟩
 |spilt i M N rb=>exact ⟨R.r3.s,_,(R.r3.e "place" (by simp)).i⟩
 |touch i pa=>exact ⟨R.r4.s,_,(R.r4.e "place" (by simp)).i⟩
structure AmL (M:Int)(k v:Nat)(t b:Int):Prop where
 am:Amt t b
 sc:∃ c,0<c/\Bt k c/\b∣M*c
 vl:∃ V,0<=V/\Bt v V/\t<=V*b
def AmL.mono {M t b:Int}{k v k' v':Nat}(h:AmL M k v t b)(hk:k<=k')(hv:v<=v'):AmL M k' v' t b:=by
 obtain ⟨c,c0,bc,dv⟩:=h.sc;obtain ⟨V,V0,bV,l⟩:=h.vl;exact ⟨h.am,⟨c,c0,bc.mono hk,dv⟩,V,V0,bV.mono hv,l⟩
def AmL.rwl {M t b:Int}(M0:0<M)(bM:Bt 2400 M)(h:AmL M 70 105 t b):RwL t b/\Bt 70 (sk M b):=by
 obtain ⟨c,c0,bc,dv⟩:=h.sc;obtain ⟨V,V0,bV,l⟩:=h.vl;have b1:=h.am.b1;have le:=Fg (Ba M0 c0) dv;have bb:Bt 2470 b:=(bM.mul bc).le (by omega) le;exact ⟨⟨h.am,((bV.mul bb).le h.am.t0 l).mono (by decide),bb.mono (by decide),V,bV.mono (by decide),l⟩,aHn b1 dv c0 bc⟩
def kE {M t b:Int}(h:Rm t b):AmL M 60 100 t b:=by
 have b1:=h.b1;have t1:=h.t1;refine ⟨⟨by omega,h.b1,h.g⟩,⟨b,by omega,cZ 60 (c:=1000000000000000001) (by omega) (by have:=h.b18;omega),⟨M,BZ ..⟩⟩,t,by omega,h.st,?_⟩;have:=Bg b1 (show 0<=t by omega);omega
def aG2 {M t b N rt rb:Int}(M0:0<M)(h:Fr M t b N)(rm:Rm rt rb)(l:N*rb<=rt*M):AmL M 1 100 t b:=by
 have b1:=h.am.b1;have t1:=rm.t1;have n0:=h.nonneg M0;refine ⟨h.am,⟨1,by decide,cZ 1 (c:=2) (by decide) (by decide),by rw [Int.mul_one];exact h.dvd⟩,rt,by omega,rm.st,?_⟩;have a1:=Bg rm.b1 n0;have a2:N<=rt*M:=by omega
 have a3:=BD a2 (show 0<=b by omega);rw [<- h.e,AJ] at a3;exact Eb a3 M0
def yR {M t b c V:Int}{k v:Nat}(t0:0<=t)(b1:1<=b)(c0:0<c)(bc:Bt k c)(dv:b∣M*c)(V0:0<=V)(bV:Bt v V)(l:t<=V*b):AmL M k v (t/G t b) (b/G t b):=by
 have g:=jJ (a:=t) (b:=b) (by omega);have e1:=DD (gR t b);have e2:=DD (gQ t b);refine ⟨gN t0 b1,⟨c,c0,bc,Int.dvd_trans ⟨G t b,e2.symm⟩ dv⟩,V,V0,bV,?_⟩;refine Eb (?_:t/G t b*G t b<=V*(b/G t b)*G t b) g;rw [e1,Bp,e2];exact l
def oN {M t1 b1 t2 b2:Int}{k v j:Nat}(h:AmL M k v t1 b1)(t0:0<=t2)(l2:t2<=2*b2)(b20:1<=b2)(bj:Bt j b2):AmL M (k+j) (v+2) (t1*t2/G (t1*t2) (b1*b2)) (b1*b2/G (t1*t2) (b1*b2)):=by
 obtain ⟨c,c0,bc,m,hm⟩:=h.sc;obtain ⟨V,V0,bV,l⟩:=h.vl;have B1:=h.am.b1;refine yR (c:=c*b2) (V:=V*2) (Bk h.am.t0 t0) (by have:=Ba (show 0<b1 by omega) (show 0<b2 by omega);omega) (Ba c0 (by omega)) (bc.mul bj) ⟨m,by rw [<- Bp,hm];grind⟩ (by omega) (bV.mul (cZ 2 (c:=3) (by decide) (by decide))) ?_;have a:=ER l l2 t0 (Bk V0 (by omega));have e:V*b1*(2*b2)=V*2*(b1*b2):=by grind
 omega
def jH {M t1 b1 t2 b2 W:Int}{k v j:Nat}(h:AmL M k v t1 b1)(t0:0<=t2)(W0:0<=W)(bW:Bt v W)(l2:t2<=W*b2)(b20:1<=b2)(bj:Bt j b2):AmL M (k+j) (v+1) ((t1*b2+t2*b1)/G (t1*b2+t2*b1) (b1*b2)) (b1*b2/G (t1*b2+t2*b1) (b1*b2)):=by
 obtain ⟨c,c0,bc,m,hm⟩:=h.sc;obtain ⟨V,V0,bV,l⟩:=h.vl;have B1:=h.am.b1;refine yR (c:=c*b2) (V:=V+W) (Int.add_nonneg (Bk h.am.t0 (by omega)) (Bk t0 (by omega))) (by have:=Ba (show 0<b1 by omega) (show 0<b2 by omega);omega) (Ba c0 (by omega)) (bc.mul bj) ⟨m,by rw [<- Bp,hm];grind⟩ (by omega) (bV.add bW) ?_;have a1:=BD l (show 0<=b2 by omega);have a2:=BD l2 (show 0<=b1 by omega);have e:(V+W)*(b1*b2)=V*b1*b2+W*b2*b1:=by grind
 omega
def lM {t b:Int}(t1:1<=t)(b1:1<=b):1<=t/G t b:=(EF (jJ (a:=t) (b:=b) (by omega))).mpr (by have:=Fg (by omega) (gR t b);omega)
def eE {a b:Int}(h:1<=a)(k:1<=b):1<=a*b:=by
 have:=Ba (show 0<a by omega) (show 0<b by omega);omega
def LvV (M lo:Int)(H:Hp)(v:V):Prop:=∃ q t b,v=.ref q/\H q=some (.tup [.int t,.int b])/\lo<=t/\AmL M 70 105 t b
def vP {p:V->Prop}{d:Int}(d0:0<=d)(h:∀ v∈xs,p v)(dl:d<((xs.length:Nat):Int)):∃ v,atI xs d=some v/\p v:=by
 obtain ⟨j,rfl⟩:=AG d0;obtain ⟨v,hv⟩:∃ v,xs[j]?=some v:=⟨_,Ad (by omega)⟩;exact ⟨v,bD hv,h v (Av hv)⟩
structure DrOk (nb:Nat)(ws:List Str)(M:Int)(rw:Rw):Prop where
 g:GoodR nb ws rw
 k:knd rw=true
 s:0<rws M rw/\Bt 70 (rws M rw)
 c:ScR M rw
def xV {M:Int}{nb i:Nat}(M0:0<M)(bM:Bt 2400 M)(h:LvV M 1 H v)(il:i<nb)(xw:x∈ws)(nz:H z=none):∃ rw,RwV (upd H z (.tup [.str "draw",.int ((i:Nat):Int),.str x,v])) z rw/\DrOk nb ws M rw:=by
 obtain ⟨q,t,b,rfl,hq,t1,am⟩:=h;obtain ⟨rl,sb⟩:=am.rwl M0 bM;exact ⟨.draw i x t b,⟨q,aB,Same.upd nz _ _ hq⟩,⟨il,xw,rl,t1⟩,rfl,⟨eI rl.am.b1,sb⟩,sb.mono (by decide)⟩
def xU {M:Int}{nb i:Nat}(M0:0<M)(bM:Bt 2400 M)(h:LvV M 0 H v)(il:i<nb)(xw:x∈ws)(nz:H z=none):∃ rw,RwV (upd H z (.tup [.str "fill",.int ((i:Nat):Int),.str x,v])) z rw/\DrOk nb ws M rw:=by
 obtain ⟨q,t,b,rfl,hq,t1,am⟩:=h;obtain ⟨rl,sb⟩:=am.rwl M0 bM;exact ⟨.fill i x t b,⟨q,aB,Same.upd nz _ _ hq⟩,⟨il,xw,rl⟩,rfl,⟨eI rl.am.b1,sb⟩,sb.mono (by decide)⟩
def wZ {K:Aa}{b r q l:Addr}{M:Int}{β i:Nat}{rb:Int×Int}(o:OnIn H b r q l rs us ps rbs ws M S β)(hd:S[i]?=some d)(hrb:rbs[i]?=some rb) :
  ∃ vs a1 mm nn ms kv0,H l=some (.lst vs)/\vs[i]?=some (.ref a1)/\H a1=some (.tup [.ref mm,.ref nn])/\H mm=some (.tup ms)/\ms.length=kv0.length/\(kv0.map (·.1)).Nodup/\(∀ (i:Nat) u (kv:Key×V),ms[i]?=some u->kv0[i]?=some kv->∃ z,u=.ref z/\H z=some (.tup [kV kv.1,kv.2])) /\
   ∃ ks ys,(∀ p,H p=none->DA (upd H p (.dK kv0)) M ys kv0 ks)/\Over M ys/\Bt 2900 (sumN M ys)/\∀ tl bl,Fr M tl bl (sumN M ys)->AmL M 1 100 tl bl:=by
 have M0:=o.so.m0;have b24:=o.b24;obtain ⟨vs,v,hl,vl,hv,a1,mm,nn,ms,ys,rfl,ha1,hmm,pr,mx,hnn⟩:=o.st.get hd;have okd:=o.so.ok d (Av hd);obtain ⟨kv0,k1,k2,k3,k4⟩:=vI pr;have nd0:(kv0.map (·.1)).Nodup:=by
  rw [k2];exact Cg.mpr (mx.nd.imp λh e=>h (AN.inj e))
 obtain ⟨n0,sm⟩:=o.so.small hd hrb (o.bs.rm.at hrb);have tS:sumN M ys=tot ws d.1:=gE o.bs.ww.nd mx okd.inw;refine ⟨vs,a1,mm,nn,ms,kv0,hl,hv,ha1,hmm,k1,nd0,k3,ys.map (·.1),ys,λp np=>?_,mx.over,by rw [tS];exact sm.mono (by omega),λtl bl frl=>?_⟩
 ·have s1:=Same.upd (o:=.dK kv0) np
  exact ⟨⟨k2,mx.nd⟩,λy=>Iff.rfl,λy hy=>by
   obtain ⟨x',hx,rfl⟩:=AS.mp hy;obtain ⟨q2,mq,hq'⟩:=k4 x' hx;refine ⟨q2,_,_,kH nd0 mq,s1 _ _ hq',?_⟩;rw [mx.nw];exact mx.fr x' hx⟩
 ·rw [tS] at frl
  exact aG2 M0 frl (o.bs.rm.at hrb) (o.so.fit i d rb hd hrb)
def AmL.tw {K:Aa}{H:Hp}{p q:Addr}{M t1 b1 t2 b2:Int}{k v:Nat}(M0:0<M)(bM:Bt 2400 M)(h:AmL M k v t1 b1)(hk:k<=70)(hv:v<=105)(hp:H p=some (.tup [.int t1,.int b1]))(hq:H q=some (.tup [.int t2,.int b2]))(a2:Amt t2 b2)(st:Bt 100 t2)(sb:Bt 100 b2):Tw K H p q t1 b1 t2 b2:=by
 have r:=((h.mono hk hv).rwl M0 bM).1;exact ⟨SqT.of hp,SqT.of hq,h.am,a2,r.bt.mono (by decide),r.bb.mono (by decide),st.mono (by decide),sb.mono (by decide)⟩
def RetD (nb:Nat)(ws:List Str)(M:Int)(H:Hp)(Q:VK):Prop:=∀ z rw H',Same H H'->RwV H' z rw->DrOk nb ws M rw->Q (.ref z) H'
def kX:Sp:=λvs H Q _=>∃ b wl l a r q rs us ps rbs ws M S β H0,vs=[.ref b,.ref wl,.ref l,.ref a]/\Same H0 H/\H0 a=none/\Lf H a/\OnIn H0 b r q l rs us ps rbs ws M S β/\WsV H0 wl ws/\RetD rs.length ws M H0 Q
def oY (K:Aa):Sp:=λvs H Q _=>∃ b wl l sc r q rs us ps rbs ws M S β,∃ (ns:List Int) (k:Nat),vs=[.ref b,.ref wl,.ref l,.ref sc,.int ((k:Nat):Int)]/\OnIn H b r q l rs us ps rbs ws M S β/\WsV H wl ws/\SqL K H sc (ns.map V.int)/\k<ns.length/\k<=900/\RetD rs.length ws M H Q
def am12:Amt 1 2:=⟨by decide,by decide,by decide +kernel⟩
def am32:Amt 3 2:=⟨by decide,by decide,by decide +kernel⟩
def am9:Amt 999 1000:=⟨by decide,by decide,by decide +kernel⟩
def am1k:Amt 1 1000:=⟨by decide,by decide,by decide +kernel⟩
def b1h {x:Int}(h0:0<=x:=by decide)(h:x<1024:=by decide):Bt 100 x:=(cZ 10 h0 h).mono (by decide)
def b10 {x:Int}(h0:0<=x:=by decide)(h:x<1024:=by decide):Bt 10 x:=cZ 10 h0 h
theorem OnIn.at {b r q l:Addr}{M:Int}{β i:Nat}(o:OnIn H b r q l rs us ps rbs ws M S β)(il:i<rs.length):∃ d rb rq,S[i]?=some d/\rbs[i]?=some rb/\rs[i]?=some (.ref rq)/\H rq=some (.tup [.int rb.1,.int rb.2])/\Rm rb.1 rb.2:=by
 obtain ⟨v,hv⟩:∃ v,rs[i]?=some v:=⟨_,Ad il⟩;obtain ⟨rb,hrb,rq,rfl,h1,h2⟩:=o.bs.rm.get hv;obtain ⟨d,hd⟩:∃ d,S[i]?=some d:=⟨_,Ad (by rw [o.so.sl];exact (Ae.mp hrb).1)⟩;exact ⟨d,rb,rq,hd,hrb,hv,h1,h2⟩
section
variable {P:Az}{w:World}{K:Aa}{mg:Str->Option Value}{base:Heap}{cP c0 c1 c2 c3 c4 c5 f1 f3 f4:Addr}
abbrev Nfd:List Str:=["_law_bench_here","_law_wares_here","_law_state","_law_left","_law_phial","_law_ware","_law_lies","_law_room","_law_top","_law_much_here","_law_levels"]
def scFd:FnScope Nfd ["_law_bench_here","_law_wares_here","_law_state","_law_left"] (aI sFreeDr):=fnScOk (by decide +kernel)
def aH0 (F:Fun K "_law_free_drawn" "_law_free_drawn" sFreeDr f fd)(T:Txt mg)(cDi:Cal P w K mg base CX0 5 "_law_digit" ["_law_left","_law_many"] gH)(cL:Cal P w K mg base CX0 5 "_law_lowest" ["_law_top","_law_bottom"] dZ)(cS:Cal P w K mg base CX0 5 "_law_sum" ["_law_held"] (sV K))(cBy:Cal P w K mg base CX0 5 "_law_by" ["_law_one","_law_other"] (spBy K))(cAd:Cal P w K mg base CX0 5 "_law_add" ["_law_one","_law_other"] (sX K)):FnOk P w K mg base CX0 6 f fd ["_law_bench_here","_law_wares_here","_law_state","_law_left"] kX:=by
 refine F.ok scFd (λvs H Q E h=>?_) (λcdv A outer s H vs Q E hr h=>?_)
 ·obtain ⟨_,_,_,_,_,_,_,_,_,_,_,_,_,_,_,rfl,_⟩:=h
  rfl
 ·obtain ⟨b,wl,l,a,r,q,rs,us,ps,rbs,ws,M,S,β,H0,rfl,s0,na,lf0,o,wv,k⟩:=h
  refine ⟨_,(aD (aM (i:=4) scFd.nd rfl (Or.inl rfl) (aJ cDi hr rfl aQ (aA (pv 3) (aA (aT bC rfl T.len BC (aA (pit 0 0) aC)) aC))))
   (aD (aM (i:=5) scFd.nd rfl (Or.inl rfl) (bH bB (pv 1) (aJ cDi hr rfl aQ (aA (pv 3) (aA aE aC))) (λ_ _=>rfl)))
   (aD (aM (i:=6) scFd.nd rfl (Or.inl rfl) (aJ cS hr rfl aQ (aA (aZ (fE rfl) rfl T.dict' lW (aA (bH dW (bH bB (pv 2) (pv 4) (λ_ _=>rfl)) aE (λ_ _=>rfl)) aC)) aC)))
   (aD (aM (i:=7) scFd.nd rfl (Or.inl rfl) (bH dW (pit 0 0) (pv 4) (λ_ _=>rfl)))
   (aD (aM (i:=8) scFd.nd rfl (Or.inl rfl) (aK bK aE (aJ cDi hr rfl aQ (aA (pv 3) (aA aE aC)))))
   (aD (aM (i:=9) scFd.nd rfl (Or.inl rfl) (aJ cL hr rfl aQ (aA (pv 8) (aA (aK bK aE (aJ cDi hr rfl aQ (aA (pv 3) (aA aE aC)))) aC))))
   (aD (bF (aS dB (aJ cDi hr rfl aQ (aA (pv 3) (aA aE aC))) aE (aV _)) (aG (aL (aW (aA aU (aA (pv 4) (aA (pv 5) (aA (bH bB (cJ (aA (pv 9) (aA (pv 7) (aA (aJ cBy hr rfl aQ (aA (pv 7) (aA (aW (aA aE (aA aE aC))) aC))) (aA (aJ cAd hr rfl aQ (aA (pv 7) (aA (pv 9) aC))) aC))))) (aJ cDi hr rfl aQ (aA (pv 3) (aA aE aC))) (λ_ _=>rfl)) aC))))))) aP)
   (aD (aM (i:=10) scFd.nd rfl (Or.inl rfl) (cJ (aA (pv 9) (aA (pv 6) (aA (aJ cBy hr rfl aQ (aA (pv 6) (aA (aW (aA aE (aA aE aC))) aC))) (aA (aJ cAd hr rfl aQ (aA (pv 6) (aA (pv 9) aC))) (aA (pv 7) (aA (aJ cAd hr rfl aQ (aA (pv 7) (aA (pv 9) aC))) aC))))))))
   (aG (aL (aW (aA aU (aA (pv 4) (aA (pv 5) (aA (bH bB (pv 10) (aJ cDi hr rfl aQ (aA (pv 3) (aA aE aC))) (λ_ _=>rfl)) aC))))))))))))))),?_⟩
  refine cut9 ?_
  intros
  have n16:=o.bs.bn.l16;have n1:=o.bs.bn.l1;have M0:=o.so.m0;have bM:Bt 2400 M:=o.so.bm.mono o.b24;refine ⟨_,rfl,b,_,_,rfl,SqT.of (s0 _ _ o.bs.bn.hp),rfl,r,_,rfl,.inr (SqT.of (s0 _ _ o.bs.bn.hr)),a,_,rfl,lf0,by omega,b9 (by omega) (by omega),λp H1 p0 pl sb1 lf1=>?_⟩;have s01:=dD s0 sb1 na;obtain ⟨i,rfl⟩:=AG p0;have il:i<rs.length:=by omega
  obtain ⟨d,rb,rq,hd,hrb,hrs,hrq,rm⟩:=o.at il;refine ⟨_,rfl,_,rfl,a,6,rfl,lf1,by decide,b9,λdw H2 dw0 dwl sb2 lf2=>?_⟩;have s02:=dD s01 sb2 na;obtain ⟨j,rfl⟩:=AG dw0;obtain ⟨x,hx⟩:∃ x,ws[j]?=some x:=⟨_,Ad (by have:=wv.2.1;omega)⟩;have xw:=Av hx;refine ⟨wl,_,(j:Int),.str x,rfl,rfl,SqL.of (s02 _ _ wv.1),bD (by rw [As,hx];rfl),?_⟩;have o2:=o.keep s02;obtain ⟨vs,a1,mm,nn,ms,kv0,hl,hv,ha1,hmm,k1,nd0,k3,ks,ys,da,ov,bs,fam⟩:=wZ (K:=K) o2 hd hrb;refine ⟨_,rfl,_,rfl,l,_,(i:Int),.ref a1,rfl,rfl,SqL.of hl,bD hv,a1,_,0,.ref mm,rfl,rfl,SqT.of ha1,rfl,mm,ms,kv0,rfl,hmm,k1,nd0,k3,λpd npd=>⟨pd,kv0,ks,M,ys,rfl,aB,da pd npd,M0,bM.mono (by decide),ov,bs,λli tl bl H3 s3' hli frl=>?_⟩⟩;have s3:=(Same.upd (o:=.dK kv0) npd).trans s3';have am3:=fam tl bl frl;have s03:=s02.trans s3;have lf3:=lf2.keep s3;refine ⟨b,_,_,rfl,SqT.of (s03 _ _ o.bs.bn.hp),rfl,_,rfl,r,_,(i:Int),.ref rq,rfl,rfl,SqT.of (s03 _ _ o.bs.bn.hr),bD hrs,?_⟩;refine ⟨_,rfl,a,1000,rfl,lf3,by decide,b9,λe H4 e0 el sb4 lf4=>⟨_,_,rfl,rfl,?_⟩⟩;refine ⟨_,rfl,_,rfl,a,100,rfl,lf4,by decide,b9,λg H5 g0 gl sb5 lf5=>⟨_,_,rfl,rfl,1+e,1+g,rfl,by omega,by omega,b9 (by omega) (by omega),λmq H6 s6 nmq hmq=>?_⟩⟩;have tk3:=(sb4.tk lf3).trans ((sb5.tk lf4).trans s6.tk);have s06:=(dD (dD s03 sb4 na) sb5 na).trans s6;have mr:Rm ((1+e)/G (1+e) (1+g)) ((1+g)/G (1+e) (1+g)):=jW (by omega) (by omega) (cZ 100 (c:=1001) (by omega) (by omega)) (cZ 100 (c:=101) (by omega) (by omega));have mb100:(1+g)/G (1+e) (1+g)<=100:=Ep (BI _ (by omega)) (by omega);generalize (1+e)/G (1+e) (1+g)=mt at mr hmq;generalize (1+g)/G (1+e) (1+g)=mb at mr hmq mb100;have mb1:=mr.b1;have mt1:=mr.t1;have mw:mt<=mt*mb:=by have:=Bg mb1 (show 0<=mt by omega);omega
  have bmb:Bt 7 mb:=cZ 7 (c:=101) (by omega) (by omega);have mam:Amt mt mb:=⟨by omega,mb1,mr.g⟩;have lf6:=lf5.keep s6;have aR:=kE (M:=M) rm;have hli6:=tk3 _ _ hli;refine ⟨_,rfl,a,2,rfl,lf6,by decide,b9,λgg H7 gg0 ggl sb7 lf7=>⟨rfl,_,rfl,ite2 (λ_=>?_) (λ_=>?_)⟩⟩
  ·have s07:=dD s06 sb7 na
   have tk7:=sb7.tk lf6;refine ⟨_,rfl,_,rfl,_,rfl,_,rfl,_,rfl,zLn2,λh2 nh2=>?_⟩;have t8:=Same.upd (o:=.tup [.int 1,.int 2]) nh2;refine ⟨rq,h2,rb.1,rb.2,1,2,rfl,aR.tw M0 bM (by decide) (by decide) ((s07.trans t8) _ _ hrq) aB am12 b1h b1h,λq2 H8 s8 hq2=>?_⟩;have s78:=t8.trans s8;have s08:=s07.trans s78;refine ⟨_,rfl,_,rfl,rq,mq,rb.1,rb.2,mt,mb,rfl,aR.tw M0 bM (by decide) (by decide) (s08 _ _ hrq) (s78 _ _ (tk7 _ _ hmq)) mam mr.st mr.sb,λq3 H9 s9 hq3=>⟨zLn4,λzl nzl=>?_⟩⟩;have u9:=Same.upd (o:=.lst [.ref mq,.ref rq,.ref q2,.ref q3]) nzl;have lf9:=(lf7.keep s78).keep s9;have lf10:=lf9.keep u9;have za:zl≠a:=λz=>by
    obtain ⟨_,h,_⟩:=lf9;rw [<- z,nzl] at h;cases h
   refine ⟨_,rfl,a,4,rfl,lf10,by decide,b9,λdd H10 dd0 ddl sb10 lf11=>?_⟩;have tk10:Tk H9 H10:=u9.tk.trans (sb10.tk lf10);have hz10:=sb10 _ _ za (aB (H:=H9) (a:=zl));have s010:Same H0 H10:=dD ((s08.trans s9).trans u9) sb10 na;have all:∀ v∈[V.ref mq,.ref rq,.ref q2,.ref q3],LvV M 1 H10 v:=by
    refine Ay.mpr ⟨?_,Ay.mpr ⟨?_,Ay.mpr ⟨?_,Ay.mpr ⟨?_,λ_ h=>nomatch h⟩⟩⟩⟩
    ·exact ⟨mq,mt,mb,rfl,tk10 _ _ (s9 _ _ (s78 _ _ (tk7 _ _ hmq))),mt1,(kE mr).mono (by decide) (by decide)⟩
    ·exact ⟨rq,rb.1,rb.2,rfl,s010 _ _ hrq,rm.t1,aR.mono (by decide) (by decide)⟩
    ·exact ⟨q2,_,_,rfl,tk10 _ _ (s9 _ _ hq2),lM (eE rm.t1 (by decide)) (eE rm.b1 (by decide)),(oN aR (by decide) (by decide) (by decide) b10).mono (by decide) (by decide)⟩
    ·exact ⟨q3,_,_,rfl,tk10 _ _ hq3,lM (by have:=eE rm.t1 mb1;have:=eE mt1 rm.b1;omega) (eE rm.b1 mb1),(jH aR (by omega) (by omega) mr.st mw mb1 bmb).mono (by decide) (by decide)⟩
   obtain ⟨v,hat,lv⟩:=vP dd0 all ddl;refine ⟨zl,_,dd,v,rfl,rfl,SqL.of hz10,hat,zLn4,λz nz=>?_⟩;obtain ⟨rw',rv,dk⟩:=xV M0 bM lv il xw nz;exact k z rw' _ (s010.trans (Same.upd nz)) rv dk
  ·have s07:=dD s06 sb7 na
   have tk7:=sb7.tk lf6;have hli7:=tk7 _ _ hli6;have hmq7:=tk7 _ _ hmq;refine ⟨_,rfl,_,rfl,_,rfl,zLn2,λh2 nh2=>?_⟩;have t8:=Same.upd (o:=.tup [.int 999,.int 1000]) nh2;refine ⟨li,h2,tl,bl,999,1000,rfl,am3.tw M0 bM (by decide) (by decide) (t8 _ _ hli7) aB am9 b1h b1h,λq2 H8 s8 hq2=>?_⟩;have s78:=t8.trans s8;have s08:=s07.trans s78;refine ⟨_,rfl,_,rfl,li,mq,tl,bl,mt,mb,rfl,am3.tw M0 bM (by decide) (by decide) (s78 _ _ hli7) (s78 _ _ hmq7) mam mr.st mr.sb,λq3 H9 s9 hq3=>?_⟩;have s79:=s78.trans s9;refine ⟨_,rfl,_,rfl,_,rfl,rq,mq,rb.1,rb.2,mt,mb,rfl,aR.tw M0 bM (by decide) (by decide) ((s07.trans s79) _ _ hrq) (s79 _ _ hmq7) mam mr.st mr.sb,λq4 H10 s10 hq4=>⟨zLn6,λzl nzl=>?_⟩⟩;have s710:=s79.trans s10;have u9:=Same.upd (o:=.lst [.ref mq,.ref li,.ref q2,.ref q3,.ref rq,.ref q4]) nzl;have lf9:=lf7.keep s710;have lf10:=lf9.keep u9;have za:zl≠a:=λz=>by
    obtain ⟨_,h,_⟩:=lf9;rw [<- z,nzl] at h;cases h
   refine ⟨_,rfl,_,rfl,_,rfl,_,rfl,a,6,rfl,lf10,by decide,b9,λdd H11 dd0 ddl sb10 lf11=>?_⟩;have tk10:Tk H10 H11:=u9.tk.trans (sb10.tk lf10);have hz10:=sb10 _ _ za (aB (H:=H10) (a:=zl));have s010:Same H0 H11:=dD ((s07.trans s710).trans u9) sb10 na;have all:∀ v∈[V.ref mq,.ref li,.ref q2,.ref q3,.ref rq,.ref q4],LvV M 0 H11 v:=by
    refine Ay.mpr ⟨?_,Ay.mpr ⟨?_,Ay.mpr ⟨?_,Ay.mpr ⟨?_,Ay.mpr ⟨?_,Ay.mpr ⟨?_,λ_ h=>nomatch h⟩⟩⟩⟩⟩⟩
    ·exact ⟨mq,mt,mb,rfl,tk10 _ _ (s710 _ _ hmq7),by omega,(kE mr).mono (by decide) (by decide)⟩
    ·exact ⟨li,tl,bl,rfl,tk10 _ _ (s710 _ _ hli7),am3.am.t0,am3.mono (by decide) (by decide)⟩
    ·have am:=oN am3 (t2:=999) (b2:=1000) (by decide) (by decide) (by decide) b10
     exact ⟨q2,_,_,rfl,tk10 _ _ ((s9.trans s10) _ _ hq2),am.am.t0,am.mono (by decide) (by decide)⟩
    ·have am:=jH am3 (t2:=mt) (b2:=mb) (by omega) (by omega) mr.st mw mb1 bmb
     exact ⟨q3,_,_,rfl,tk10 _ _ (s10 _ _ hq3),am.am.t0,am.mono (by decide) (by decide)⟩
    ·exact ⟨rq,rb.1,rb.2,rfl,s010 _ _ hrq,by have:=rm.t1;omega,aR.mono (by decide) (by decide)⟩
    ·have am:=jH aR (t2:=mt) (b2:=mb) (by omega) (by omega) mr.st mw mb1 bmb
     exact ⟨q4,_,_,rfl,tk10 _ _ hq4,am.am.t0,am.mono (by decide) (by decide)⟩
   obtain ⟨v,hat,lv⟩:=vP dd0 all ddl;refine ⟨zl,_,dd,v,rfl,rfl,SqL.of hz10,hat,zLn4,λz nz=>?_⟩;obtain ⟨rw',rv,dk⟩:=xU M0 bM lv il xw nz;exact k z rw' _ (s010.trans (Same.upd nz)) rv dk
abbrev Ndw:List Str:=["_law_bench_here","_law_wares_here","_law_state","_law_script","_law_k","_law_number","_law_phial","_law_ware","_law_room","_law_lies","_law_levels"]
def scDw:FnScope Ndw ["_law_bench_here","_law_wares_here","_law_state","_law_script","_law_k"] (aI sDrawn):=fnScOk (by decide +kernel)
def aH4 (F:Fun K "_law_drawn" "_law_drawn" sDrawn f fd)(T:Txt mg)(cC:Cal P w K mg base CX0 6 "_law_cell_at" ["_law_script","_law_k"] (iM K))(cM:Cal P w K mg base CX0 6 "_law_mixed" ["_law_cell","_law_k"] fI)(cMu:Cal P w K mg base CX0 6 "_law_much" ["_law_number"] mH)(cS:Cal P w K mg base CX0 6 "_law_sum" ["_law_held"] (sV K))(cBy:Cal P w K mg base CX0 6 "_law_by" ["_law_one","_law_other"] (spBy K))(cAd:Cal P w K mg base CX0 6 "_law_add" ["_law_one","_law_other"] (sX K))(cFd:Cal P w K mg base CX0 6 "_law_free_drawn" ["_law_bench_here","_law_wares_here","_law_state","_law_left"] kX):FnOk P w K mg base CX0 7 f fd ["_law_bench_here","_law_wares_here","_law_state","_law_script","_law_k"] (oY K):=by
 refine F.ok scDw (λvs H Q E h=>?_) (λcdv A outer s H vs Q E hr h=>?_)
 ·obtain ⟨_,_,_,_,_,_,_,_,_,_,_,_,_,_,_,_,rfl,_⟩:=h
  rfl
 ·obtain ⟨b,wl,l,sc,r,q,rs,us,ps,rbs,ws,M,S,β,ns,kk,rfl,o,wv,hS,kl,k9,k⟩:=h
  refine ⟨_,(aD (bF (aS dB (aK bG (aJ cC hr rfl aQ (aA (pv 3) (aA aE aC))) aE) aE (aV _)) (aG (aL (aJ cFd hr rfl aQ (aA (pv 0) (aA (pv 1) (aA (pv 2) (aA (cJ (aA (aT gD rfl T.abs' oF (aA (bH bB (pv 3) (pv 4) (λ_ _=>rfl)) aC)) aC)) aC))))))) aP)
   (aD (aM (i:=5) scDw.nd rfl (Or.inl rfl) (aJ cM hr rfl aQ (aA (bH bB (pv 3) (pv 4) (λ_ _=>rfl)) (aA (pv 4) aC))))
   (aD (aM (i:=6) scDw.nd rfl (Or.inl rfl) (aK bG (aK aX (pv 5) aE) (aT bC rfl T.len BC (aA (pit 0 0) aC))))
   (aD (aM (i:=7) scDw.nd rfl (Or.inl rfl) (bH bB (pv 1) (aK bG (aK aX (pv 5) aE) aE) (λ_ _=>rfl)))
   (aD (bF (aS dB (aK bG (pv 5) aE) aE (aV _)) (aD (aM (i:=8) scDw.nd rfl (Or.inl rfl) (bH bB (cJ (aA (bH dW (pit 0 0) (pv 6) (λ_ _=>rfl)) (aA (aJ cMu hr rfl aQ (aA (aK aX (pv 5) aE) aC)) aC))) (aK bG (aK aX (pv 5) aE) aE) (λ_ _=>rfl)))
   (aG (aL (aW (aA aU (aA (pv 6) (aA (pv 7) (aA (bH bB (cJ (aA (pv 8) (aA (aJ cBy hr rfl aQ (aA (pv 8) (aA (aW (aA aE (aA aE aC))) aC))) (aA (aJ cBy hr rfl aQ (aA (pv 8) (aA (aW (aA aE (aA aE aC))) aC))) aC)))) (aK bG (aK aX (pv 5) aE) aE) (λ_ _=>rfl)) aC)))))))) aP)
   (aD (aM (i:=9) scDw.nd rfl (Or.inl rfl) (aJ cS hr rfl aQ (aA (aZ (fE rfl) rfl T.dict' lW (aA (bH dW (bH bB (pv 2) (pv 6) (λ_ _=>rfl)) aE (λ_ _=>rfl)) aC)) aC)))
   (aD (aM (i:=10) scDw.nd rfl (Or.inl rfl) (cJ (aA (pv 9) (aA (aJ cBy hr rfl aQ (aA (pv 9) (aA (aW (aA aE (aA aE aC))) aC))) (aA (aJ cAd hr rfl aQ (aA (pv 9) (aA (aW (aA aE (aA aE aC))) aC))) (aA (bH dW (pit 0 0) (pv 6) (λ_ _=>rfl)) (aA (aJ cMu hr rfl aQ (aA (aK aX (pv 5) aE) aC)) aC)))))))
   (aG (aL (aW (aA aU (aA (pv 6) (aA (pv 7) (aA (bH bB (aK wC (pv 10) (cJ (aA (aJ cAd hr rfl aQ (aA (bH dW (pit 0 0) (pv 6) (λ_ _=>rfl)) (aA (aW (aA aE (aA aE aC))) aC))) aC))) (aK bG (aK aX (pv 5) aE) aE) (λ_ _=>rfl)) aC)))))))))))))),?_⟩
  refine cut8 ?_
  intros
  have n16:=o.bs.bn.l16;have n1:=o.bs.bn.l1;have M0:=o.so.m0;have bM:Bt 2400 M:=o.so.bm.mono o.b24;obtain ⟨c,hc⟩:∃ c,ns[kk]?=some c:=⟨_,Ad kl⟩;have hcat:atI (ns.map V.int) (kk:Int)=some (.int c):=bD (by rw [As,hc];rfl);refine ⟨_,rfl,sc,ns,0,rfl,hS,by decide,λc0=>⟨_,_,rfl,rfl,(by show (0:Int)<2;decide),rfl,_,rfl,ite2 (λ_=>?_) (λ_=>?_)⟩⟩
  ·refine ⟨_,rfl,_,rfl,_,rfl,_,rfl,_,rfl,sc,_,(kk:Int),.int c,rfl,rfl,hS,hcat,c,rfl,zLn1,λa na=>?_⟩
   have c0':=abs_nonneg c;exact ⟨b,wl,l,a,r,q,rs,us,ps,rbs,ws,M,S,β,H,rfl,Same.upd na,na,⟨_,aB,c0'⟩,o,wv,k⟩
  ·refine ⟨_,rfl,_,rfl,sc,_,(kk:Int),.int c,rfl,rfl,hS,hcat,_,rfl,c,(kk:Int),rfl,by omega,by omega,λn nn0 nnl=>?_⟩
   have nbp:(0:Int)<((rs.length:Nat):Int):=by omega
   obtain ⟨p0,pl⟩:=bJ (n/16) nbp;obtain ⟨i,hi⟩:=AG p0;have il:i<rs.length:=by omega
   obtain ⟨d,rb,rq,hd,hrb,hrs,hrq,rm⟩:=o.at il;have aR:=kE (M:=M) rm;obtain ⟨w0,wl6⟩:=bJ (n/256) (m:=6) (by decide);obtain ⟨j,hj⟩:=AG w0;obtain ⟨x,hx⟩:∃ x,ws[j]?=some x:=⟨_,Ad (by have:=wv.2.1;omega)⟩;have xw:=Av hx;have q0:0<=n/4096:=DT nn0 (by decide);have ql:n/4096<2147483647:=Fv (BI _ nn0) nnl;refine ⟨_,rfl,_,_,rfl,rfl,⟨by decide,b9⟩,b,_,_,rfl,SqT.of o.bs.bn.hp,rfl,r,_,rfl,.inr (SqT.of o.bs.bn.hr),_,_,rfl,rfl,nbp,?_⟩;refine ⟨_,rfl,_,rfl,_,_,rfl,rfl,⟨by decide,b9⟩,_,_,rfl,rfl,(by show (0:Int)<6;decide),wl,_,(n/256%6),.str x,rfl,rfl,SqL.of wv.1,(by rw [hj];exact bD (by rw [As,hx];rfl)),?_⟩;dsimp only [gName];rw [hi];refine ⟨_,rfl,_,_,rfl,rfl,(by show (0:Int)<2;decide),rfl,_,rfl,ite2 (λ_=>?_) (λ_=>?_)⟩
   ·refine ⟨b,_,_,rfl,SqT.of o.bs.bn.hp,rfl,_,rfl,r,_,(i:Int),.ref rq,rfl,rfl,SqT.of o.bs.bn.hr,bD hrs,_,rfl,_,_,rfl,rfl,⟨by decide,b9⟩,n/4096,rfl,q0,ql,λmt mb mq H1 mr mb12 s1 nmq hmq=>⟨zLn2,λzl nzl=>?_⟩⟩
    have t2:=Same.upd (o:=.lst [.ref rq,.ref mq]) nzl;obtain ⟨e0,el⟩:=bJ (n/2) (m:=2) (by decide);have s02:=s1.trans t2;have pk:∀ v∈[V.ref rq,.ref mq],∃ q t b,v=.ref q/\upd H1 zl (.lst [.ref rq,.ref mq]) q=some (.tup [.int t,.int b])/\Rm t b:=by
     refine Ay.mpr ⟨?_,Ay.mpr ⟨?_,λ_ h=>nomatch h⟩⟩
     ·exact ⟨rq,_,_,rfl,s02 _ _ hrq,rm⟩
     ·exact ⟨mq,_,_,rfl,t2 _ _ hmq,mr⟩
    have hzl:upd H1 zl (.lst [.ref rq,.ref mq]) zl=some (.lst [.ref rq,.ref mq]):=aB;generalize upd H1 zl (.lst [.ref rq,.ref mq])=H2 at s02 pk hzl ⊢;obtain ⟨_,hat,yq,yt,yb,rfl,hy,ym⟩:=vP e0 pk el;have aY:=kE (M:=M) ym;refine ⟨_,rfl,_,_,rfl,rfl,⟨by decide,b9⟩,_,_,rfl,rfl,(by show (0:Int)<2;decide),zl,_,n/2%2,.ref yq,rfl,rfl,SqL.of hzl,hat,?_⟩;refine ⟨_,rfl,_,rfl,_,rfl,_,rfl,zLn2,λh2 nh2=>?_⟩;have t3:=Same.upd (o:=.tup [.int 1,.int 2]) nh2;refine ⟨yq,h2,yt,yb,1,2,rfl,aY.tw M0 bM (by decide) (by decide) (t3 _ _ hy) aB am12 b1h b1h,λq2 H4 s4 hq2=>⟨_,rfl,zLn2,λh3 nh3=>?_⟩⟩;have t5:=Same.upd (o:=.tup [.int 3,.int 2]) nh3;have s24:=t3.trans s4;refine ⟨yq,h3,yt,yb,3,2,rfl,aY.tw M0 bM (by decide) (by decide) ((s24.trans t5) _ _ hy) aB am32 b1h b1h,λq3 H6 s6 hq3=>⟨zLn3,λzm nzm=>?_⟩⟩;have t7:=Same.upd (o:=.lst [.ref yq,.ref q2,.ref q3]) nzm;have s46:=t5.trans s6;have s27:=(s24.trans s46).trans t7;have all:∀ v∈[V.ref yq,.ref q2,.ref q3],LvV M 1 (upd H6 zm (.lst [.ref yq,.ref q2,.ref q3])) v:=by
     refine Ay.mpr ⟨?_,Ay.mpr ⟨?_,Ay.mpr ⟨?_,λ_ h=>nomatch h⟩⟩⟩
     ·exact ⟨yq,yt,yb,rfl,s27 _ _ hy,ym.t1,aY.mono (by decide) (by decide)⟩
     ·exact ⟨q2,_,_,rfl,t7 _ _ (s46 _ _ hq2),lM (eE ym.t1 (by decide)) (eE ym.b1 (by decide)),(oN aY (by decide) (by decide) (by decide) b10).mono (by decide) (by decide)⟩
     ·exact ⟨q3,_,_,rfl,t7 _ _ hq3,lM (eE ym.t1 (by decide)) (eE ym.b1 (by decide)),(oN aY (by decide) (by decide) (by decide) b10).mono (by decide) (by decide)⟩
    obtain ⟨f0,fl⟩:=bJ (n/4) (m:=3) (by decide);obtain ⟨v,hat3,lv⟩:=vP f0 all fl;refine ⟨_,rfl,_,_,rfl,rfl,⟨by decide,b9⟩,_,_,rfl,rfl,(by show (0:Int)<3;decide),zm,_,n/4%3,v,rfl,rfl,SqL.of aB,hat3,zLn4,λz nz=>?_⟩;obtain ⟨rw',rv,dk⟩:=xV M0 bM lv il xw nz;exact k z rw' _ ((s02.trans s27).trans (Same.upd nz)) rv dk
   ·obtain ⟨vs,a1,mm,nn,ms,kv0,hl,hv,ha1,hmm,k1,nd0,k3,ks,ys,da,ov,bs,fam⟩:=wZ (K:=K) o hd hrb
    refine ⟨_,rfl,_,rfl,l,_,(i:Int),.ref a1,rfl,rfl,SqL.of hl,bD hv,a1,_,0,.ref mm,rfl,rfl,SqT.of ha1,rfl,mm,ms,kv0,rfl,hmm,k1,nd0,k3,λpd npd=>⟨pd,kv0,ks,M,ys,rfl,aB,da pd npd,M0,bM.mono (by decide),ov,bs,λli tl bl H1 s1' hli frl=>?_⟩⟩;have s1:=(Same.upd (o:=.dK kv0) npd).trans s1';have am3:=fam tl bl frl;refine ⟨_,rfl,_,rfl,zLn2,λh2 nh2=>?_⟩;have t2:=Same.upd (o:=.tup [.int 999,.int 1000]) nh2;refine ⟨li,h2,tl,bl,999,1000,rfl,am3.tw M0 bM (by decide) (by decide) (t2 _ _ hli) aB am9 b1h b1h,λq2 H3 s3 hq2=>⟨_,rfl,zLn2,λh3 nh3=>?_⟩⟩;have t4:=Same.upd (o:=.tup [.int 1,.int 1000]) nh3;have s13:=t2.trans s3;refine ⟨li,h3,tl,bl,1,1000,rfl,am3.tw M0 bM (by decide) (by decide) ((s13.trans t4) _ _ hli) aB am1k b1h b1h,λq3 H5 s5 hq3=>?_⟩;have s35:=t4.trans s5;have s05:=(s1.trans s13).trans s35;refine ⟨b,_,_,rfl,SqT.of (s05 _ _ o.bs.bn.hp),rfl,_,rfl,r,_,(i:Int),.ref rq,rfl,rfl,SqT.of (s05 _ _ o.bs.bn.hr),bD hrs,_,rfl,_,_,rfl,rfl,⟨by decide,b9⟩,n/4096,rfl,q0,ql,λmt mb mq H6 mr mb12 s6 nmq hmq=>⟨zLn5,λzl nzl=>?_⟩⟩;have t7:=Same.upd (o:=.lst [.ref li,.ref q2,.ref q3,.ref rq,.ref mq]) nzl;have hzl:upd H6 zl (.lst [.ref li,.ref q2,.ref q3,.ref rq,.ref mq]) zl=some (.lst [.ref li,.ref q2,.ref q3,.ref rq,.ref mq]):=aB;generalize upd H6 zl (.lst [.ref li,.ref q2,.ref q3,.ref rq,.ref mq])=H7 at t7 hzl ⊢;have s07:=(s05.trans s6).trans t7;refine ⟨_,rfl,_,rfl,_,rfl,b,_,_,rfl,SqT.of (s07 _ _ o.bs.bn.hp),rfl,_,rfl,r,_,(i:Int),.ref rq,rfl,rfl,SqT.of (s07 _ _ o.bs.bn.hr),bD hrs,zLn2,λh4 nh4=>?_⟩;have t8:=Same.upd (o:=.tup [.int 1,.int 1000]) nh4;refine ⟨rq,h4,rb.1,rb.2,1,1000,rfl,aR.tw M0 bM (by decide) (by decide) ((s07.trans t8) _ _ hrq) aB am1k b1h b1h,λq4 H9 s9 hq4=>⟨zLn1,λzo nzo=>?_⟩⟩;have t10:=Same.upd (o:=.lst [.ref q4]) nzo;have hzo:upd H9 zo (.lst [.ref q4]) zo=some (.lst [.ref q4]):=aB;generalize upd H9 zo (.lst [.ref q4])=H10 at t10 hzo ⊢;have s710:=(t8.trans s9).trans t10;refine ⟨zl,zo,_,_,rfl,rfl,s710 _ _ hzl,hzo,zLn6,λzc nzc=>?_⟩;have t11:=Same.upd (o:=.lst [.ref li,.ref q2,.ref q3,.ref rq,.ref mq,.ref q4]) nzc;have s711:=s710.trans t11;have s611:=t7.trans s711;have s511:=s6.trans s611;have all:∀ v∈[V.ref li,.ref q2,.ref q3,.ref rq,.ref mq,.ref q4],LvV M 0 (upd H10 zc (.lst [.ref li,.ref q2,.ref q3,.ref rq,.ref mq,.ref q4])) v:=by
     refine Ay.mpr ⟨?_,Ay.mpr ⟨?_,Ay.mpr ⟨?_,Ay.mpr ⟨?_,Ay.mpr ⟨?_,Ay.mpr ⟨?_,λ_ h=>nomatch h⟩⟩⟩⟩⟩⟩
     ·exact ⟨li,tl,bl,rfl,s511 _ _ ((s13.trans s35) _ _ hli),am3.am.t0,am3.mono (by decide) (by decide)⟩
     ·have am:=oN am3 (t2:=999) (b2:=1000) (by decide) (by decide) (by decide) b10
      exact ⟨q2,_,_,rfl,s511 _ _ (s35 _ _ hq2),am.am.t0,am.mono (by decide) (by decide)⟩
     ·have am:=jH am3 (t2:=1) (b2:=1000) (W:=1) (by decide) (by decide) b1h (by decide) (by decide) b10
      exact ⟨q3,_,_,rfl,s511 _ _ hq3,am.am.t0,am.mono (by decide) (by decide)⟩
     ·exact ⟨rq,rb.1,rb.2,rfl,(s05.trans s511) _ _ hrq,by have:=rm.t1;omega,aR.mono (by decide) (by decide)⟩
     ·exact ⟨mq,mt,mb,rfl,s611 _ _ hmq,by have:=mr.t1;omega,(kE mr).mono (by decide) (by decide)⟩
     ·have am:=jH aR (t2:=1) (b2:=1000) (W:=1) (by decide) (by decide) b1h (by decide) (by decide) b10
      exact ⟨q4,_,_,rfl,(t10.trans t11) _ _ hq4,am.am.t0,am.mono (by decide) (by decide)⟩
    obtain ⟨f0,fl⟩:=bJ (n/2) (m:=6) (by decide);obtain ⟨v,hat3,lv⟩:=vP f0 all fl;refine ⟨_,rfl,_,_,rfl,rfl,⟨by decide,b9⟩,_,_,rfl,rfl,(by show (0:Int)<6;decide),zc,_,n/2%6,v,rfl,rfl,SqL.of aB,hat3,zLn4,λz nz=>?_⟩;obtain ⟨rw',rv,dk⟩:=xU M0 bM lv il xw nz;exact k z rw' _ ((s05.trans s511).trans (Same.upd nz)) rv dk
abbrev Nlaw:List Str:=["_law_script","_law_wares_here","_law_bench_here","_law_state","_law_k","_law_row_here","_law_refusal","_law_due","_law_handed","_law_error","_law_found","e"]
def fR:FnScope Nlaw ["_law_script"] (aI sLaw):=fnScOk (by decide +kernel)
def aF4 {f:Addr}{fd:Bf}(F:Fun K "law" "law" sLaw f fd)(T:Txt mg)(R:ErB K mg cP c0 c1 c2 c3 c4 c5 f1 f3 f4)
  (cA:Cal P w K mg base CX0 9 "_law_after" ["_law_bench_here","_law_state","_law_row_here"] (lA K)) (cDn:Cal P w K mg base (CXg P w) 9 "done" ["bench","phials","row"] (uY K c0 c1 c2 c3 c4)) (cRf:Cal P w K mg base CX0 9 "_law_refused" ["_law_error","_law_due","_law_place"] (iJ c0 c1 c2 c3 c4)) (cPh:Cal P w K mg base CX0 9 "_law_phials" ["_law_script","_law_bench_here","_law_wares_here","_law_start","_law_last"] (kP K)) (cC:Cal P w K mg base CX0 9 "_law_cell_at" ["_law_script","_law_k"] (iM K)) (cWs:Cal P w K mg base CX0 9 "_law_wares" ["_law_cell"] oU) (cB:Cal P w K mg base CX0 9 "_law_bench" ["_law_script","_law_wares_here"] (gI K)) (cDr:Cal P w K mg base CX0 9 "_law_drawn" ["_law_bench_here","_law_wares_here","_law_state","_law_script","_law_k"] (oY K)):FnOk P w K mg base CX0 10 f fd ["_law_script"] (uV K):=by
 refine F.ok fR (λvs H Q E h=>?_) (λcdv A outer s H vs Q E hr h=>?_)
 ·obtain ⟨_,_,rfl,_⟩:=h
  rfl
 ·obtain ⟨sc,ns,rfl,hS,hlen,k⟩:=h
  refine ⟨_,(aD (aM (i:=1) fR.nd rfl (Or.inl rfl) (aJ cWs hr rfl aQ (aA (aJ cC hr rfl aQ (aA (pv 0) (aA aE aC))) aC)))
   (aD (aM (i:=2) fR.nd rfl (Or.inl rfl) (aJ cB hr rfl aQ (aA (pv 0) (aA (pv 1) aC))))
   (aD (aM (i:=3) fR.nd rfl (Or.inl rfl) (aJ cPh hr rfl aQ (aA (pv 0) (aA (pv 2) (aA (pv 1) (aA aE (aA aE aC)))))))
   (aD (dN AV rfl (fX rfl T.range (aA aE (aA (aT (oA rfl) rfl T.min' boot_min (aA (aT bC rfl T.len BC (aA (pv 0) aC)) (aA aE aC))) aC))) (bA (i:=4) fR.nd rfl (Or.inl rfl)) (aD (aM (i:=5) fR.nd rfl (Or.inl rfl) (aJ cDr hr rfl aQ (aA (pv 2) (aA (pv 1) (aA (pv 3) (aA (pv 0) (aA (pv 4) aC)))))))
   (aD (gU (aJ cA hr rfl aQ (aA (pv 2) (aA (pv 3) (aA (pv 5) aC)))) (iT rfl (cY (bA (i:=6) fR.nd rfl (Or.inl rfl)) (cY (bA (i:=7) fR.nd rfl (Or.inl rfl)) fK))))
   (aD (aM (i:=8) fR.nd rfl (Or.inl rfl) (aZ bX rfl T.list' eO (aA (pv 3) aC)))
   (aD (aM (i:=9) fR.nd rfl (Or.inl rfl) dU)
   (aD (aM (i:=10) fR.nd rfl (Or.inl rfl) dU)
   (aD (aC8 (i:=11) (j:=9) ⟨rfl,rfl,rfl⟩ rfl R.mP R.ct fR.nd rfl rfl rfl rfl (by decide) (λpins E' σ Ec hp=>aG (aM (i:=10) fR.nd rfl (Or.inl rfl) (aDh cDn hr rfl hp (aA (pv 2) (aA (pv 8) (aA (pv 5) aC)))))))
   (aD (bF (aS (pG hr.units) (pv 8) (pv 3) (aV _)) (aG (aL eY)) aP)
   (aG (bF (aS pF (pv 6) dU (aV _)) (aG (bF (eD (cV (aJ cRf hr rfl aQ (aA (pv 9) (aA (pv 6) (aA aE aC)))))) (aG (aL eY)) aP)) (aD (bF (PW.pt (hU (aS pF (pv 9) dU (aV _)) (hU (eD (cV (aT eF rfl T.isi BA (aA (pv 10) (aA (eM (v:=.ty "list") rfl T.list' eO rfl) aC))))) (fH (aS (pG hr.units) (pv 10) (pv 7) (aV _)))))) (aG (aL eY)) aP)
   (aD (dG (aFw AY PySem.F.slot_list_clear PySem.F.type_list_clear aAo (pv 10)))
   (aD (bF (aS (pG hr.units) (pv 8) (pv 3) (aV _)) (aG (aL eY)) aP)
   (aG (aM (i:=3) fR.nd rfl (Or.inl rfl) (pv 7))))))))))))))))
   (aG (aL eY)))))),?_⟩
  refine cut5 ?_
  intros
  refine ⟨_,rfl,sc,ns,0,rfl,hS,by decide,λc00=>⟨c00,rfl,λws wl H1 wlen wnd wwr s1 nwl hwl=>?_⟩⟩;refine ⟨_,rfl,_,rfl,sc,ns,wl,ws,rfl,s1.seq hS,SqL.of hwl,⟨wlen,wnd,wwr⟩,λb r q rs us ps H2 s2 bn2=>?_⟩;obtain ⟨rbs,rml⟩:=bn2.rm.list;have bs2:BS H2 b r q rs us ps rbs ws:=⟨bn2,rml,⟨wnd,by omega,wwr⟩⟩;have s02:=s1.trans s2;have wv2:WsV H2 wl ws:=⟨s2 _ _ hwl,wlen,wwr⟩;refine ⟨_,rfl,_,rfl,_,rfl,sc,b,wl,r,q,rs,us,ps,rbs,ws,ns,3,13,rfl,s02.seq hS,hlen,bs2,wv2,by decide,by decide,λl0 M0 S0 β0 H3 s3 nl0 st0 so0 bl0=>?_⟩;have s03:=s02.trans s3;refine ⟨_,rfl,sc,_,rfl,.inl (s03.seq hS),_,_,rfl,13,_,rfl,⟨by decide,by decide,by split<;>omega,by split<;>omega⟩,?_⟩;refine jY (λi σ H'=>∃ (l:Addr) (M:Int) (S:List PF) (β:Nat) (v4 v5 v6 v7 v8 v9 v10 v11:Option V),σ=[some (.ref sc),some (.ref wl),some (.ref b),some (.ref l),v4,v5,v6,v7,v8,v9,v10,v11]/\Same H3 H'/\StV H' l M S/\Sok ws rbs M S β/\β<=141+70*i) ⟨l0,M0,S0,β0,none,none,none,none,none,none,none,none,rfl,Same.refl _,st0,so0,by omega⟩ ?_ ?_
  rotate_left
  ·intro σ H4 hh
   exact k _
  intro i σ H4 D' hN hi hh;obtain ⟨l,M,S,β,v4,v5,v6,v7,v8,v9,v10,v11,rfl,s4,st4,so4,bl⟩:=hh;have ki:13+i<ns.length/\13+i<43:=by
   have h2:i<((if (43:Int)<(((ns.map V.int).length:Nat):Int) then 43 else (((ns.map V.int).length:Nat):Int))-13).toNat:=hi;rw [Ag] at h2;split at h2<;>omega
  have ek:(13:Int)+(i:Int)=((13+i:Nat):Int):=by omega
  rw [ek];refine cut8 ?_
  intros
  have s04:=s03.trans s4;have o4:OnIn H4 b r q l rs us ps rbs ws M S β:=⟨bs2.keep (s3.trans s4),st4,so4,by omega⟩;have wv4:WsV H4 wl ws:=⟨(s3.trans s4) _ _ wv2.1,wv2.2⟩;refine ⟨_,rfl,_,rfl,_,rfl,_,rfl,_,rfl,b,wl,l,sc,r,q,rs,us,ps,rbs,ws,M,S,β,ns,13+i,rfl,o4,wv4,s04.seq hS,ki.1,by omega,λz rw' H5 s5 rv dk=>?_⟩;obtain ⟨gd,kd,sm,scr⟩:=dk;have s35:=s4.trans s5;have o5:OnIn H5 b r q l rs us ps rbs ws M S β:=o4.keep s5;have bs5:=o5.bs;obtain ⟨o,ro⟩:=aBj (H:=H5) (us:=us) (ps:=ps) (rbs:=rbs) (ws:=ws) (M:=M) (S:=S) bs5.bn.pt (by rw [so4.sl,<- bs5.rm.1]) (by have:=bs5.rm.1;omega) gd;have rp1:∀ (i:Nat) rb,rbs[i]?=some rb->0<rb.2:=λi rb h=>by have:=(bs5.rm.at h).b1;omega
  have rp:∀ (i:Nat) rb,rbs[i]?=some rb->0<=rb.2:=λi rb h=>Er (rp1 i rb h);refine ⟨_,rfl,_,rfl,_,rfl,b,r,q,l,z,rs,us,ps,rbs,ws,M,S,β,rw',rfl,o5,rv,gd,scr,ro.l ?_⟩;cases o with
  |inl ft=>
   intro zz t3 H6 s6 hz rf6;have fg:=ro.ftg bs5.bn.pt so4.m0 rp1 gd;refine ⟨zz,_,rfl,SqT.of hz,rfl,_,_,rfl,_,_,rfl,rfl,?_⟩;obtain ⟨vs,hl6,vl6,_⟩:=(o5.st.keep s6).ex;refine ⟨_,rfl,l,_,rfl,.inl (SqL.of hl6),λha nha=>?_⟩;have s7:=Same.upd (o:=.lst vs) nha;have hha:upd H6 ha (.lst vs) ha=some (.lst vs):=aB;generalize upd H6 ha (.lst vs)=H7 at s7 hha ⊢;have s57:=s6.trans s7;have o7:OnIn H7 b r q ha rs us ps rbs ws M S β:=⟨o5.bs.keep s57,(o5.st.keep s6).copy hl6 s7 hha,o5.so,o5.b24⟩;have st7:=o5.st.keep s57;obtain ⟨sub,g,ck⟩:=R.ck ft;refine ⟨rfl,_,rfl,_,rfl,_,rfl,b,r,q,ha,z,rs,us,ps,rbs,ws,M,S,β,rw',rfl,o7,rv.keep s57,gd,scr,ro.p kd (aEm λdx H8 s8 er=>⟨fcl c0 c1 c2 c3 c4 ft,rfl,ck.k,sub,λe he=>⟨_,rfl,?_⟩⟩)⟩;have er9:=er e he;have s9:=Same.upd (o:=excD e (fcl c0 c1 c2 c3 c4 ft) (some dx)) he;generalize upd H8 e (excD e (fcl c0 c1 c2 c3 c4 ft) (some dx))=H9 at s9 er9 ⊢;have s79:=s8.trans s9;obtain ⟨v1,v2,ds,a1,a2,a3,a4⟩:=StV.same (K:=K) so4.m0 (o7.st.keep s79) (st7.keep s79);refine ⟨_,rfl,ha,l,v1,v2,ds,rfl,rfl,SqL.of a1,SqL.of a2,a3,a4,_,rfl,iteF ?_⟩;exact ⟨_,rfl,rfl,_,rfl,iteT ⟨_,rfl,_,rfl,e,t3,0,ft,rfl,er9,rf6.keep (s7.trans s79),fg.keep (s57.trans s79),λHA sA=>⟨_,rfl,iteF (hN _ _ ⟨l,M,S,β,_,_,_,_,_,_,_,_,rfl,((s35.trans s57).trans s79).trans sA,(st7.keep s79).keep sA,so4,by omega⟩)⟩⟩⟩
  |inr S'=>
   intro zz ld H6 s6 nld hz st6;have so6:=RowO.sok so4 rp gd sm ro;refine ⟨zz,_,rfl,SqT.of hz,rfl,_,_,rfl,_,_,rfl,rfl,?_⟩;obtain ⟨vs,hl6,vl6,_⟩:=(o5.st.keep s6).ex;refine ⟨_,rfl,l,_,rfl,.inl (SqL.of hl6),λha nha=>?_⟩;have s7:=Same.upd (o:=.lst vs) nha;have hha:upd H6 ha (.lst vs) ha=some (.lst vs):=aB;generalize upd H6 ha (.lst vs)=H7 at s7 hha ⊢;have s57:=s6.trans s7;have o7:OnIn H7 b r q ha rs us ps rbs ws M S β:=⟨o5.bs.keep s57,(o5.st.keep s6).copy hl6 s7 hha,o5.so,o5.b24⟩;have st7:=o5.st.keep s57;refine ⟨rfl,_,rfl,_,rfl,_,rfl,b,r,q,ha,z,rs,us,ps,rbs,ws,M,S,β,rw',rfl,o7,rv.keep s57,gd,scr,ro.p kd ?_⟩;intro lf H8 s8 nlf st8;have st68:=(st6.keep s7).keep s8;obtain ⟨v1,v2,ds,a1,a2,a3,a4⟩:=StV.same (K:=K) so4.m0 (o7.st.keep s8) (st7.keep s8);obtain ⟨w1,w2,es,b1,b2,b3,b4⟩:=StV.same (K:=K) so6.m0 st8 st68;refine ⟨_,rfl,_,rfl,ha,l,v1,v2,ds,rfl,rfl,SqL.of a1,SqL.of a2,a3,a4,_,rfl,iteF ?_⟩;refine ⟨_,rfl,rfl,_,rfl,iteF ⟨_,rfl,rfl,_,rfl,iteF ⟨_,rfl,_,"list",true,rfl,.lst_list (SqL.of b1),_,rfl,iteF ⟨_,rfl,_,rfl,lf,ld,w1,w2,es,rfl,rfl,SqL.of b1,SqL.of b2,b3,b4,_,rfl,iteF ?_⟩⟩⟩⟩;refine ⟨_,rfl,.inl ⟨rfl,_,SqL.of b1⟩,lf,_,rfl,rfl,b1,?_⟩;have tkc:Tk H8 (upd H8 lf (.lst [])):=Tk.lst b1;have nf5:H5 lf=none:=sm0 s57 nlf;have stay:∀ c o,c≠lf->H8 c=some o->upd H8 lf (.lst []) c=some o:=λc o n h=>by rw [aH n];exact h
   have nel:∀ {c o},H7 c=some o->c≠lf:=λ{c o} h=>bE h nlf;have s5c:Same H5 (upd H8 lf (.lst [])):=λc o h=>stay c o (bE h nf5) ((s57.trans s8) _ _ h);obtain ⟨vl,hvl,_⟩:=st7.ex;obtain ⟨vd,hvd,_⟩:=(st6.keep s7).ex;have sth:=(o7.st.keep s8).tk tkc λo h=>stay _ _ (nel hha) h;have stl:=(st7.keep s8).tk tkc λo h=>stay _ _ (nel hvl) h;have std:=st68.tk tkc λo h=>stay _ _ (nel hvd) h;generalize upd H8 lf (.lst [])=H9 at s5c sth stl std ⊢;obtain ⟨v1,v2,ds,a1,a2,a3,a4⟩:=StV.same (K:=K) so4.m0 sth stl;refine ⟨_,rfl,_,rfl,ha,l,v1,v2,ds,rfl,rfl,SqL.of a1,SqL.of a2,a3,a4,_,rfl,iteF ?_⟩;exact ⟨_,rfl,hN _ _ ⟨ld,_,S',β+70,_,_,_,_,_,_,_,_,rfl,s35.trans s5c,std,so6,by omega⟩⟩
end
def bA1 {p:List Value->Prop}(h:∀ a0,p [a0]):∀ us:List Value,us.length=1->p us:=λus e=>by
 obtain _|⟨a0,us⟩:=us
 ·cases e
 obtain _|⟨b,us⟩:=us
 ·exact h a0
 ·simp at e
def bA2 {p:List Value->Prop}(h:∀ a0 a1,p [a0,a1]):∀ us:List Value,us.length=2->p us:=λus e=>by
 obtain _|⟨a0,us⟩:=us
 ·cases e
 obtain _|⟨a1,us⟩:=us
 ·cases e
 obtain _|⟨b,us⟩:=us
 ·exact h a0 a1
 ·simp at e
def bA3 {p:List Value->Prop}(h:∀ a0 a1 a2,p [a0,a1,a2]):∀ us:List Value,us.length=3->p us:=λus e=>by
 obtain _|⟨a0,us⟩:=us
 ·cases e
 obtain _|⟨a1,us⟩:=us
 ·cases e
 obtain _|⟨a2,us⟩:=us
 ·cases e
 obtain _|⟨b,us⟩:=us
 ·exact h a0 a1 a2
 ·simp at e
def bA4 {p:List Value->Prop}(h:∀ a0 a1 a2 a3,p [a0,a1,a2,a3]):∀ us:List Value,us.length=4->p us:=λus e=>by
 obtain _|⟨a0,us⟩:=us
 ·cases e
 obtain _|⟨a1,us⟩:=us
 ·cases e
 obtain _|⟨a2,us⟩:=us
 ·cases e
 obtain _|⟨a3,us⟩:=us
 ·cases e
 obtain _|⟨b,us⟩:=us
 ·exact h a0 a1 a2 a3
 ·simp at e
def bA5 {p:List Value->Prop}(h:∀ a0 a1 a2 a3 a4,p [a0,a1,a2,a3,a4]):∀ us:List Value,us.length=5->p us:=λus e=>by
 obtain _|⟨a0,us⟩:=us
 ·cases e
 obtain _|⟨a1,us⟩:=us
 ·cases e
 obtain _|⟨a2,us⟩:=us
 ·cases e
 obtain _|⟨a3,us⟩:=us
 ·cases e
 obtain _|⟨a4,us⟩:=us
 ·cases e
 obtain _|⟨b,us⟩:=us
 ·exact h a0 a1 a2 a3 a4
 ·simp at e
def bA6 {p:List Value->Prop}(h:∀ a0 a1 a2 a3 a4 a5,p [a0,a1,a2,a3,a4,a5]):∀ us:List Value,us.length=6->p us:=λus e=>by
 obtain _|⟨a0,us⟩:=us
 ·cases e
 obtain _|⟨a1,us⟩:=us
 ·cases e
 obtain _|⟨a2,us⟩:=us
 ·cases e
 obtain _|⟨a3,us⟩:=us
 ·cases e
 obtain _|⟨a4,us⟩:=us
 ·cases e
 obtain _|⟨a5,us⟩:=us
 ·cases e
 obtain _|⟨b,us⟩:=us
 ·exact h a0 a1 a2 a3 a4 a5
 ·simp at e
structure Dn (K:Aa)(x:Str)(st:Stmt)(ps:List Str):Prop where
 ex:∃ (f:Addr) (fd:Bf),Ar K An x=some (some (.ref f))/\Fun K x x st f fd/\Binds K fd ps []
def Dn.mk' {K:Aa}{x:Str}{st:Stmt}{ps:List Str}{f:Addr}{oc:Value}{od an:Option Addr}{osl:Array (Option Value)}{kV doc pm cdv ct:Value}(a:Ar K An x=some (some (.ref f)))
  (l:K.lookup f=some ⟨oc,od,.func (Cm x x (eC st) (dR st) (aI st) .none kV doc pm an cdv ct),osl⟩) (c:DY K cdv x=true) (k:Cw K (.ref f)=true)
  (hb:∀ (kV doc pm:Value) (an:Option Addr) (cdv ct:Value) (us:List Value),us.length=ps.length->bindArgs (Cm x x (eC st) (dR st) (aI st) .none kV doc pm an cdv ct) ⟨us,[]⟩=pure (ps.zip us)):Dn K x st ps:=
 ⟨f,_,a,jE (st:=st) l c k,(jE (st:=st) l c k).binds hb⟩
def Dn.cal {P:Az}{w:World}{K:Aa}{mg:Str->Option Value}{base h:Heap}{CX:CXT}{k:Nat}{x:Str}{st:Stmt}{ps:List Str}{sp:Sp}(D:Dn K x st ps)(X:K.In h)(G:h.Ns An mg)
  (ok:∀ {f:Addr} {fd:Bf},Fun K x x st f fd->FnOk P w K mg base CX k f fd ps sp):Cal P w K mg base CX k x ps sp:=by
 obtain ⟨f,fd,a,F,b⟩:=D.ex;exact ⟨f,fd,BQ X G a,F.kp,b,ok F⟩
structure NouK (K:Aa)(aN:Addr):Prop where
 m:Ar K An "NOUGHT" = some (some (.ref aN))
 s:∀ H:Hp,SqT K H aN [.int 0,.int 1]
def NouK.mk' {K:Aa}{aN:Addr}{od:Option Addr}{t0 t1:Tok}{n:Nat}{sl:Array (Option Value)}(a:Ar K An "NOUGHT" = some (some (.ref aN)))
  (l:K.lookup aN=some ⟨.type "tuple",od,.seq #[.int 0 t0,.int 1 t1] n,sl⟩):∃ aN:Addr,NouK K aN:=
 ⟨aN,a,λ_=>.inr ⟨_,_,_,l,rfl,rfl,zLn2,.cons ⟨_,rfl⟩ (.cons ⟨_,rfl⟩ .nil)⟩⟩
structure OneK (K:Aa)(aO:Addr):Prop where
 m:Ar K An "ONE" = some (some (.ref aO))
 s:∀ H:Hp,SqT K H aO [.int 1,.int 1]
def OneK.mk' {K:Aa}{aO:Addr}{od:Option Addr}{t0 t1:Tok}{n:Nat}{sl:Array (Option Value)}(a:Ar K An "ONE" = some (some (.ref aO)))
  (l:K.lookup aO=some ⟨.type "tuple",od,.seq #[.int 1 t0,.int 1 t1] n,sl⟩):∃ aO:Addr,OneK K aO:=
 ⟨aO,a,λ_=>.inr ⟨_,_,_,l,rfl,rfl,zLn2,.cons ⟨_,rfl⟩ (.cons ⟨_,rfl⟩ .nil)⟩⟩
def mst_mk {K:Aa}{tk:Tok}{x:Str}{n:Int}(h:Ar K An x=some (some (.int n tk))):∃ tk:Tok,Ar K An x=some (some (.int n tk)):=⟨_,h⟩
def fgs_mk {K:Aa}{tk:Tok}{x y z:Str}(h:Ar K An z=some (some (.str x tk)))(e:x=y):∃ tk:Tok,Ar K An z=some (some (.str y tk)):=⟨_,e▸h⟩
structure MDn (K:Aa)(C:Addr)(m qual:Str)(st:Stmt)(ps:List Str):Prop where
 ex:∃ (f:Addr) (fd:Bf),Meth K C m f/\Fun K m qual st f fd/\Binds K fd ps []
def MDn.mk' {K:Aa}{C:Addr}{m qual:Str}{st:Stmt}{ps:List Str}{f:Addr}{oc:Value}{od an:Option Addr}{osl:Array (Option Value)}{kV doc pm cdv ct:Value}(a:Bd K (.ref C) m=some (some (.ref f)))(i:PySem.W.isFn K (.ref f)=true)
  (l:K.lookup f=some ⟨oc,od,.func (Cm m qual (eC st) (dR st) (aI st) .none kV doc pm an cdv ct),osl⟩) (c:DY K cdv qual=true) (k:Cw K (.ref f)=true)
  (hb:∀ (kV doc pm:Value) (an:Option Addr) (cdv ct:Value) (us:List Value),us.length=ps.length->bindArgs (Cm m qual (eC st) (dR st) (aI st) .none kV doc pm an cdv ct) ⟨us,[]⟩=pure (ps.zip us)):MDn K C m qual st ps:=
 ⟨f,_,⟨a,i,k⟩,jE (st:=st) l c k,(jE (st:=st) l c k).binds hb⟩
def MDn.cal {P:Az}{w:World}{K:Aa}{mg:Str->Option Value}{base:Heap}{CX:CXT}{k:Nat}{C:Addr}{m qual:Str}{st:Stmt}{ps:List Str}{sp:Sp}(D:MDn K C m qual st ps)(ok:∀ {f:Addr} {fd:Bf},Fun K m qual st f fd->FnOk P w K mg base CX k f fd ps sp):MCal P w K mg base CX k C m ps sp:=by
 obtain ⟨f,fd,hm,F,b⟩:=D.ex;exact ⟨f,fd,hm,b,ok F⟩
structure Er1K (K:Aa)(cP c f:Addr)(nm qn:Str)(sE:Stmt)(fs ps:List Str):Prop where
 e:∀ x∈fs,ExF K c cP f x
 s:PySem.W.subIn K (.ref c) (.ref cP)=some true
 v:Ao K (.ref c) (.type "ValueError")=some true
 m:Ar K An nm=some (some (.ref c))
 fn:∃ fd:Bf,Fun K "__init__" qn sE f fd/\Binds K fd ps []
def fn_mkE {K:Aa}{f:Addr}{oc:Value}{od an:Option Addr}{osl:Array (Option Value)}{kV doc pm cdv ct:Value}{qn:Str}{st:Stmt}{ps:List Str}
  (l:K.lookup f=some ⟨oc,od,.func (Cm "__init__" qn (eC st) (dR st) (aI st) .none kV doc pm an cdv ct),osl⟩) (c:DY K cdv qn=true) (k:Cw K (.ref f)=true)
  (hb:∀ (kV doc pm:Value) (an:Option Addr) (cdv ct:Value) (us:List Value),us.length=ps.length->bindArgs (Cm "__init__" qn (eC st) (dR st) (aI st) .none kV doc pm an cdv ct) ⟨us,[]⟩=pure (ps.zip us)) :
  ∃ fd:Bf,Fun K "__init__" qn st f fd/\Binds K fd ps []:=
 ⟨_,jE (st:=st) l c k,(jE (st:=st) l c k).binds hb⟩
def ex1 {K:Aa}{c cP f:Addr}{x:Str}(e:ExF K c cP f x):∀ y∈[x],ExF K c cP f y:=λy h=>by
 cases AB.mp h;exact e
def ex2 {K:Aa}{c cP f:Addr}{x y:Str}(e:ExF K c cP f x)(n:Bd K (.ref c) y=some none):∀ z∈[x,y],ExF K c cP f z:=Ay.mpr ⟨e,ex1 ⟨e.i,e.sa,n⟩⟩
def ex3 {K:Aa}{c cP f:Addr}{x y z:Str}(e:ExF K c cP f x)(n:Bd K (.ref c) y=some none)(o:Bd K (.ref c) z=some none):∀ u∈[x,y,z],ExF K c cP f u:=Ay.mpr ⟨e,ex2 ⟨e.i,e.sa,n⟩ o⟩
def er1_mk {K:Aa}{cP c f:Addr}{od:Option Addr}{cd:ClassData}{sl:Array (Option Value)}{nm qn:Str}{sE:Stmt}{fs ps:List Str}(m:Ar K An nm=some (some (.ref c)))(_lk:K.lookup c=some ⟨.type "type",od,.cls cd,sl⟩)(_ni:Ar K cd.ns "__init__" = some (some (.ref f)))
  (e:∀ x∈fs,ExF K c cP f x) (s:PySem.W.subIn K (.ref c) (.ref cP)=some true) (v:Ao K (.ref c) (.type "ValueError")=some true) (fn:∃ fd:Bf,Fun K "__init__" qn sE f fd/\Binds K fd ps []):Er1K K cP c f nm qn sE fs ps:=⟨e,s,v,m,fn⟩
structure ErBK (K:Aa)(cP c0 c1 c2 c3 c4 c5 f1 f3 f4:Addr):Prop where
 ct:CtK K cP
 bi:BaseI K cP
 mP:Ar K An "PhialError" = some (some (.ref cP))
 r1:Er1K K cP c1 f1 "Low" "Low.__init__" sE1 ["place","phial"] ["self","place","phial"]
 r3:Er1K K cP c3 f3 "Spilt" "Spilt.__init__" sE3 ["place","phial","over"] ["self","place","phial","over"]
 r4:Er1K K cP c4 f4 "Touch" "Touch.__init__" sE4 ["place","phial","pair"] ["self","place","phial","pair"]
 m0:Ar K An "Dry" = some (some (.ref c0))
 m2:Ar K An "Wet" = some (some (.ref c2))
 m5:Ar K An "NoDeed" = some (some (.ref c5))
 i10:Ao K (.ref c1) (.ref c0)=some false
 i11:Ao K (.ref c1) (.ref c1)=some true
 i12:Ao K (.ref c1) (.ref c2)=some false
 i13:Ao K (.ref c1) (.ref c3)=some false
 i14:Ao K (.ref c1) (.ref c4)=some false
 i15:Ao K (.ref c1) (.ref c5)=some false
 i30:Ao K (.ref c3) (.ref c0)=some false
 i31:Ao K (.ref c3) (.ref c1)=some false
 i32:Ao K (.ref c3) (.ref c2)=some false
 i33:Ao K (.ref c3) (.ref c3)=some true
 i34:Ao K (.ref c3) (.ref c4)=some false
 i35:Ao K (.ref c3) (.ref c5)=some false
 i40:Ao K (.ref c4) (.ref c0)=some false
 i41:Ao K (.ref c4) (.ref c1)=some false
 i42:Ao K (.ref c4) (.ref c2)=some false
 i43:Ao K (.ref c4) (.ref c3)=some false
 i44:Ao K (.ref c4) (.ref c4)=some true
 i45:Ao K (.ref c4) (.ref c5)=some false
def ErBK.er {K:Aa}{mg:Str->Option Value}{h:Heap}{cP c0 c1 c2 c3 c4 c5 f1 f3 f4:Addr}(E:ErBK K cP c0 c1 c2 c3 c4 c5 f1 f3 f4)(X:K.In h)(G:h.Ns An mg):ErB K mg cP c0 c1 c2 c3 c4 c5 f1 f3 f4:=
 { ct:=E.ct,bi:=E.bi,mP:=BQ X G E.mP,r1:=⟨E.r1.e,E.r1.s,E.r1.v,BQ X G E.r1.m⟩,r3:=⟨E.r3.e,E.r3.s,E.r3.v,BQ X G E.r3.m⟩,r4:=⟨E.r4.e,E.r4.s,E.r4.v,BQ X G E.r4.m⟩,m0:=BQ X G E.m0,m2:=BQ X G E.m2,m5:=BQ X G E.m5,i10:=E.i10,i11:=E.i11,i12:=E.i12,i13:=E.i13,i14:=E.i14,i15:=E.i15,i30:=E.i30,i31:=E.i31,i32:=E.i32,i33:=E.i33,i34:=E.i34,i35:=E.i35,i40:=E.i40,i41:=E.i41,i42:=E.i42,i43:=E.i43,i44:=E.i44,i45:=E.i45 }
def errb_mk {K:Aa}{cP c0 c1 c2 c3 c4 c5 f1 f3 f4:Addr}(mP:Ar K An "PhialError" = some (some (.ref cP)))(ct:CtK K cP)(bi:BaseI K cP)
  (r1:Er1K K cP c1 f1 "Low" "Low.__init__" sE1 ["place","phial"] ["self","place","phial"]) (r3:Er1K K cP c3 f3 "Spilt" "Spilt.__init__" sE3 ["place","phial","over"] ["self","place","phial","over"]) (r4:Er1K K cP c4 f4 "Touch" "Touch.__init__" sE4 ["place","phial","pair"] ["self","place","phial","pair"])
  (m0:Ar K An "Dry" = some (some (.ref c0))) (m2:Ar K An "Wet" = some (some (.ref c2))) (m5:Ar K An "NoDeed" = some (some (.ref c5))) (i10:Ao K (.ref c1) (.ref c0)=some false) (i11:Ao K (.ref c1) (.ref c1)=some true) (i12:Ao K (.ref c1) (.ref c2)=some false) (i13:Ao K (.ref c1) (.ref c3)=some false) (i14:Ao K (.ref c1) (.ref c4)=some false) (i15:Ao K (.ref c1) (.ref c5)=some false) (i30:Ao K (.ref c3) (.ref c0)=some false) (i31:Ao K (.ref c3) (.ref c1)=some false) (i32:Ao K (.ref c3) (.ref c2)=some false) (i33:Ao K (.ref c3) (.ref c3)=some true) (i34:Ao K (.ref c3) (.ref c4)=some false) (i35:Ao K (.ref c3) (.ref c5)=some false) (i40:Ao K (.ref c4) (.ref c0)=some false) (i41:Ao K (.ref c4) (.ref c1)=some false) (i42:Ao K (.ref c4) (.ref c2)=some false) (i43:Ao K (.ref c4) (.ref c3)=some false) (i44:Ao K (.ref c4) (.ref c4)=some true) (i45:Ao K (.ref c4) (.ref c5)=some false):∃ cP c0 c1 c2 c3 c4 c5 f1 f3 f4:Addr,ErBK K cP c0 c1 c2 c3 c4 c5 f1 f3 f4:=
 ⟨_,_,_,_,_,_,_,_,_,_,{ ct:=ct,bi:=bi,mP:=mP,r1:=r1,r3:=r3,r4:=r4,m0:=m0,m2:=m2,m5:=m5,i10:=i10,i11:=i11,i12:=i12,i13:=i13,i14:=i14,i15:=i15,i30:=i30,i31:=i31,i32:=i32,i33:=i33,i34:=i34,i35:=i35,i40:=i40,i41:=i41,i42:=i42,i43:=i43,i44:=i44,i45:=i45 }⟩
def frmA (f0 f1 f2 f3 f4:Addr)(x:Str):Option Addr:=if x = "draw" then some f0 else if x = "fill" then some f1 else if x = "pour" then some f2 else if x = "empty" then some f3 else if x = "rinse" then some f4 else none
structure FormsW (w:World)(K:Aa)(aF:Addr)(f:Str->Option Addr):Prop where
 d:KDict w K aF f
 m:Ar K An "FORMS" = some (some (.ref aF))
 y:∀ x ks,frm x=some ks->∃ a,f x=some a/\∀ H:Hp,SqT K H a (ks.map V.str)
 n:∀ x,frm x=none->f x=none
theorem beqS (a b:Str):(a==b)=decide (b=a):=by
 by_cases h:b=a
 ·subst h
  rw [decide_eq_true rfl,beq_self_eq_true]
 ·rw [decide_eq_false h,beq_eq_false_iff_ne]
  exact AQ h
def aIh {h1 h2 h3 h4 h5:Int}(x:Str):findBy EZ #[⟨h1,.str a1 t1,.ref v1⟩,⟨h2,.str a2 t2,.ref v2⟩,⟨h3,.str a3 t3,.ref v3⟩,⟨h4,.str a4 t4,.ref v4⟩,⟨h5,.str a5 t5,.ref v5⟩] x=(if x=a1 then some v1 else if x=a2 then some v2 else if x=a3 then some v3 else if x=a4 then some v4 else if x=a5 then some v5 else none:Option Addr).map AD:=by
 unfold findBy;rw [List.find?_toArray];simp only [Ds,EZ,beqS,List.find?_nil]
 by_cases e1:x=a1
 ·rw [decide_eq_true e1,if_pos e1];rfl
 rw [decide_eq_false e1,if_neg e1]
 by_cases e2:x=a2
 ·rw [decide_eq_true e2,if_pos e2];rfl
 rw [decide_eq_false e2,if_neg e2]
 by_cases e3:x=a3
 ·rw [decide_eq_true e3,if_pos e3];rfl
 rw [decide_eq_false e3,if_neg e3]
 by_cases e4:x=a4
 ·rw [decide_eq_true e4,if_pos e4];rfl
 rw [decide_eq_false e4,if_neg e4]
 by_cases e5:x=a5
 ·rw [decide_eq_true e5,if_pos e5];rfl
 rw [decide_eq_false e5,if_neg e5];rfl
def sq1 {K:Aa}{a:Addr}{od:Option Addr}{x:Str}{t0:Tok}{n:Nat}{sl:Array (Option Value)}(l:K.lookup a=some ⟨.type "tuple",od,.seq #[.str x t0] n,sl⟩):∀ H:Hp,SqT K H a [.str x]:=
 λ_=>.inr ⟨_,_,_,l,rfl,rfl,zLn1,.cons ⟨_,rfl⟩ .nil⟩
def sq3 {K:Aa}{a:Addr}{od:Option Addr}{x y z:Str}{t0 t1 t2:Tok}{n:Nat}{sl:Array (Option Value)}(l:K.lookup a=some ⟨.type "tuple",od,.seq #[.str x t0,.str y t1,.str z t2] n,sl⟩):∀ H:Hp,SqT K H a [.str x,.str y,.str z]:=
 λ_=>.inr ⟨_,_,_,l,rfl,rfl,zLn3,.cons ⟨_,rfl⟩ (.cons ⟨_,rfl⟩ (.cons ⟨_,rfl⟩ .nil))⟩
def forms_mk {w:World}{K:Aa}{aF f0 f1 f2 f3 f4:Addr}{t0 t1 t2 t3 t4:Tok}{h0 h1 h2 h3 h4:Int}{n:Nat}(m:Ar K An "FORMS" = some (some (.ref aF)))(lo:(aF==DO)=false)(l:K.lookup aF=some ⟨.type "dict",none,.dict #[⟨h0,.str "draw" t0,.ref f0⟩,⟨h1,.str "fill" t1,.ref f1⟩,⟨h2,.str "pour" t2,.ref f2⟩,⟨h3,.str "empty" t3,.ref f3⟩,⟨h4,.str "rinse" t4,.ref f4⟩] n,#[]⟩)(k:PySem.W.KeysLit w.params ([⟨h0,.str "draw" t0,.ref f0⟩,⟨h1,.str "fill" t1,.ref f1⟩,⟨h2,.str "pour" t2,.ref f2⟩,⟨h3,.str "empty" t3,.ref f3⟩,⟨h4,.str "rinse" t4,.ref f4⟩]:List DictEntry))
  (s0:∀ H:Hp,SqT K H f0 [.str "phial",.str "ware",.str "amount"]) (s1:∀ H:Hp,SqT K H f1 [.str "phial",.str "ware",.str "level"]) (s2:∀ H:Hp,SqT K H f2 [.str "phial",.str "phial",.str "part"]) (s3:∀ H:Hp,SqT K H f3 [.str "phial"]) (s4:∀ H:Hp,SqT K H f4 [.str "phial"]):∃ (aF:Addr) (f:Str->Option Addr),FormsW w K aF f:=by
 refine ⟨aF,frmA f0 f1 f2 f3 f4,⟨lo,_,_,l,k,λx=>?_⟩,m,λx ks h=>?_,λx h=>?_⟩
 ·unfold frmA
  exact aIh x
 ·unfold frm at h
  unfold frmA
  by_cases e0:x = "draw"
  ·rw [if_pos e0] at h ⊢
   cases h;exact ⟨f0,rfl,s0⟩
  rw [if_neg e0] at h ⊢
  by_cases e1:x = "fill"
  ·rw [if_pos e1] at h ⊢
   cases h;exact ⟨f1,rfl,s1⟩
  rw [if_neg e1] at h ⊢
  by_cases e2:x = "pour"
  ·rw [if_pos e2] at h ⊢
   cases h;exact ⟨f2,rfl,s2⟩
  rw [if_neg e2] at h ⊢
  by_cases e3:x = "empty"
  ·rw [if_pos e3] at h ⊢
   cases h;exact ⟨f3,rfl,s3⟩
  rw [if_neg e3] at h ⊢
  by_cases e4:x = "rinse"
  ·rw [if_pos e4] at h ⊢
   cases h;exact ⟨f4,rfl,s4⟩
  rw [if_neg e4] at h ⊢;cases h
 ·unfold frm at h
  unfold frmA
  by_cases e0:x = "draw"
  ·rw [if_pos e0] at h
   cases h
  rw [if_neg e0] at h ⊢
  by_cases e1:x = "fill"
  ·rw [if_pos e1] at h
   cases h
  rw [if_neg e1] at h ⊢
  by_cases e2:x = "pour"
  ·rw [if_pos e2] at h
   cases h
  rw [if_neg e2] at h ⊢
  by_cases e3:x = "empty"
  ·rw [if_pos e3] at h
   cases h
  rw [if_neg e3] at h ⊢
  by_cases e4:x = "rinse"
  ·rw [if_pos e4] at h
   cases h
  rw [if_neg e4] at h ⊢
structure ClsB (K:Aa)(nm:Str)(fs:List Str)(qI qO:Str)(sI sO:Stmt)(ps:List Str)(C:Addr):Prop where
 mgC:Ar K An nm=some (some (.ref C))
 na:∀ f∈fs,NoAttr K C f
 cl:Cls K C
 mks:PySem.W.makesIn K C=true
 kc:Cw K (.ref C)=true
 mI:MDn K C "__init__" qI sI ps
 mO:MDn K C "onto_at" qO sO ["self","bench","phials","place"]
def na1 {K:Aa}{C:Addr}{x:Str}(a:Bd K (.ref C) x=some none):∀ f∈[x],NoAttr K C f:=λf h=>by
 cases AB.mp h;exact a
def na3 {K:Aa}{C:Addr}{x y z:Str}(a:Bd K (.ref C) x=some none)(b:Bd K (.ref C) y=some none)(c:Bd K (.ref C) z=some none):∀ f∈[x,y,z],NoAttr K C f:=
 Ay.mpr ⟨a,Ay.mpr ⟨b,na1 c⟩⟩
def ClsB.init {P:Az}{w:World}{K:Aa}{mg:Str->Option Value}{base h:Heap}{nm:Str}{fs:List Str}{qI qO:Str}{sI sO:Stmt}{ps:List Str}{C:Addr}{sp:Sp}(D:ClsB K nm fs qI qO sI sO ps C)(X:K.In h)(G:h.Ns An mg)
  (ok:∀ {f:Addr} {fd:Bf},Fun K "__init__" qI sI f fd->FnOk P w K mg base CX0 1 f fd ps sp):MkD P w K mg base C nm ps sp:=by
 obtain ⟨f,fd,hm,F,b⟩:=D.mI.ex;exact ⟨f,fd,⟨D.mks,hm.at_,hm.fn,D.kc⟩,(ok F).mono (by decide),b,BQ X G D.mgC⟩
def ClsB.dcl {K:Aa}{nm:Str}{fs:List Str}{qI qO:Str}{sI sO:Stmt}{ps:List Str}{C:Addr}(D:ClsB K nm fs qI qO sI sO ps C):DCl K C fs:=⟨D.cl,D.na⟩
structure AllC (K:Aa)(CD CF:Addr):Prop where
 dDraw:ClsB K "Draw" ["phial","ware","amount"] "Draw.__init__" "Draw.onto_at" qU qS ["self","phial","ware","amount"] CD
 dFill:ClsB K "Fill" ["phial","ware","level"] "Fill.__init__" "Fill.onto_at" qT qR ["self","phial","ware","level"] CF
def allc_mk {K:Aa}{CD CF:Addr}(dDraw:ClsB K "Draw" ["phial","ware","amount"] "Draw.__init__" "Draw.onto_at" qU qS ["self","phial","ware","amount"] CD)(dFill:ClsB K "Fill" ["phial","ware","level"] "Fill.__init__" "Fill.onto_at" qT qR ["self","phial","ware","level"] CF):∃ CD CF:Addr,AllC K CD CF:=⟨_,_,⟨dDraw,dFill⟩⟩
structure AllD (w:World)(K:Aa):Prop where
 dIsWh:Dn K "is_whole_number" sIsWh ["thing"]
 dGcd:Dn K "common_divisor" sGcd ["one","other"]
 dLow:Dn K "lowest_terms" sLow ["top","bottom"]
 dIsAm:Dn K "is_amount" sIsAm ["thing"]
 dPlus:Dn K "plus" sPlus ["one","other"]
 dMinus:Dn K "minus" sMinus ["one","other"]
 dTimes:Dn K "times" sTimes ["one","other"]
 dLess:Dn K "less" sLess ["one","other"]
 dIsWare:Dn K "is_ware" sIsWare ["thing"]
 dMixture:Dn K "mixture" sMixture ["pairs"]
 dWholeM:Dn K "whole" sWholeM ["one"]
 dTogether:Dn K "together" sTogether ["one","other"]
 dPairIn:Dn K "pair_in" sPairIn ["bench","names"]
 dWithPh:Dn K "with_phial" sWithPh ["phials","phial","holds","names"]
 dWithMore:Dn K "with_more" sWithMore ["bench","phials","phial","comes","names","place"]
 dDeedAt:Dn K "deed_at" sDeedAt ["bench","row","place"]
 dIsRow:Dn K "is_row" sIsRow ["bench","row"]
 dOfKind:Dn K "is_of_kind" sOfKind ["bench","kind","thing"]
 dDoneAt:Dn K "done_at" sDoneAt ["bench","phials","row","place"]
 dDone:Dn K "done" sDone ["bench","phials","row"]
 dCell:Dn K "_law_cell_at" sCell ["_law_script","_law_k"]
 dMixed:Dn K "_law_mixed" sMixed ["_law_cell","_law_k"]
 dLowest:Dn K "_law_lowest" sLowest ["_law_top","_law_bottom"]
 dAdd:Dn K "_law_add" sAdd ["_law_one","_law_other"]
 dTake:Dn K "_law_take" sTake ["_law_one","_law_other"]
 dBy:Dn K "_law_by" sBy ["_law_one","_law_other"]
 dUnder:Dn K "_law_under" sUnder ["_law_one","_law_other"]
 dDigit:Dn K "_law_digit" sDigit ["_law_left","_law_many"]
 dNames:Dn K "_law_names" sNames ["_law_left"]
 dWares:Dn K "_law_wares" sWares ["_law_cell"]
 dSum:Dn K "_law_sum" sSum ["_law_held"]
 dInto:Dn K "_law_into" sInto ["_law_bench_here","_law_state","_law_phial","_law_more","_law_names_here"]
 dPoured:Dn K "_law_poured" sPoured ["_law_bench_here","_law_state","_law_row_here"]
 dAfter:Dn K "_law_after" sAfter ["_law_bench_here","_law_state","_law_row_here"]
 dMuch:Dn K "_law_much" sMuch ["_law_number"]
 dApart:Dn K "_law_apart" sApart ["_law_wares_here","_law_cell","_law_often"]
 dFree:Dn K "_law_free_bench" sFree ["_law_script","_law_wares_here"]
 dBench:Dn K "_law_bench" sBench ["_law_script","_law_wares_here"]
 dFreeRow:Dn K "_law_free_row" sFreeRow ["_law_bench_here","_law_wares_here","_law_left"]
 dRow:Dn K "_law_row" sRow ["_law_bench_here","_law_wares_here","_law_script","_law_k"]
 dPhials:Dn K "_law_phials" sPhials ["_law_script","_law_bench_here","_law_wares_here","_law_start","_law_last"]
 dWhole:Dn K "_law_whole" sWhole ["_law_found"]
 dKind:Dn K "_law_kind" sKind ["_law_error"]
 dRefused:Dn K "_law_refused" sRefused ["_law_error","_law_due","_law_place"]
 dFreeDr:Dn K "_law_free_drawn" sFreeDr ["_law_bench_here","_law_wares_here","_law_state","_law_left"]
 dDrawn:Dn K "_law_drawn" sDrawn ["_law_bench_here","_law_wares_here","_law_state","_law_script","_law_k"]
 z0:Ar K An "isinstance" = some none
 z1:Ar K An "int" = some none
 z2:Ar K An "bool" = some none
 z3:Ar K An "tuple" = some none
 z4:Ar K An "str" = some none
 z5:Ar K An "len" = some none
 z6:Ar K An "range" = some none
 z7:Ar K An "min" = some none
 z8:Ar K An "max" = some none
 z9:Ar K An "abs" = some none
 z10:Ar K An "list" = some none
 z11:Ar K An "sorted" = some none
 z12:Ar K An "zip" = some none
 z13:Ar K An "set" = some none
 z14:Ar K An "all" = some none
 z15:Ar K An "enumerate" = some none
 z16:Ar K An "ValueError" = some none
 z17:Ar K An "dict" = some none
 nou:∃ aN:Addr,NouK K aN
 one:∃ aO:Addr,OneK K aO
 err:∃ cP c0 c1 c2 c3 c4 c5 f1 f3 f4:Addr,ErBK K cP c0 c1 c2 c3 c4 c5 f1 f3 f4
 forms:∃ (aF:Addr) (f:Str->Option Addr),FormsW w K aF f
 cls:∃ CD CF:Addr,AllC K CD CF
 mM:∃ t:Tok,Ar K An "MOST_LETTERS" = some (some (.int 8 t))
 mL:∃ t:Tok,Ar K An "LETTERS" = some (some (.str LET t))
def AllD.txt {w:World}{K:Aa}{mg:Str->Option Value}{h:Heap}(A:AllD w K)(X:K.In h)(G:h.Ns An mg):Txt mg:=⟨AO X G A.z0,AO X G A.z1,AO X G A.z2,AO X G A.z3,AO X G A.z4,AO X G A.z5,AO X G A.z6,AO X G A.z7,AO X G A.z8,AO X G A.z9,AO X G A.z10,AO X G A.z11,AO X G A.z12,AO X G A.z13,AO X G A.z14,AO X G A.z15,AO X G A.z16,AO X G A.z17⟩
def aGk {P:Az}{w:World}{K:Aa}{mg:Str->Option Value}{base h:Heap}{f:Addr}{fd:Bf}(X:K.In h)(G:h.Ns An mg)(A:AllD w K)(F:Fun K "law" "law" sLaw f fd):FnOk P w K mg base CX0 10 f fd ["_law_script"] (uV K):=by
 have T:Txt mg:=A.txt X G;obtain ⟨aN,NK⟩:=A.nou;have mN:=BQ X G NK.m;obtain ⟨aO,OK⟩:=A.one;have mO:=BQ X G OK.m;obtain ⟨cP,c0,c1,c2,c3,c4,c5,f1,f3,f4,EK⟩:=A.err;have R:=EK.er X G;obtain ⟨g1,F1,b1⟩:=EK.r1.fn;obtain ⟨g3,F3,b3⟩:=EK.r3.fn;obtain ⟨g4,F4,b4⟩:=EK.r4.fn;obtain ⟨aF,fF,FW⟩:=A.forms;have FK:FormsK w K mg aF fF:=⟨FW.d,BQ X G FW.m,FW.y,FW.n⟩;obtain ⟨CD,CF,CK⟩:=A.cls;obtain ⟨t1,h1⟩:=A.mM;have mM:=BQ X G h1;obtain ⟨t2,h2⟩:=A.mL;have mL:=BQ X G h2;have e1:=aH3 (P:=P) (w:=w) (base:=base) F1 R;have e3:=aH2 (P:=P) (w:=w) (base:=base) F3 R;have e4:=aH1 (P:=P) (w:=w) (base:=base) F4 R;have cG:Cal P w K mg base CX0 1 "common_divisor" ["one","other"] zB:=A.dGcd.cal X G aF5;have cWh:Cal P w K mg base CX0 1 "is_whole_number" ["thing"] (spWh K):=A.dIsWh.cal X G λF=>aDw F T;have cWr:Cal P w K mg base CX0 1 "is_ware" ["thing"] (kW K):=A.dIsWare.cal X G λF=>wM F T mM mL;have cAm:Cal P w K mg base CX0 2 "is_amount" ["thing"] (uX K):=A.dIsAm.cal X G λF=>aDx F T cWh cG;have cL1:Cal P w K mg base CX0 1 "less" ["one","other"] (oW K aO):=A.dLess.cal X G λF=>aAd F OK.s;have cLs:Cal P w K mg base CX0 1 "less" ["one","other"] (fO K):=A.dLess.cal X G aDu;have cKd:Cal P w K mg base CX0 3 "is_of_kind" ["bench","kind","thing"] (kR K):=A.dOfKind.cal X G λF=>wK F T mN NK.s mO (cWh.mono (by decide)) (cWr.mono (by decide)) cAm (cL1.mono (by decide));have cIr:Cal P w K mg base CX0 4 "is_row" ["bench","row"] (oX K):=A.dIsRow.cal X G λF=>aAe F T FK cKd;have cLt:Cal P w K mg base CX0 2 "lowest_terms" ["top","bottom"] uU:=A.dLow.cal X G λF=>aF3 F cG;have cPl:Cal P w K mg base CX0 3 "plus" ["one","other"] (qL K):=A.dPlus.cal X G λF=>aDr F mN NK.s cLt;have cMi:Cal P w K mg base CX0 3 "minus" ["one","other"] (kU K):=A.dMinus.cal X G λF=>aAc F (cLs.mono (by decide)) cLt;have cTi:Cal P w K mg base CX0 3 "times" ["one","other"] (uR K):=A.dTimes.cal X G λF=>zX F cLt;have cMx:Cal P w K mg base CX0 4 "mixture" ["pairs"] (iK K):=A.dMixture.cal X G λF=>tI F T mN NK.s cPl;have cWm:Cal P w K mg base CX0 4 "whole" ["one"] (hW K):=A.dWholeM.cal X G λF=>wG F mN NK.s cPl;have cTg:Cal P w K mg base CX0 5 "together" ["one","other"] (aCp K):=A.dTogether.cal X G λF=>pH F T cMx;have cPi:Cal P w K mg base CX0 1 "pair_in" ["bench","names"] (kQ K):=A.dPairIn.cal X G wJ;have kCD:MkD P w K mg base CD "Draw" ["self","phial","ware","amount"] (sW CD "phial" "ware" "amount"):=CK.dDraw.init X G λF=>aAg F CK.dDraw.dcl;have kCF:MkD P w K mg base CF "Fill" ["self","phial","ware","level"] (sW CF "phial" "ware" "level"):=CK.dFill.init X G λF=>aAf F CK.dFill.dcl;have cDa:Cal P w K mg base (CXg P w) 6 "deed_at" ["bench","row","place"] (kZ K CD CF):=A.dDeedAt.cal X G λF=>wO F (cIr.mono (by decide)) kCD kCF;have cWp:Cal P w K mg base CX0 1 "with_phial" ["phials","phial","holds","names"] uQ:=A.dWithPh.cal X G λF=>aDp F T;have cMo:Cal P w K mg base (CXg P w) 6 "with_more" ["bench","phials","phial","comes","names","place"] (qM K c3 c4):=A.dWithMore.cal X G λF=>aDt F T R e3 b3 e4 b4 cTg (cWm.mono (by decide)) (cLs.mono (by decide)) (cMi.mono (by decide)) (cPi.mono (by decide)) (cWp.mono (by decide));have hT:∀ c∈aBt CD CF c0 c1 c2 c3 c4,Cls K c.1/\MCal P w K mg base (CXg P w) 7 c.1 "onto_at" Non c.2:=
  Ay.mpr ⟨⟨CK.dDraw.cl,CK.dDraw.mO.cal λF=>zZ F CK.dDraw.dcl cMo⟩,Ay.mpr ⟨⟨CK.dFill.cl,CK.dFill.mO.cal λF=>zY F CK.dFill.dcl R e1 b1 (cWm.mono (by decide)) (cLs.mono (by decide)) (cMi.mono (by decide)) cMo⟩,λ_ h=>nomatch h⟩⟩
 have cDt:Cal P w K mg base (CXg P w) 8 "done_at" ["bench","phials","row","place"] (kY K c0 c1 c2 c3 c4):=A.dDoneAt.cal X G λF=>wN F (cDa.mono (by decide)) hT;have cDn:Cal P w K mg base (CXg P w) 9 "done" ["bench","phials","row"] (uY K c0 c1 c2 c3 c4):=A.dDone.cal X G λF=>aD0 F cDt;have cC:Cal P w K mg base CX0 1 "_law_cell_at" ["_law_script","_law_k"] (iM K):=A.dCell.cal X G λF=>aD1 F T;have cX:Cal P w K mg base CX0 1 "_law_mixed" ["_law_cell","_law_k"] fI:=A.dMixed.cal X G aAb;have cLo:Cal P w K mg base CX0 1 "_law_lowest" ["_law_top","_law_bottom"] dZ:=A.dLowest.cal X G wL;have cDi:Cal P w K mg base CX0 1 "_law_digit" ["_law_left","_law_many"] gH:=A.dDigit.cal X G aAh;have cNa:Cal P w K mg base CX0 2 "_law_names" ["_law_left"] oV:=A.dNames.cal X G λF=>aAa F T cDi;have cWa:Cal P w K mg base CX0 3 "_law_wares" ["_law_cell"] oU:=A.dWares.cal X G λF=>zV F T cNa (cX.mono (by decide));have cAd:Cal P w K mg base CX0 2 "_law_add" ["_law_one","_law_other"] (sX K):=A.dAdd.cal X G λF=>aF6 F cLo;have cTa:Cal P w K mg base CX0 2 "_law_take" ["_law_one","_law_other"] (mG K):=A.dTake.cal X G λF=>aDq F cLo;have cBy:Cal P w K mg base CX0 2 "_law_by" ["_law_one","_law_other"] (spBy K):=A.dBy.cal X G λF=>aH5 F cLo;have cUn:Cal P w K mg base CX0 1 "_law_under" ["_law_one","_law_other"] (fO K):=A.dUnder.cal X G zW;have cSu:Cal P w K mg base CX0 3 "_law_sum" ["_law_held"] (sV K):=A.dSum.cal X G λF=>aF1 F cAd;have cIn:Cal P w K mg base CX0 4 "_law_into" ["_law_bench_here","_law_state","_law_phial","_law_more","_law_names_here"] (qN K):=A.dInto.cal X G λF=>aDy F T (cAd.mono (by decide)) cSu (cUn.mono (by decide)) (cTa.mono (by decide));have cPo:Cal P w K mg base CX0 5 "_law_poured" ["_law_bench_here","_law_state","_law_row_here"] (kN K):=A.dPoured.cal X G λF=>wH F T (cBy.mono (by decide)) (cTa.mono (by decide)) cIn;have cAf:Cal P w K mg base CX0 6 "_law_after" ["_law_bench_here","_law_state","_law_row_here"] (lA K):=A.dAfter.cal X G λF=>aAk F T (cIn.mono (by decide)) cPo (cSu.mono (by decide)) (cUn.mono (by decide)) (cTa.mono (by decide));have cMu:Cal P w K mg base CX0 2 "_law_much" ["_law_number"] mH:=A.dMuch.cal X G λF=>aDs F cLo;have cAp:Cal P w K mg base CX0 2 "_law_apart" ["_law_wares_here","_law_cell","_law_often"] (oZ K):=A.dApart.cal X G λF=>aAj F T cX;have cFb:Cal P w K mg base CX0 2 "_law_free_bench" ["_law_script","_law_wares_here"] (gI K):=A.dFree.cal X G λF=>aDz F T cC cDi cLo;have cBe:Cal P w K mg base CX0 3 "_law_bench" ["_law_script","_law_wares_here"] (gI K):=A.dBench.cal X G λF=>aAi F T (cC.mono (by decide)) cFb (cX.mono (by decide)) cMu cAp;have cFw:Cal P w K mg base CX0 2 "_law_free_row" ["_law_bench_here","_law_wares_here","_law_left"] iL:=A.dFreeRow.cal X G λF=>tJ F T cDi cLo;have cRw:Cal P w K mg base CX0 3 "_law_row" ["_law_bench_here","_law_wares_here","_law_script","_law_k"] (aCq K):=A.dRow.cal X G λF=>aF2 F T (cC.mono (by decide)) (cX.mono (by decide)) cFw cMu (cLo.mono (by decide));have cPh:Cal P w K mg base CX0 7 "_law_phials" ["_law_script","_law_bench_here","_law_wares_here","_law_start","_law_last"] (kP K):=A.dPhials.cal X G λF=>wI F T cAf (cRw.mono (by decide));have cW:Cal P w K mg base CX0 1 "_law_whole" ["_law_found"] (spWh K):=A.dWhole.cal X G λF=>zU F T;have cKn:Cal P w K mg base CX0 1 "_law_kind" ["_law_error"] (uW c0 c1 c2 c3 c4):=A.dKind.cal X G λF=>aDv F T R;have cRf:Cal P w K mg base CX0 2 "_law_refused" ["_law_error","_law_due","_law_place"] (iJ c0 c1 c2 c3 c4):=A.dRefused.cal X G λF=>tH F T R cKn cW;have cFd:Cal P w K mg base CX0 6 "_law_free_drawn" ["_law_bench_here","_law_wares_here","_law_state","_law_left"] kX:=A.dFreeDr.cal X G λF=>aH0 F T (cDi.mono (by decide)) (cLo.mono (by decide)) (cSu.mono (by decide)) (cBy.mono (by decide)) (cAd.mono (by decide));have cDw:Cal P w K mg base CX0 7 "_law_drawn" ["_law_bench_here","_law_wares_here","_law_state","_law_script","_law_k"] (oY K):=A.dDrawn.cal X G λF=>aH4 F T (cC.mono (by decide)) (cX.mono (by decide)) (cMu.mono (by decide)) (cSu.mono (by decide)) (cBy.mono (by decide)) (cAd.mono (by decide)) cFd;exact aF4 F T R (cAf.mono (by decide)) cDn (cRf.mono (by decide)) (cPh.mono (by decide)) (cC.mono (by decide)) (cWa.mono (by decide)) (cBe.mono (by decide)) (cDw.mono (by decide))
def all_mk {l:PySem.W.OpenLaw}{w:World}{K:Aa}{h:Heap}{mg:Str->Option Value}{fa f4:Addr}(X:K.In h)(G:h.Ns An mg)(hfa:mg "law" = some (.ref fa))(A:AllD w K)
  {od4 an4:Option Addr} {sl4:Array (Option Value)} {oc4 kV4 dc4 pm4 cd4 ct4:Value}
  (a4:Ar K An "law" = some (some (.ref f4))) (l4:K.lookup f4=some ⟨oc4,od4,.func (Cm "law" "law" (eC sLaw) (dR sLaw) (aI sLaw) .none kV4 dc4 pm4 an4 cd4 ct4),sl4⟩) (c4:DY K cd4 "law" = true) (k4:Cw K (.ref f4)=true) :
  ∃ fd:Bf,(∀ (s:Shared) (v:Value),BindsTo s fd ⟨[v],[]⟩ [("_law_script",v)])/\∀ base:Heap,K.In base->base.Ns An mg->FnOk l.prog w K mg base CX0 10 fa fd ["_law_script"] (uV K):=by
 have e:=hfa.symm.trans (BQ X G a4);cases e;exact ⟨Cm "law" "law" (eC sLaw) (dR sLaw) (aI sLaw) .none kV4 dc4 pm4 an4 cd4 ct4,λs v=>.of_eq rfl,λbase _ _=>aGk X G A (jE (st:=sLaw) l4 c4 k4)⟩
def walk {l:PySem.W.OpenLaw}{q:Az}{loose:List Str}{XP:(Str->Option Value)->Heap->Prop}{YP:World->Heap->Prop}{d:DefRec}{K:Params->Aa}(hn:l.most=some 63)(hdf:d.params.defaults=[])
  (hY:∀ (w:World) (h:Heap),YP w h->(K w.params).In h)
  (F:∀ (w:World) (mg:Str->Option Value) (fa:Addr) (h:Heap),(K w.params).In h->h.Ns An mg->mg d.name=some (.ref fa) ->
   ∃ fd:Bf,(∀ (s:Shared) (u:Value),BindsTo s fd ⟨[u],[]⟩ [("_law_script",u)])/\∀ base:Heap,(K w.params).In base->base.Ns An mg->FnOk l.prog w (K w.params) mg base CX0 10 fa fd ["_law_script"] (uV (K w.params))) :
  PySem.W.WalkO q loose XP YP l.row.toRowW d [] (λf vs=>PySem.call f vs):=
 L2.walk_of (n:=63) (k:=10) (x:="_law_script") (CX:=λ_=>CX0) (sp:=λw=>uV (K w.params)) hn (by decide) hdf ⟨rfl,by decide,by decide,rfl⟩ hY F (λ_ _ a ns hl _ hS=>⟨a,ns,rfl,hS,hl,λ_=>rfl⟩) λ_ _ _ _ _ z=>z
end K33
namespace PySem.W.Fast
theorem tw1118774663317463026:0=0:=rfl
theorem tw1283424197223775079:0=0:=rfl
theorem tw457812441442099960:0=0:=rfl
theorem tw15163273977667112890:0=0:=rfl
theorem tw12293350956129918599:0=0:=rfl
theorem tw6059871905861708660:0=0:=rfl
theorem tw6563778694777450205:0=0:=rfl
theorem tw1525330362975372008:0=0:=rfl
theorem tw10123765145339758185:0=0:=rfl
theorem tw7726069532866281276:0=0:=rfl
theorem tw3591726350313222742:0=0:=rfl
theorem tw6040391231288400526:0=0:=rfl
theorem tw14940620389866832005:0=0:=rfl
theorem tw7187269183125409366:0=0:=rfl
theorem tw2498258894525749935:0=0:=rfl
theorem tw8522160765561640288:0=0:=rfl
theorem tw6797428100131087885:0=0:=rfl
theorem tw3889932644629676703:0=0:=rfl
theorem tw17901781184036216254:0=0:=rfl
theorem tw14815248775402249172:0=0:=rfl
theorem tw11690963099133789920:0=0:=rfl
theorem tw5245712198906667553:0=0:=rfl
theorem tw7802038456888697191:0=0:=rfl
theorem tw10554227737344408543:0=0:=rfl
theorem tw446151828945918047:0=0:=rfl
theorem tw509684588307975642:0=0:=rfl
theorem tw2183897102870008606:0=0:=rfl
theorem tw5638763312580277866:0=0:=rfl
theorem tw2066119759981277363:0=0:=rfl
theorem tw11274662390432698603:0=0:=rfl
theorem tw15615094783619700837:0=0:=rfl
theorem tw11193758253245870937:0=0:=rfl
theorem tw8324317860618024093:0=0:=rfl
theorem tw11702894031219514078:0=0:=rfl
theorem tw12868957962930362253:0=0:=rfl
theorem tw17145436979958996550:0=0:=rfl
theorem tw4497585036384915579:0=0:=rfl
theorem tw10156360191435806905:0=0:=rfl
theorem tw3410045328112749071:0=0:=rfl
theorem tw6241171093890739875:0=0:=rfl
theorem tw17305731652438394142:0=0:=rfl
theorem tw3165928659419050492:0=0:=rfl
theorem tw15946806766690153869:0=0:=rfl
theorem tw1026630681912680228:0=0:=rfl
theorem tw2727747875338502250:0=0:=rfl
theorem tw8098170353835071604:0=0:=rfl
theorem tw3156578317903290384:0=0:=rfl
theorem tw12680138150024311991:0=0:=rfl
theorem tw1359565345481291060:0=0:=rfl
theorem tw13219580131304799754:0=0:=rfl
theorem tw4109180773494071058:0=0:=rfl
theorem tw8150009485213893058:0=0:=rfl
theorem tw11890081517651128772:0=0:=rfl
theorem tw12748508995361237217:0=0:=rfl
theorem tw10831696375587491345:0=0:=rfl
theorem tw13078957207768488017:0=0:=rfl
theorem tw14919321698921768392:0=0:=rfl
theorem tw3390920882385989981:0=0:=rfl
theorem tw14946838138340825044:0=0:=rfl
theorem tw18206902303323679522:0=0:=rfl
theorem tw15611831111884968072:0=0:=rfl
theorem tw7996500996827330527:0=0:=rfl
theorem tw9647690904787833222:0=0:=rfl
theorem tw5952966216935760209:0=0:=rfl
theorem tw2328726987253536193:0=0:=rfl
theorem tw15083887148401551169:0=0:=rfl
theorem tw238647957680182133:0=0:=rfl
theorem tw7919517443541665293:0=0:=rfl
theorem tw13606322175376328407:0=0:=rfl
theorem tw3289575515168994760:0=0:=rfl
theorem tw14617270111078751638:0=0:=rfl
theorem tw14245673931925074842:0=0:=rfl
theorem tw15913645035485327194:0=0:=rfl
theorem tw7216585931563092279:0=0:=rfl
theorem tw10046231731708724940:0=0:=rfl
theorem tw9037061873681711864:0=0:=rfl
theorem tw17487800280141708971:0=0:=rfl
theorem tw8539105237616979289:0=0:=rfl
theorem tw10758266606773902156:0=0:=rfl
theorem tw2833872497777062646:0=0:=rfl
theorem tw13882475013665484080:0=0:=rfl
theorem tw3494556612547144169:0=0:=rfl
theorem tw13206138674057007014:0=0:=rfl
theorem tw13669095567491048741:0=0:=rfl
theorem tw3983780429024565603:0=0:=rfl
theorem tw7808482471174492641:0=0:=rfl
theorem tw4463916840503836315:0=0:=rfl
theorem tw485414733125904673:0=0:=rfl
theorem tw15317934204339424551:0=0:=rfl
theorem tw15039122546601188074:0=0:=rfl
theorem tw12085740712076043169:0=0:=rfl
theorem tw17507686167172662121:0=0:=rfl
theorem tw14307197828559115712:0=0:=rfl
theorem tw741105615291262903:0=0:=rfl
theorem tw16139580343126413106:0=0:=rfl
theorem tw11379966351678012141:0=0:=rfl
theorem tw8331322747838115876:0=0:=rfl
theorem tw10702801894685895326:0=0:=rfl
theorem tw8000978459126129605:0=0:=rfl
theorem tw4936498896915525407:0=0:=rfl
theorem tw17295464253481020656:0=0:=rfl
theorem tw1578242093865931693:0=0:=rfl
theorem tw6365231687887217988:0=0:=rfl
theorem tw4764758246704097513:0=0:=rfl
theorem tw17102972862344680688:0=0:=rfl
theorem tw7382528042244224917:0=0:=rfl
theorem tw7361333209299098250:0=0:=rfl
theorem tw667624072594568770:0=0:=rfl
theorem tw7112149351921913612:0=0:=rfl
theorem tw1627022658172354544:0=0:=rfl
theorem tw3448699460668450104:0=0:=rfl
theorem tw1961708449217366629:0=0:=rfl
theorem tw8103376912809122002:0=0:=rfl
theorem tw18152666741180164289:0=0:=rfl
theorem tw9142673653635615629:0=0:=rfl
theorem tw16043298218501479837:0=0:=rfl
theorem tw6316589014250644383:0=0:=rfl
theorem tw16767935240060014581:0=0:=rfl
theorem tw2021781012663157165:0=0:=rfl
theorem tw6469227571327307336:0=0:=rfl
theorem tw14228711796923340729:0=0:=rfl
theorem tw2431302343718521212:0=0:=rfl
theorem tw5012645801825161163:0=0:=rfl
theorem tw15649160104420889292:0=0:=rfl
theorem tw3753027876475839771:0=0:=rfl
theorem tw10442007890009504365:0=0:=rfl
theorem tw2626008696832244164:0=0:=rfl
theorem tw7436967256297323145:0=0:=rfl
theorem tw5135243322624172780:0=0:=rfl
theorem tw11266185499260294751:0=0:=rfl
theorem tw5204394049594724739:0=0:=rfl
theorem tw3023849496562114056:0=0:=rfl
theorem tw4963096643528404874:0=0:=rfl
theorem tw10041873950578373980:0=0:=rfl
theorem tw593461382175551795:0=0:=rfl
theorem tw15353344184098604168:0=0:=rfl
theorem tw1537204529600114775:0=0:=rfl
theorem tw1763764565760347841:0=0:=rfl
theorem tw2898049631056842328:0=0:=rfl
theorem tw13797977630594676725:0=0:=rfl
theorem tw8866527023588532976:0=0:=rfl
theorem tw3319759541475029793:0=0:=rfl
theorem tw9139217346484473409:0=0:=rfl
theorem tw18165639356681639370:0=0:=rfl
theorem tw4264904001585834950:0=0:=rfl
theorem tw11394574630308737491:0=0:=rfl
theorem tw7913773433165535891:0=0:=rfl
theorem tw11147525823704523923:0=0:=rfl
theorem tw12947673488627071265:0=0:=rfl
theorem tw16610704268838457013:0=0:=rfl
theorem tw6214205594722050364:0=0:=rfl
theorem tw15847284800205906579:0=0:=rfl
theorem tw2787141744532406821:0=0:=rfl
theorem tw4269537713692140474:0=0:=rfl
theorem tw1545806834381135143:0=0:=rfl
theorem tw7992974069731276311:0=0:=rfl
theorem tw4395481372212538071:0=0:=rfl
theorem tw12726140152929084474:0=0:=rfl
theorem tw8894372831205550663:0=0:=rfl
theorem tw3027026507880514387:0=0:=rfl
theorem tw14374036303697722173:0=0:=rfl
theorem tw122438228336591103:0=0:=rfl
theorem tw12250526712250755180:0=0:=rfl
theorem tw17268048124511042024:0=0:=rfl
theorem tw11752762571460927958:0=0:=rfl
theorem tw6158731927384938528:0=0:=rfl
theorem tw5413529195874735897:0=0:=rfl
theorem tw15604540441539961109:0=0:=rfl
theorem tw3737769489049176443:0=0:=rfl
theorem tw2731338238115349205:0=0:=rfl
theorem tw17294643950040937848:0=0:=rfl
theorem tw12857984994622713963:0=0:=rfl
theorem tw5779171765922021566:0=0:=rfl
theorem tw526207187671156952:0=0:=rfl
theorem tw2560835303414788877:0=0:=rfl
theorem tw11868363843223355584:0=0:=rfl
theorem tw10117025802436130721:0=0:=rfl
theorem tw9940260222788123892:0=0:=rfl
theorem tw8343054731243482273:0=0:=rfl
theorem tw5347718012849405067:0=0:=rfl
theorem tw2832478554530208122:0=0:=rfl
theorem tw14700134005769060168:0=0:=rfl
theorem tw13153080433549458860:0=0:=rfl
theorem tw8932468110783083507:0=0:=rfl
theorem tw4242037270452874285:0=0:=rfl
theorem tw1228093978083358616:0=0:=rfl
theorem tw8392636412609516515:0=0:=rfl
theorem tw12591020230438640220:0=0:=rfl
theorem tw10536152761335089301:0=0:=rfl
theorem tw6971389832894734321:0=0:=rfl
theorem tw8157087690196514840:0=0:=rfl
theorem tw2843970186913327728:0=0:=rfl
theorem tw4670393728673070934:0=0:=rfl
theorem tw6025425419567639431:0=0:=rfl
theorem tw12668047085723230587:0=0:=rfl
theorem tw11092771004590215506:0=0:=rfl
theorem tw6308915707316909952:0=0:=rfl
theorem tw1476158585390806812:0=0:=rfl
theorem tw7361808861204104921:0=0:=rfl
theorem tw18330356230419048245:0=0:=rfl
theorem tw6084853425298241207:0=0:=rfl
theorem tw1332106603173031524:0=0:=rfl
theorem tw15046478930443264873:0=0:=rfl
theorem tw12462100161157440149:0=0:=rfl
theorem tw13565667862724750465:0=0:=rfl
theorem tw11170245018224336716:0=0:=rfl
theorem tw16224102284612286777:0=0:=rfl
theorem tw1628747511729821512:0=0:=rfl
theorem tw18414216749988377999:0=0:=rfl
theorem tw14743312474077193234:0=0:=rfl
theorem tw7268924598347165920:0=0:=rfl
theorem tw10987943385021354710:0=0:=rfl
theorem tw3101183439721859553:0=0:=rfl
theorem tw7892431578558197691:0=0:=rfl
theorem tw3320717407204151312:0=0:=rfl
theorem tw18053425016947557181:0=0:=rfl
theorem tw14421456034869957707:0=0:=rfl
theorem tw7593616601099156230:0=0:=rfl
theorem tw9450980001446195857:0=0:=rfl
theorem tw13879893804846443466:0=0:=rfl
theorem tw7501907994698035766:0=0:=rfl
theorem tw2729849425266019835:0=0:=rfl
theorem tw12411073071816076267:0=0:=rfl
theorem tw10970189494426941642:0=0:=rfl
theorem tw16673955200187198804:0=0:=rfl
theorem tw8246188505093321086:0=0:=rfl
theorem tw822334323716799576:0=0:=rfl
theorem tw17873765665284737944:0=0:=rfl
theorem tw7865479023748420492:0=0:=rfl
theorem tw2662083809770707140:0=0:=rfl
theorem tw7386427691904095659:0=0:=rfl
theorem tw11397354755263872019:0=0:=rfl
theorem tw5026696367006010321:0=0:=rfl
theorem tw11061667899601037242:0=0:=rfl
theorem tw5121234339073672872:0=0:=rfl
theorem tw15587713334246177757:0=0:=rfl
theorem tw4840184744174969236:0=0:=rfl
theorem tw7426262116340527806:0=0:=rfl
theorem tw14472155931840255693:0=0:=rfl
theorem tw14576608242618511802:0=0:=rfl
theorem tw6690618980338043526:0=0:=rfl
theorem tw10623100444642297516:0=0:=rfl
theorem tw3775373183763941435:0=0:=rfl
theorem tw4819527749652418836:0=0:=rfl
theorem tw6360151392590445731:0=0:=rfl
theorem tw3852484291050964906:0=0:=rfl
theorem tw2119470870036364455:0=0:=rfl
theorem tw5116962919185471603:0=0:=rfl
theorem tw11545157271172490886:0=0:=rfl
theorem tw9442563921802451283:0=0:=rfl
theorem tw9125110612056445656:0=0:=rfl
theorem tw2556938861592357925:0=0:=rfl
theorem tw1751641904274728896:0=0:=rfl
theorem tw1223718109284588319:0=0:=rfl
theorem tw3377023576597740683:0=0:=rfl
theorem tw16746595834787146573:0=0:=rfl
theorem tw1268146784452891328:0=0:=rfl
theorem tw16954804487039270485:0=0:=rfl
theorem tw2268096723069824782:0=0:=rfl
theorem tw1518490451378058912:0=0:=rfl
theorem tw8566576260377772757:0=0:=rfl
theorem tw49654740206762392:0=0:=rfl
theorem tw74773822228671334:0=0:=rfl
theorem tw5668848560624006785:0=0:=rfl
theorem tw1067944475115579247:0=0:=rfl
theorem tw10581989867987400031:0=0:=rfl
theorem tw11776309304395897333:0=0:=rfl
theorem tw1506998954878681020:0=0:=rfl
theorem tw802280635216516818:0=0:=rfl
theorem tw996994912111553287:0=0:=rfl
theorem tw11170617862951788331:0=0:=rfl
theorem tw1431993557559768820:0=0:=rfl
theorem tw17872815840526968080:0=0:=rfl
theorem tw12678940781100872267:0=0:=rfl
theorem tw4446726041425408931:0=0:=rfl
theorem tw10677195512140819442:0=0:=rfl
theorem tw13166682648086041958:0=0:=rfl
theorem tw17913469698800135915:0=0:=rfl
theorem tw5767309245977103048:0=0:=rfl
theorem tw13462215478459175525:0=0:=rfl
theorem tw8410852991937666140:0=0:=rfl
theorem tw2772487128325743614:0=0:=rfl
theorem tw12846449043554252484:0=0:=rfl
theorem tw9575100738157322050:0=0:=rfl
theorem tw12122057416781192209:0=0:=rfl
theorem tw14715190686286666166:0=0:=rfl
theorem tw5955620949766240901:0=0:=rfl
theorem tw14758470973578479484:0=0:=rfl
theorem tw14981518210943036525:0=0:=rfl
theorem tw17689570879323077398:0=0:=rfl
theorem tw16245800091504489691:0=0:=rfl
theorem tw12007503856927167371:0=0:=rfl
theorem tw9275134272535660811:0=0:=rfl
theorem tw13651588490226221097:0=0:=rfl
theorem tw17829635360893352638:0=0:=rfl
theorem tw14721386106419851380:0=0:=rfl
theorem tw6754909075153868607:0=0:=rfl
theorem tw15687148965205790610:0=0:=rfl
theorem tw4421628708740868583:0=0:=rfl
theorem tw17812485625890773965:0=0:=rfl
theorem tw3246986834340876204:0=0:=rfl
theorem tw7999378707827993175:0=0:=rfl
theorem tw7196361365532515439:0=0:=rfl
theorem tw6868629991940324914:0=0:=rfl
theorem tw11907574735138655998:0=0:=rfl
theorem tw11856771908369341289:0=0:=rfl
theorem tw357700060137067405:0=0:=rfl
theorem tw711020244858606895:0=0:=rfl
theorem tw13105785606745568927:0=0:=rfl
theorem tw6324875905244369000:0=0:=rfl
theorem tw15548508119898042103:0=0:=rfl
theorem tw9490772798507704191:0=0:=rfl
theorem tw11355077204240420954:0=0:=rfl
theorem tw1948525463603916348:0=0:=rfl
theorem tw9994920089642682056:0=0:=rfl
theorem tw11645738974467660301:0=0:=rfl
theorem tw5994131466774063627:0=0:=rfl
theorem tw10842286762338054820:0=0:=rfl
theorem tw10071996464328958618:0=0:=rfl
theorem tw8271883052477796980:0=0:=rfl
theorem tw6964520847329834311:0=0:=rfl
theorem tw3743299668401713280:0=0:=rfl
theorem tw886374566395103272:0=0:=rfl
theorem tw820446034345978068:0=0:=rfl
theorem tw3938365774692066366:0=0:=rfl
theorem tw1888973377000835710:0=0:=rfl
theorem tw13294914610951036766:0=0:=rfl
theorem tw1199194467608034836:0=0:=rfl
theorem tw13361563091713194398:0=0:=rfl
theorem tw17590174999060097519:0=0:=rfl
theorem tw13501334345222942405:0=0:=rfl
theorem tw15840762616158564578:0=0:=rfl
theorem tw2136631236957513891:0=0:=rfl
theorem tw15801315049929142086:0=0:=rfl
theorem tw11612620090779081231:0=0:=rfl
theorem tw16411819218923558060:0=0:=rfl
theorem tw16017785963627481389:0=0:=rfl
theorem tw8256679309380630239:0=0:=rfl
theorem tw14503979309117969611:0=0:=rfl
theorem tw13634528996123219098:0=0:=rfl
theorem tw4158323236449753746:0=0:=rfl
theorem tw17056403036361486531:0=0:=rfl
theorem tw9708490479628771449:0=0:=rfl
theorem tw11818615245873357126:0=0:=rfl
theorem tw2090161722636198623:0=0:=rfl
theorem tw13797695225028908027:0=0:=rfl
theorem tw18083526052239155557:0=0:=rfl
theorem tw9078819305518573770:0=0:=rfl
theorem tw15555700226811666758:0=0:=rfl
theorem tw3422315492159780224:0=0:=rfl
theorem tw8011833881297033999:0=0:=rfl
theorem tw980443388968954314:0=0:=rfl
theorem tw10153890395698485434:0=0:=rfl
theorem tw14277978890236431699:0=0:=rfl
theorem tw13654734658229254360:0=0:=rfl
theorem tw5513312805197464571:0=0:=rfl
theorem tw13082573126786572656:0=0:=rfl
theorem tw1883394593782723696:0=0:=rfl
theorem tw2545443645782413065:0=0:=rfl
theorem tw5442314104721486698:0=0:=rfl
theorem tw18021470078256965850:0=0:=rfl
theorem tw17949439420627970634:0=0:=rfl
theorem tw15799106531841327929:0=0:=rfl
theorem tw13848499967301893407:0=0:=rfl
theorem tw4911563887153267063:0=0:=rfl
theorem tw12614259700734662256:0=0:=rfl
theorem tw13350693862173961861:0=0:=rfl
theorem tw18440412698868668761:0=0:=rfl
theorem tw13228465310371752104:0=0:=rfl
theorem tw17783924254085958877:0=0:=rfl
theorem tw8993652843510355174:0=0:=rfl
theorem tw10490971759283709857:0=0:=rfl
theorem tw7500313581868195472:0=0:=rfl
theorem tw11797255550053772253:0=0:=rfl
theorem tw11042239189465956179:0=0:=rfl
theorem tw17756708532431353897:0=0:=rfl
theorem tw6202531379024500956:0=0:=rfl
theorem tw13716161693757767286:0=0:=rfl
theorem tw11713361409649334510:0=0:=rfl
theorem tw10573448637632447622:0=0:=rfl
theorem tw2752682592992872630:0=0:=rfl
theorem tw12904154379949681695:0=0:=rfl
theorem tw10980678846304690276:0=0:=rfl
theorem tw11278138353096657913:0=0:=rfl
theorem tw7381727128679836496:0=0:=rfl
theorem tw3577188714985859341:0=0:=rfl
theorem tw769087678846815379:0=0:=rfl
theorem tw8139540844225910447:0=0:=rfl
theorem tw15733984392130630433:0=0:=rfl
theorem tw5425642666994666729:0=0:=rfl
theorem tw3511713475308102888:0=0:=rfl
theorem tw11154573644764330048:0=0:=rfl
theorem tw586647250374712344:0=0:=rfl
theorem tw874656816944200002:0=0:=rfl
theorem tw10012743026486275802:0=0:=rfl
theorem tw17490858972955922650:0=0:=rfl
theorem tw11720925512062985970:0=0:=rfl
theorem tw13081113739548529770:0=0:=rfl
theorem tw3873932731650457855:0=0:=rfl
theorem tw3760872138856867437:0=0:=rfl
theorem tw2957300685265198960:0=0:=rfl
theorem tw1483463263623053873:0=0:=rfl
theorem tw922348919001419094:0=0:=rfl
theorem tw11901045208262733691:0=0:=rfl
theorem tw11189746573800587610:0=0:=rfl
theorem tw7042264375881114468:0=0:=rfl
theorem tw17622272861525015739:0=0:=rfl
theorem tw410446770078679396:0=0:=rfl
theorem tw12561591504412259630:0=0:=rfl
theorem tw6872194023449497384:0=0:=rfl
theorem tw16989461335385413292:0=0:=rfl
theorem tw5093797426561179835:0=0:=rfl
theorem tw2868607497037307164:0=0:=rfl
theorem tw4600588810547139676:0=0:=rfl
theorem tw14432770612413803229:0=0:=rfl
theorem tw13403015640460979904:0=0:=rfl
theorem tw12607461386470952924:0=0:=rfl
theorem tw17970570639164219967:0=0:=rfl
theorem tw13759879753608537376:0=0:=rfl
theorem tw17396062470752343072:0=0:=rfl
end PySem.W.Fast
open PySem PySem.W PyProof.Rows
set_option maxRecDepth 100000 in
set_option maxHeartbeats 0 in
theorem PySem.Challenge.cw_phialhouse_k33_draws_and_fills_holds : PySem.Challenge.rw_phialhouse_k33_draws_and_fills.Holds := by
 w_on;o_law;k_head;(case hw=>w_witness2)
 k_fill
 refine K33.walk (l:=PySem.Challenge.rw_phialhouse_k33_draws_and_fills) rfl rfl (λw h Y=>PySem.W.kIn_of Y) ?F
 case F=>
  intro w mg fa h KX G hmg
  obtain ⟨dIsWh,dGcd,dLow,dIsAm,dPlus,dMinus,dTimes,dLess,dIsWare,dMixture,dWholeM,dTogether,dPairIn,dWithPh,dWithMore,dDeedAt,dIsRow,dOfKind,dDoneAt,dDone,dCell,dMixed,dLowest,dAdd,dTake,dBy,dUnder,dDigit,dNames,dWares,dSum,dInto,dPoured,dAfter,dMuch,dApart,dFree,dBench,dFreeRow,dRow,dPhials,dWhole,dKind,dRefused,dFreeDr,dDrawn⟩:K33.Dn (L2.KOf KX) "is_whole_number" K33.sIsWh ["thing"]/\K33.Dn (L2.KOf KX) "common_divisor" K33.sGcd ["one","other"]/\K33.Dn (L2.KOf KX) "lowest_terms" K33.sLow ["top","bottom"]/\K33.Dn (L2.KOf KX) "is_amount" K33.sIsAm ["thing"]/\K33.Dn (L2.KOf KX) "plus" K33.sPlus ["one","other"]/\K33.Dn (L2.KOf KX) "minus" K33.sMinus ["one","other"]/\K33.Dn (L2.KOf KX) "times" K33.sTimes ["one","other"]/\K33.Dn (L2.KOf KX) "less" K33.sLess ["one","other"]/\K33.Dn (L2.KOf KX) "is_ware" K33.sIsWare ["thing"]/\K33.Dn (L2.KOf KX) "mixture" K33.sMixture ["pairs"]/\K33.Dn (L2.KOf KX) "whole" K33.sWholeM ["one"]/\K33.Dn (L2.KOf KX) "together" K33.sTogether ["one","other"]/\K33.Dn (L2.KOf KX) "pair_in" K33.sPairIn ["bench","names"]/\K33.Dn (L2.KOf KX) "with_phial" K33.sWithPh ["phials","phial","holds","names"]/\K33.Dn (L2.KOf KX) "with_more" K33.sWithMore ["bench","phials","phial","comes","names","place"]/\K33.Dn (L2.KOf KX) "deed_at" K33.sDeedAt ["bench","row","place"]/\K33.Dn (L2.KOf KX) "is_row" K33.sIsRow ["bench","row"]/\K33.Dn (L2.KOf KX) "is_of_kind" K33.sOfKind ["bench","kind","thing"]/\K33.Dn (L2.KOf KX) "done_at" K33.sDoneAt ["bench","phials","row","place"]/\K33.Dn (L2.KOf KX) "done" K33.sDone ["bench","phials","row"]/\K33.Dn (L2.KOf KX) "_law_cell_at" K33.sCell ["_law_script","_law_k"]/\K33.Dn (L2.KOf KX) "_law_mixed" K33.sMixed ["_law_cell","_law_k"]/\K33.Dn (L2.KOf KX) "_law_lowest" K33.sLowest ["_law_top","_law_bottom"]/\K33.Dn (L2.KOf KX) "_law_add" K33.sAdd ["_law_one","_law_other"]/\K33.Dn (L2.KOf KX) "_law_take" K33.sTake ["_law_one","_law_other"]/\K33.Dn (L2.KOf KX) "_law_by" K33.sBy ["_law_one","_law_other"]/\K33.Dn (L2.KOf KX) "_law_under" K33.sUnder ["_law_one","_law_other"]/\K33.Dn (L2.KOf KX) "_law_digit" K33.sDigit ["_law_left","_law_many"]/\K33.Dn (L2.KOf KX) "_law_names" K33.sNames ["_law_left"]/\K33.Dn (L2.KOf KX) "_law_wares" K33.sWares ["_law_cell"]/\K33.Dn (L2.KOf KX) "_law_sum" K33.sSum ["_law_held"]/\K33.Dn (L2.KOf KX) "_law_into" K33.sInto ["_law_bench_here","_law_state","_law_phial","_law_more","_law_names_here"]/\K33.Dn (L2.KOf KX) "_law_poured" K33.sPoured ["_law_bench_here","_law_state","_law_row_here"]/\K33.Dn (L2.KOf KX) "_law_after" K33.sAfter ["_law_bench_here","_law_state","_law_row_here"]/\K33.Dn (L2.KOf KX) "_law_much" K33.sMuch ["_law_number"]/\K33.Dn (L2.KOf KX) "_law_apart" K33.sApart ["_law_wares_here","_law_cell","_law_often"]/\K33.Dn (L2.KOf KX) "_law_free_bench" K33.sFree ["_law_script","_law_wares_here"]/\K33.Dn (L2.KOf KX) "_law_bench" K33.sBench ["_law_script","_law_wares_here"]/\K33.Dn (L2.KOf KX) "_law_free_row" K33.sFreeRow ["_law_bench_here","_law_wares_here","_law_left"]/\K33.Dn (L2.KOf KX) "_law_row" K33.sRow ["_law_bench_here","_law_wares_here","_law_script","_law_k"]/\K33.Dn (L2.KOf KX) "_law_phials" K33.sPhials ["_law_script","_law_bench_here","_law_wares_here","_law_start","_law_last"]/\K33.Dn (L2.KOf KX) "_law_whole" K33.sWhole ["_law_found"]/\K33.Dn (L2.KOf KX) "_law_kind" K33.sKind ["_law_error"]/\K33.Dn (L2.KOf KX) "_law_refused" K33.sRefused ["_law_error","_law_due","_law_place"]/\K33.Dn (L2.KOf KX) "_law_free_drawn" K33.sFreeDr ["_law_bench_here","_law_wares_here","_law_state","_law_left"]/\K33.Dn (L2.KOf KX) "_law_drawn" K33.sDrawn ["_law_bench_here","_law_wares_here","_law_state","_law_script","_law_k"]:=by
   refine ⟨?_,?_,?_,?_,?_,?_,?_,?_,?_,?_,?_,?_,?_,?_,?_,?_,?_,?_,?_,?_,?_,?_,?_,?_,?_,?_,?_,?_,?_,?_,?_,?_,?_,?_,?_,?_,?_,?_,?_,?_,?_,?_,?_,?_,?_,?_⟩<;>(dsimp only [L2.KOf];refine' K33.Dn.mk' ?a ?l ?c ?k ?b;(case a=>k_is);(case l=>k_is);(case c=>k_is);(case k=>k_is);(case b=>first|exact λ_ _ _ _ _ _=>K33.bA1 λ_=>rfl|exact λ_ _ _ _ _ _=>K33.bA2 λ_ _=>rfl|exact λ_ _ _ _ _ _=>K33.bA4 λ_ _ _ _=>rfl|exact λ_ _ _ _ _ _=>K33.bA6 λ_ _ _ _ _ _=>rfl|exact λ_ _ _ _ _ _=>K33.bA3 λ_ _ _=>rfl|exact λ_ _ _ _ _ _=>K33.bA5 λ_ _ _ _ _=>rfl))
  have z0:Ar (L2.KOf KX) An "isinstance" = some none:=by
   dsimp only [L2.KOf]
   k_is
  have z1:Ar (L2.KOf KX) An "int" = some none:=by
   dsimp only [L2.KOf]
   k_is
  have z2:Ar (L2.KOf KX) An "bool" = some none:=by
   dsimp only [L2.KOf]
   k_is
  have z3:Ar (L2.KOf KX) An "tuple" = some none:=by
   dsimp only [L2.KOf]
   k_is
  have z4:Ar (L2.KOf KX) An "str" = some none:=by
   dsimp only [L2.KOf]
   k_is
  have z5:Ar (L2.KOf KX) An "len" = some none:=by
   dsimp only [L2.KOf]
   k_is
  have z6:Ar (L2.KOf KX) An "range" = some none:=by
   dsimp only [L2.KOf]
   k_is
  have z7:Ar (L2.KOf KX) An "min" = some none:=by
   dsimp only [L2.KOf]
   k_is
  have z8:Ar (L2.KOf KX) An "max" = some none:=by
   dsimp only [L2.KOf]
   k_is
  have z9:Ar (L2.KOf KX) An "abs" = some none:=by
   dsimp only [L2.KOf]
   k_is
  have z10:Ar (L2.KOf KX) An "list" = some none:=by
   dsimp only [L2.KOf]
   k_is
  have z11:Ar (L2.KOf KX) An "sorted" = some none:=by
   dsimp only [L2.KOf]
   k_is
  have z12:Ar (L2.KOf KX) An "zip" = some none:=by
   dsimp only [L2.KOf]
   k_is
  have z13:Ar (L2.KOf KX) An "set" = some none:=by
   dsimp only [L2.KOf]
   k_is
  have z14:Ar (L2.KOf KX) An "all" = some none:=by
   dsimp only [L2.KOf]
   k_is
  have z15:Ar (L2.KOf KX) An "enumerate" = some none:=by
   dsimp only [L2.KOf]
   k_is
  have z16:Ar (L2.KOf KX) An "ValueError" = some none:=by
   dsimp only [L2.KOf]
   k_is
  have z17:Ar (L2.KOf KX) An "dict" = some none:=by
   dsimp only [L2.KOf]
   k_is
  have nou:∃ aN:Addr,K33.NouK (L2.KOf KX) aN:=by
   dsimp only [L2.KOf]
   refine' K33.NouK.mk' ?a ?l
   (case a=>k_is);(case l=>k_is)
  have one:∃ aO:Addr,K33.OneK (L2.KOf KX) aO:=by
   dsimp only [L2.KOf]
   refine' K33.OneK.mk' ?a ?l
   (case a=>k_is);(case l=>k_is)
  have err:∃ cP c0 c1 c2 c3 c4 c5 f1 f3 f4:Addr,K33.ErBK (L2.KOf KX) cP c0 c1 c2 c3 c4 c5 f1 f3 f4:=by
   dsimp only [L2.KOf]
   refine' K33.errb_mk ?mP ⟨?y1,?y2,?y3⟩ ⟨?b1,?b2,?b3⟩ (K33.er1_mk ?mz1 ?lkz1 ?niz1 (K33.ex2 ⟨⟨?xiz1,?xfz1,?xkz1,⟨?xaz1,?xbz1,?xcz1,?xdz1,?xez1,?xgz1⟩⟩,?saz1,?nnz1⟩ ?n2z1) ?sz1 ?vz1 (K33.fn_mkE ?lz1 ?cz1 ?kz1 ?hbz1)) (K33.er1_mk ?mz3 ?lkz3 ?niz3 (K33.ex3 ⟨⟨?xiz3,?xfz3,?xkz3,⟨?xaz3,?xbz3,?xcz3,?xdz3,?xez3,?xgz3⟩⟩,?saz3,?nnz3⟩ ?n2z3 ?n3z3) ?sz3 ?vz3 (K33.fn_mkE ?lz3 ?cz3 ?kz3 ?hbz3)) (K33.er1_mk ?mz4 ?lkz4 ?niz4 (K33.ex3 ⟨⟨?xiz4,?xfz4,?xkz4,⟨?xaz4,?xbz4,?xcz4,?xdz4,?xez4,?xgz4⟩⟩,?saz4,?nnz4⟩ ?n2z4 ?n3z4) ?sz4 ?vz4 (K33.fn_mkE ?lz4 ?cz4 ?kz4 ?hbz4)) ?m0 ?m2 ?m5 ?i10 ?i11 ?i12 ?i13 ?i14 ?i15 ?i30 ?i31 ?i32 ?i33 ?i34 ?i35 ?i40 ?i41 ?i42 ?i43 ?i44 ?i45
   (case mP=>k_is);(case y1=>k_is);(case y2=>(show PySem.W.isClsIn _ _=true;k_is));(case y3=>k_is);(case b1=>k_is);(case b2=>k_is);(case b3=>k_is)
   (case m0=>k_is);(case m2=>k_is);(case m5=>k_is)
   (case mz1=>k_is);(case lkz1=>k_is);(case niz1=>k_is);(case xiz1=>first|kernel_rfl|rfl);(case xfz1=>k_is);(case xkz1=>k_is);(case xaz1=>k_is);(case xbz1=>k_is);(case xcz1=>k_is);(case xdz1=>k_is);(case xez1=>k_is);(case xgz1=>(show PySem.W.isClsIn _ _=true;k_is));(case saz1=>k_is);(case nnz1=>k_is);(case n2z1=>k_is);(case sz1=>k_is);(case vz1=>kit_is);(case lz1=>k_is);(case cz1=>k_is);(case kz1=>k_is)
   (case hbz1=>exact λ_ _ _ _ _ _=>K33.bA3 λ_ _ _=>rfl)
   (case mz3=>k_is);(case lkz3=>k_is);(case niz3=>k_is);(case xiz3=>first|kernel_rfl|rfl);(case xfz3=>k_is);(case xkz3=>k_is);(case xaz3=>k_is);(case xbz3=>k_is);(case xcz3=>k_is);(case xdz3=>k_is);(case xez3=>k_is);(case xgz3=>(show PySem.W.isClsIn _ _=true;k_is));(case saz3=>k_is);(case nnz3=>k_is);(case n2z3=>k_is);(case n3z3=>k_is);(case sz3=>k_is);(case vz3=>kit_is);(case lz3=>k_is);(case cz3=>k_is);(case kz3=>k_is)
   (case hbz3=>exact λ_ _ _ _ _ _=>K33.bA4 λ_ _ _ _=>rfl)
   (case mz4=>k_is);(case lkz4=>k_is);(case niz4=>k_is);(case xiz4=>first|kernel_rfl|rfl);(case xfz4=>k_is);(case xkz4=>k_is);(case xaz4=>k_is);(case xbz4=>k_is);(case xcz4=>k_is);(case xdz4=>k_is);(case xez4=>k_is);(case xgz4=>(show PySem.W.isClsIn _ _=true;k_is));(case saz4=>k_is);(case nnz4=>k_is);(case n2z4=>k_is);(case n3z4=>k_is);(case sz4=>k_is);(case vz4=>kit_is);(case lz4=>k_is);(case cz4=>k_is);(case kz4=>k_is)
   (case hbz4=>exact λ_ _ _ _ _ _=>K33.bA4 λ_ _ _ _=>rfl)
   (case i10=>kit_is);(case i11=>kit_is);(case i12=>kit_is);(case i13=>kit_is);(case i14=>kit_is);(case i15=>kit_is);(case i30=>kit_is);(case i31=>kit_is);(case i32=>kit_is);(case i33=>kit_is);(case i34=>kit_is);(case i35=>kit_is);(case i40=>kit_is);(case i41=>kit_is);(case i42=>kit_is);(case i43=>kit_is);(case i44=>kit_is);(case i45=>kit_is)
  have forms:∃ (aF:Addr) (f:Str->Option Addr),K33.FormsW w (L2.KOf KX) aF f:=by
   dsimp only [L2.KOf]
   refine' K33.forms_mk ?m ?lo ?l ?k (K33.sq3 ?s0) (K33.sq3 ?s1) (K33.sq3 ?s2) (K33.sq1 ?s3) (K33.sq1 ?s4)
   (case m=>k_is);(case lo=>decide);(case l=>k_is);(case k=>k_keys)
   (case s0=>k_is);(case s1=>k_is);(case s2=>k_is);(case s3=>k_is);(case s4=>k_is)
  have cls:∃ CD CF:Addr,K33.AllC (L2.KOf KX) CD CF:=by
   dsimp only [L2.KOf]
   refine' K33.allc_mk ⟨?gDraw,(K33.na3 ?n0Draw ?n1Draw ?n2Draw),⟨?pgDraw,?hdDraw,?poDraw,?saDraw⟩,?mkDraw,?kcDraw,K33.MDn.mk' ?IaDraw ?IiDraw ?IlDraw ?IcDraw ?IkDraw ?IbDraw,K33.MDn.mk' ?TaDraw ?TiDraw ?TlDraw ?TcDraw ?TkDraw ?TbDraw⟩ ⟨?gFill,(K33.na3 ?n0Fill ?n1Fill ?n2Fill),⟨?pgFill,?hdFill,?poFill,?saFill⟩,?mkFill,?kcFill,K33.MDn.mk' ?IaFill ?IiFill ?IlFill ?IcFill ?IkFill ?IbFill,K33.MDn.mk' ?TaFill ?TiFill ?TlFill ?TcFill ?TkFill ?TbFill⟩
   (case gDraw=>k_is);(case n0Draw=>k_is);(case n1Draw=>k_is);(case n2Draw=>k_is);(case pgDraw=>k_is);(case hdDraw=>k_is);(case poDraw=>k_is);(case saDraw=>k_is);(case mkDraw=>k_is);(case kcDraw=>k_is)
   (case IaDraw=>k_is);(case IiDraw=>k_is);(case IlDraw=>k_is);(case IcDraw=>k_is);(case IkDraw=>k_is);(case TaDraw=>k_is);(case TiDraw=>k_is);(case TlDraw=>k_is);(case TcDraw=>k_is);(case TkDraw=>k_is)
   (case IbDraw=>exact λ_ _ _ _ _ _=>K33.bA4 λ_ _ _ _=>rfl)
   (case TbDraw=>exact λ_ _ _ _ _ _=>K33.bA4 λ_ _ _ _=>rfl)
   (case gFill=>k_is);(case n0Fill=>k_is);(case n1Fill=>k_is);(case n2Fill=>k_is);(case pgFill=>k_is);(case hdFill=>k_is);(case poFill=>k_is);(case saFill=>k_is);(case mkFill=>k_is);(case kcFill=>k_is)
   (case IaFill=>k_is);(case IiFill=>k_is);(case IlFill=>k_is);(case IcFill=>k_is);(case IkFill=>k_is);(case TaFill=>k_is);(case TiFill=>k_is);(case TlFill=>k_is);(case TcFill=>k_is);(case TkFill=>k_is)
   (case IbFill=>exact λ_ _ _ _ _ _=>K33.bA4 λ_ _ _ _=>rfl)
   (case TbFill=>exact λ_ _ _ _ _ _=>K33.bA4 λ_ _ _ _=>rfl)
  have mM:∃ tk:Tok,Ar (L2.KOf KX) An "MOST_LETTERS" = some (some (.int 8 tk)):=by
   dsimp only [L2.KOf]
   refine' K33.mst_mk ?a
   (case a=>k_is)
  have mL:∃ tk:Tok,Ar (L2.KOf KX) An "LETTERS" = some (some (.str TM.LET tk)):=by
   dsimp only [L2.KOf]
   refine' K33.fgs_mk ?a ?e
   (case a=>k_is);(case e=>decide +kernel)
  refine' K33.all_mk KX G hmg ⟨dIsWh,dGcd,dLow,dIsAm,dPlus,dMinus,dTimes,dLess,dIsWare,dMixture,dWholeM,dTogether,dPairIn,dWithPh,dWithMore,dDeedAt,dIsRow,dOfKind,dDoneAt,dDone,dCell,dMixed,dLowest,dAdd,dTake,dBy,dUnder,dDigit,dNames,dWares,dSum,dInto,dPoured,dAfter,dMuch,dApart,dFree,dBench,dFreeRow,dRow,dPhials,dWhole,dKind,dRefused,dFreeDr,dDrawn,z0,z1,z2,z3,z4,z5,z6,z7,z8,z9,z10,z11,z12,z13,z14,z15,z16,z17,nou,one,err,forms,cls,mM,mL⟩ ?a4 ?l4 ?c4 ?k4
  (case a4=>k_is);(case l4=>k_is);(case c4=>k_is);(case k4=>k_is)
