import PyProof.Rows.All
import Wide.All
import OpenK.AllK
import Wide.FinOn
import Lean
import PyProof.EqAt
import PyProof.EqKinds
import PyProof.TupleCall
import PySem.Challenge.RW_phialhouse_k53_gathered
set_option Elab.async false
set_option linter.all false
set_option maxRecDepth 100000
set_option maxHeartbeats 4000000
open PySem renaming wpAny_bind→Aa, wpAny_pure→Af, sizeLine→Av, Program→Aw, Spec→Ax, FuncData→Ay, Builtin→AE, mainGlobals→AF, starEach→AR, wpAny_newObj_type→Be, NameKind→Bq, wpAny_call_entry→Bw, wpAny_holding→BD, wpAny_callSpecial?_slot→BE, wpAny_field→BG, PassesOwn→BJ, boot_len→BO, compareOp→BW, SetTable→Cn, wpAny_of_eq→Cq, bootBuiltins→Cr, wpAny_mono→Cy, wpAny_setField_rec→CC, codeAny_builtin→CG, codeAny_mono→CI, wpAny_loadPart_at→CO, mem_of_lookup→De, wpAny_seqItems→Dl, wpAny_rule→DC, wpAny_truthy_bool→DJ, sysModules→DM, wpAny_attempt→DQ, wpAny_Call_Name_kw→DY, wpAny_typeOf→Eg, wpAny_passesOwn→Eh, wpAny_setState_of→En, plainId_quiet→Eo, binaryOp→Ep, codeAny_call_builtin→Et, codeAny→Eu, wpAny_askSetting→EB, wpAny_setEntries_of→EG, wpAny_pyIter_tuple→EM, scanBound→EN, codeAny_of_tree→EO, attributeBase→ER, wpAny_call→Fc, plainObj_wpAny_Assign_Attribute→Fd, foldedSetIterable→Fe, fits_of_scanBound→Ff, Builtin→Fh, wpAny_setField→Fi, reprText→Fj, wpAny_isInstance→Fv, wpAny_standAt→Fy, letOwnedTupleGo→FE, tupleKind_room_in1→FI
open PySem.W renaming Frag→Ab, nsIn→AL, mg_none_of→AM, mg_of→Bp, findIn→BZ, emptyDict→CH, keepIn→CW, fnOf→Dm, instObj→Dz, codeIn→EI, callWith_K→Fo
open List renaming getElem?_eq_some_iff→Ac, getElem?_eq_getElem→Ae, length_map→Ag, mem_cons_of_mem→Ah, map_cons→Ak, mem_cons_self→Al, size_toArray→An, mem_of_getElem?→Ao, getElem?_map→Aq, length_append→As, mem_singleton→Az, mem_cons→AB, getElem?_append_left→AG, getElem?_append_right→AH, sum_cons→AI, mem_map→AK, take_length→AN, mem_append_right→AO, length_cons→AS, getElem?_set_ne→AU, map_append→AW, length_eq_zero_iff→AY, range→Bf, mem_append→Bm, length_singleton→Bo, getElem?_eq_none→Bs, length_set→BB, getElem?_set_self→BH, forall_mem_cons→BI, nodup_cons→Ca, map_map→Cb, append_nil→Cc, getD_eq_getElem?_getD→Ck, zip_cons_cons→Co, mem_map_of_mem→Cu, replicate→Cz, pairwise_map→CJ, mem_range→CL, filter_append→CQ, all_eq_true→CT, getElem?_of_mem→CY, take_add_one→Dd, map_congr_left→Dg, filterMap_cons→Dh, take_of_length_le→Dk, lookup_cons→Dq, length_take→Dr, pairwise_iff_getElem→Dy, lookup→DI, getElem_mem→DP, find?_cons→DT, nodup_nil→Ej, mem_or_eq_of_mem_set→Ek, drop_eq_getElem_cons→El, not_mem_nil→Er, filter_cons→Es, of_mem_zip→EC, filter_cons_of_pos→ED, filter_cons_of_neg→EE, ext_getElem?→EJ, le_antisymm→EZ, set_comm→Fk, dropLast_concat_getLast→Fl, any_cons→Fm, toList_toArray→Fp, sum_append→Fs, mem_filter→Ft, foldl_cons→Fu, getElem?_zip_eq_some→FD
open PySem.Heap renaming get?_push_of_some→Ad, get?_push_size→Ai, lt_size→Ar, get?_update_other→Bh, size_push→BP, get?_update_self→Cd, SameBut→Cv, get?_push_ne→Eb
open Nat renaming le_refl→Aj, ne_of_lt→Au, lt_of_lt_of_le→AZ, le_trans→Bj, zero_le→BF, lt_succ_self→Cg, lt_succ_of_lt→Cw, lt_irrefl→CN, le_succ→CU, sub_self→DG, ne_of_gt→DH, lt_of_le_of_lt→DS, lt_trans→Ey
open Option.some renaming inj→AA
open Bool renaming false_ne_true→AC, and_eq_true→Cf, false_eq_true→Dw, eq_iff_iff→DV
open PySem.Value renaming ref→AD, none→BN, type→Dp, isStrOf_shape→DF, isStrOf→Fg
open PySem.PassesOwn renaming never→AJ
open Sum renaming inr→AQ
open Int renaming mul_right_comm→AV, mul_nonneg→Bu, eq_ofNat_of_zero_le→BC, mul_comm→BK, eq_of_mul_eq_mul_right→BM, zero_mul→BV, mul_assoc→BX, mul_pos→Ce, ediv_le_self→Ci, toNat_natCast→CK, mul_le_mul_of_nonneg_left→CV, le_refl→DB, le_trans→Ez, mul_le_mul→EU, mul_le_mul_of_nonneg_right→EW, le_of_lt→EX, mul_lt_mul_right→Fn, mul_eq_zero→Fw
open Option renaming some→AX, map_eq_some_iff→Bg, map_some→DD
open PySem.F renaming type_list_append→Ba, slot_list_append→Bb, plainAttrs_list→Bk, called_set→Cp, slot_dict_get→Ct, kt_called_dict→CZ, entry_dict_get→DO, slot_tuple_iterator_next→Em, plainAttrs_dict→Ew, args_tuple_add_2→FA, entry_tuple_add→FF, args_dict_get_2→FG, slot_tuple_getattribute→FH
open PySem.NameKind renaming free→Bc, cell→CS
open Ne renaming symm→Bi
open Array renaming getElem?_toList→Bl, length_toList→BL, getElem?_eq_some_iff→CB, perm_iff_toList_perm→Ec, toArray_toList→Fb, getElem?_eq_getElem→FC
open Decidable renaming byContradiction→Br
open Rat renaming intCast_mul→Bv, div_def→Dj
open PySem.SeqAt renaming EqAt→Bz
open PySem.Builtin.SmallTypes renaming nextOf→BA, ownedTupleIsFree→CM, ownedTupleHandOut→Fx
open PySem.Builtin.Range renaming rangeFitsLong→BR
open PyProof.Rows renaming callWith_type1→BU, slot_tuple_getitem→BY, wpS_bind→Cm, wpS_pure→Du, boot_isinstance→Ei, StrsAre→ES
open False renaming elim→Cj
open PySem.Around renaming under_plainId→CA
open PySem.Str renaming ofString→Da
open PySem.Calls renaming callWith_builtin→Di, spliced_cons→Ds, spliced_nil→DW, evalArgs_plain→Ef, call_function_entry→FB
open ForInStep renaming yield→Dx
open True renaming intro→DE
open PySem.Builtin.Slice renaming slicePlaces→DR, sliceAdjust→EY
open PySem.Builtin.Tuple renaming tupleExact→DU
open PySem.SetTable renaming grown→DZ, below→Ea
open PySem.Obj renaming mapSeq→Ed, mapFields→Ee, data_mapFields→EH, isFreed_of_fields→EV
open LawfulBEq renaming eq_of_beq→EA
open PySem.Code renaming quiet_builtin→EF
open PySem.Heap.SameBut renaming update→EK
open PySem.Builtin.List renaming listExtendWith→EL
open PySem.Builtin.Int renaming intBits→ET
open PyProof.Rows.F renaming plain_set_update_loop→FJ
abbrev Ga:=PySem.Value->PySem.Shared->Prop
abbrev Gb:=PySem.Str->Option PySem.Value
abbrev Gc:=List (PySem.Str×Int×Int)
abbrev Ge:=List (PySem.Addr×PySem.Obj)
abbrev Gf:=List (PySem.Str×PySem.Str)
abbrev Gg:=List (Int×Int)
abbrev Gh:=List PySem.Str
abbrev Gi:=List PySem.Value
abbrev Gj:=PySem.Addr
abbrev Gk:=PySem.Value
abbrev Gm:=PySem.Shared
section
open PySem PySem.Spec PyProof.Rows
namespace L2
def zLn0:0<=Av:=by decide
def zLn1:1<=Av:=by decide
def zLn2:2<=Av:=by decide
def zLn3:3<=Av:=by decide
def zLn4:4<=Av:=by decide
def zLn5:5<=Av:=by decide
def zLn6:6<=Av:=by decide
def zLn10:10<=Av:=by decide
abbrev Key:=Sum Int Str
def vE:Key->Gk->Bool
 |.inl k,v=>Value.isInt k v
 |.inr x,v=>Fg x v
def keyH (w:World):Key->Int
 |.inl k=>hashInt k
 |.inr x=>hashStr w x
def bX:∀ {k:Key} {v:Gk},vE k v=true->(∃ i t,k=Sum.inl i/\v=Value.int i t)\/(∃ x t,k=AQ x/\v=Value.str x t)
 |.inl i,v,h=>by
  obtain ⟨t,e⟩:=Value.isInt_shape (k:=i) (v:=v) h;exact .inl ⟨i,t,rfl,e⟩
 |.inr x,v,h=>by
  obtain ⟨t,e⟩:=DF (x:=x) (v:=v) h;exact .inr ⟨x,t,rfl,e⟩
def zK (i:Int)(t:Tok):vE (.inl i) (.int i t)=true:=by simp [vE,Value.isInt]
def zJ (x:Str)(t:Tok):vE (.inr x) (.str x t)=true:=by simp [vE,Fg]
theorem aJn (a b:Int):decide ((Sum.inl a:Key)=Sum.inl b)=(a==b):=by
 by_cases e:a=b
 ·subst e;simp
 ·have h:¬ (Sum.inl a:Key)=Sum.inl b:=λq=>e (Sum.inl.inj q)
  rw [decide_eq_false h];exact (beq_eq_false_iff_ne.mpr e).symm
theorem aJk (a b:Str):decide ((AQ a:Key)=AQ b)=decide (a=b):=by
 by_cases e:a=b
 ·subst e;simp
 ·have h:¬ (AQ a:Key)=AQ b:=λq=>e (AQ.inj q)
  rw [decide_eq_false h,decide_eq_false e]
theorem aJm (a:Int)(b:Str):decide ((Sum.inl a:Key)=AQ b)=false:=decide_eq_false (λq=>nomatch q)
theorem aJl (a:Str)(b:Int):decide ((AQ a:Key)=Sum.inl b)=false:=decide_eq_false (λq=>nomatch q)
def bB (prog:Aw)(w:World):PySem.KeyKind prog w Key where
 is:=vE
 hash:=keyH w
 inj:=λv a b ha hb=>by
  rcases bX ha with ⟨i,t,rfl,rfl⟩|⟨x,t,rfl,rfl⟩
  ·rcases bX hb with ⟨j,u,rfl,e⟩|⟨y,u,rfl,e⟩
   ·injection e with e1 _;rw [e1]
   ·exact nomatch e
  ·rcases bX hb with ⟨j,u,rfl,e⟩|⟨y,u,rfl,e⟩
   ·exact nomatch e
   ·injection e with e1 _;rw [e1]
 byValue:=λk v h=>by
  rcases bX h with ⟨i,t,rfl,rfl⟩|⟨x,t,rfl,rfl⟩<;>rfl
 pyHash:=λhv h=>by
  rcases bX hv with ⟨i,t,rfl,rfl⟩|⟨x,t,rfl,rfl⟩
  ·exact wpAny_pyHash_int h
  ·exact wpAny_pyHash_str h
 eqBool:=λhu hv h=>by
  rcases bX hu with ⟨i,t,rfl,rfl⟩|⟨x,t,rfl,rfl⟩
  ·rcases bX hv with ⟨j,u,rfl,rfl⟩|⟨y,u,rfl,rfl⟩
   ·rw [aJn] at h;exact wpAny_eqBool_int h
   ·rw [aJm] at h;exact Bz.int_str i t y u _ _ _ _ h
  ·rcases bX hv with ⟨j,u,rfl,rfl⟩|⟨y,u,rfl,rfl⟩
   ·rw [aJl] at h;exact Bz.str_int x t j u _ _ _ _ h
   ·rw [aJk] at h;exact wpAny_eqBool_str h
 «strs»:=λk x t v h=>by
  rcases bX h with ⟨i,u,rfl,e⟩|⟨y,u,rfl,e⟩
  ·exact nomatch e
  ·injection e with e1 _
   subst e1;cases v<;>rfl
def qM (prog:Aw)(w:World)(i:Int)(t:Tok):(bB prog w).is (.inl i) (.int i t)=true:=zK i t
def qL (prog:Aw)(w:World)(x:Str)(t:Tok):(bB prog w).is (.inr x) (.str x t)=true:=zJ x t
inductive V where
 |non|bl (b:Bool)|int (i:Int)|str (x:Str)|byt (b:Array UInt8)|flt (b:UInt64)|ref (a:Gj)|ty (n:String)
 deriving DecidableEq
abbrev Gn:=List (Str×V)
abbrev Gp:=List (Key×V)
abbrev Gq:=List V
abbrev Gr:=Option V
def RelV:V->Gk->Prop
 |.non,u=>u=BN
 |.bl b,u=>u=Value.bool b
 |.int i,u=>∃ t,u=Value.int i t
 |.str x,u=>∃ t,u=Value.str x t
 |.byt b,u=>∃ t,u=Value.bytes b t
 |.flt b,u=>∃ t,u=Value.float b t
 |.ref a,u=>u=AD a
 |.ty n,u=>u=Dp n
abbrev Vals:Gq->Gi->Prop:=Paired RelV
theorem Vals.length (r:Vals xs us):xs.length=us.length:=Paired.length r
theorem Vals.get:∀ {xs:Gq} {us:Gi} {i:Nat} {x:V},Vals xs us->xs[i]?=some x->∃ u,us[i]?=some u/\RelV x u
 |_,_,_,_,.nil,e=>by simp at e
 |_,_,0,_,.cons r _,e=>by simp at e;subst e;exact ⟨_,rfl,r⟩
 |_,_,i+1,x,.cons _ t,e=>by
  obtain ⟨u,h1,h2⟩:=Vals.get (i:=i) (x:=x) t (by simpa using e);exact ⟨u,by simpa using h1,h2⟩
theorem Vals.set (r:RelV x u):∀ {xs:Gq} {us:Gi} (i:Nat),Vals xs us->Vals (xs.set i x) (us.set i u)
 |_,_,_,.nil=>.nil
 |_,_,0,.cons _ t=>.cons r t
 |_,_,i+1,.cons q t=>.cons q (Vals.set r i t)
theorem Vals.append:∀ {xs ys:Gq} {us ws:Gi},Vals xs us->Vals ys ws->Vals (xs++ys) (us++ws)
 |_,_,_,_,.nil,s=>s
 |_,_,_,_,.cons r t,s=>.cons r (Vals.append t s)
theorem Vals.take:∀ {xs:Gq} {us:Gi} (n:Nat),Vals xs us->Vals (xs.take n) (us.take n)
 |_,_,0,_=>.nil
 |_,_,_+1,.nil=>.nil
 |_,_,n+1,.cons r t=>.cons r (Vals.take n t)
theorem Vals.drop:∀ {xs:Gq} {us:Gi} (n:Nat),Vals xs us->Vals (xs.drop n) (us.drop n)
 |_,_,0,r=>r
 |_,_,_+1,.nil=>.nil
 |_,_,n+1,.cons _ t=>Vals.drop n t
def RelO:Gr->Option Gk->Prop
 |some v,some u=>RelV v u
 |none,none=>True
 |_,_=>False
def KV {κ:Type}:List (κ×V)->List (κ×Gk)->Prop:=Paired λ(p:κ×V) (q:κ×Gk)=>p.1=q.1/\RelV p.2 q.2
def kV:Key->V
 |.inl i=>.int i
 |.inr x=>.str x
inductive HO where
 |lst (xs:Gq)
 |tup (xs:Gq)
 |dK (kvs:Gp)|dT (kvs:List (List Key×V))
 |set (S:Int->Bool) (n:Nat)
 |ins (C dx:Gj) (fs:Gn)
 |own (x:Gj)
 |xd (fs:Gn)
 |met (f x:Gj)
 |rng (lo hi:Int)
 |frz (o:Obj) (u:HO)
 |tbl (ps:Array Gk)
 |ext (φ:Heap->Prop)
abbrev Hp:=Gj->Option HO
def upd (H:Hp)(a:Gj)(o:HO):Hp:=λb=>if b=a then some o else H b
theorem aD :upd H a o a=some o:=by unfold upd;rw [if_pos rfl]
theorem aJ (h:b≠a):upd H a o b=H b:=by unfold upd;rw [if_neg h]
theorem aK4 {H:Hp}{a b:Gj}{o u:HO}(h:H a=some o)(h':H b=some u)(d:o≠u):a≠b:=by
 intro e;subst e;rw [h] at h';exact d (AA h')
theorem aW {H:Hp}{a b:Gj}{o:HO}(h:H a=some o)(h':H b=none):a≠b:=by
 intro e;subst e;rw [h] at h';cases h'
def NoD (h:Heap)(a:Gj):Prop:=∃ o,h.get? a=some o/\o.dict=none
theorem NoD.at (n:NoD h a)(e:h.get? a=some o):o.dict=none:=by
 obtain ⟨u,e1,e2⟩:=n;rw [e] at e1;cases e1;exact e2
section
variable (P:Aw)(w:World)
def ObjOk (H:Hp)(h:Heap)(a:Gj):HO->Prop
 |.lst xs=>xs.length<=Av/\∃ (its:Gi) (n:Nat),Vals xs its/\h.get? a=some { cls:=.type "list",data:=.seq its.toArray n }
 |.tup xs=>(xs.length<=Av/\NoD h a)/\∃ its:Gi,Vals xs its/\IsTup h a its.toArray
 |.dK kvs=>kvs.length<=Av/\(a==DM)=false/\∃ vs,KV kvs vs/\h.DictOf (bB P w) a vs
 |.dT kvs=>kvs.length<=Av/\(a==DM)=false/\∃ xs:List (List Key×Gj×Gk),
   Paired (λ(p:List Key×V) (q:List Key×Gj×Gk)=>p.1=q.1/\H q.2.1=some (.tup (p.1.map kV))/\RelV p.2 q.2.2) kvs xs /\
   ∃ o es ep,h.get? a=some o/\o.ExactDict/\o.data=.dict es ep/\es.toList=xs.map (entryOfKey (tupleKind (bB P w)))/\(xs.map (·.1)).Nodup
 |.set S n=>h.SetOf (intKind P w) a S n
 |.ins C dx fs=>H dx=some (.own a)/\fs.length<=1000/\dx≠a/\h.get? a=some (Dz C dx) /\
   ∃ mA,h.Ns1 dx mA/\(∀ f,RelO (fs.lookup f) (mA f))/\PySem.Within mA (fs.map (·.1))
 |.own _=>∃ o,h.get? a=some o
 |.xd fs=>∃ mA,h.Ns1 a mA/\∀ f,RelO (fs.lookup f) (mA f)
 |.rng lo hi=>∃ t u v,h.get? a=some { cls:=.type "range",data:=.fields #[.int lo t,.int hi u,.int 1 v] }
 |.frz o u=>h.get? a=some o/\ObjOk H h a u
 |.tbl ps=>h.get? a=some { cls:=.none,data:=.fields ps }
 |.met f x=>h.get? a=some (PySem.W.methodObj (.ref f) (.ref x))
 |.ext φ=>φ h/\(∃ o,h.get? a=some o)/\∀ h1 h2:Heap,φ h1->(∀ o,h1.get? a=some o->h2.get? a=some o)->φ h2
def HOk (H:Hp)(h:Heap):Prop:=∀ a o,H a=some o->ObjOk P w H h a o
end
section
variable {P:Aw}{w:World}{H H':Hp}{h h':Heap}{a:Gj}{o:HO}
theorem ObjOk.lt (x:ObjOk P w H h a o):a<h.objs.size:=by
 cases o with
 |lst xs=>obtain ⟨_,_,_,_,e⟩:=x;exact Ar e
 |tup xs=>obtain ⟨_,_,_,p⟩:=x;exact p.lt
 |dK kvs=>obtain ⟨_,_,_,_,o,_,_,e,_⟩:=x;exact Ar e
 |dT kvs=>obtain ⟨_,_,_,_,o,_,_,e,_⟩:=x;exact Ar e
 |set S n=>obtain ⟨o,_,_,_,e,_⟩:=x;exact Ar e
 |ins C dx fs=>obtain ⟨_,_,_,e,_⟩:=x;exact Ar e
 |own y=>obtain ⟨_,e⟩:=x;exact Ar e
 |xd fs=>obtain ⟨_,⟨_,_,_,e,_⟩,_⟩:=x;exact Ar e
 |rng lo hi=>obtain ⟨_,_,_,e⟩:=x;exact Ar e
 |frz ob u=>obtain ⟨e,_⟩:=x;exact Ar e
 |tbl ps=>exact Ar (show h.get? a=some _ from x)
 |met f y=>exact Ar (show h.get? a=some _ from x)
 |ext φ=>obtain ⟨_,⟨_,e⟩,_⟩:=x;exact Ar e
theorem Paired.mapP {α β:Type}{F G:α->β->Prop}:∀ {l₁:List α} {l₂:List β},Paired F l₁ l₂->(∀ a b,F a b->G a b)->Paired G l₁ l₂
 |_,_,.nil,_=>.nil
 |_,_,.cons r t,f=>.cons (f _ _ r) (Paired.mapP t f)
def ObjOk.stay (x:ObjOk P w H h a o)(k:∀ b u,(b=a\/H b=some (.own a))->h.get? b=some u->h'.get? b=some u)
  (ho:∀ b,H b=some (.own a)->H' b=some (.own a)) (ht:∀ b xs,H b=some (.tup xs)->H' b=some (.tup xs)):ObjOk P w H' h' a o:=by
 induction o with
 |lst xs=>obtain ⟨z,its,n,r,e⟩:=x;exact ⟨z,its,n,r,k _ _ (.inl rfl) e⟩
 |tup xs=>obtain ⟨⟨z,o1,e1,d1⟩,its,r,ob,e,c⟩:=x;exact ⟨⟨z,o1,k _ _ (.inl rfl) e1,d1⟩,its,r,ob,k _ _ (.inl rfl) e,c⟩
 |dK kvs=>obtain ⟨z,y,vs,r,ob,es,ep,e,c⟩:=x;exact ⟨z,y,vs,r,ob,es,ep,k _ _ (.inl rfl) e,c⟩
 |dT kvs=>
  obtain ⟨z,y,xs,r,ob,es,ep,e,c⟩:=x;exact ⟨z,y,xs,Paired.mapP r λp q z=>⟨z.1,ht _ _ z.2.1,z.2.2⟩,ob,es,ep,k _ _ (.inl rfl) e,c⟩
 |set S n=>obtain ⟨ob,es,ep,t,e,c⟩:=x;exact ⟨ob,es,ep,t,k _ _ (.inl rfl) e,c⟩
 |ins C dx fs=>
  obtain ⟨d,z,ne,e,mA,⟨od,es,ep,e2,c⟩,r⟩:=x;exact ⟨ho _ d,z,ne,k _ _ (.inl rfl) e,mA,⟨od,es,ep,k _ _ (.inr d) e2,c⟩,r⟩
 |own y=>obtain ⟨ob,e⟩:=x;exact ⟨ob,k _ _ (.inl rfl) e⟩
 |xd fs=>obtain ⟨mA,⟨od,es,ep,e,c⟩,r⟩:=x;exact ⟨mA,⟨od,es,ep,k _ _ (.inl rfl) e,c⟩,r⟩
 |rng lo hi=>obtain ⟨t,u,v,e⟩:=x;exact ⟨t,u,v,k _ _ (.inl rfl) e⟩
 |frz ob u ih=>obtain ⟨e,q⟩:=x;exact ⟨k _ _ (.inl rfl) e,ih q⟩
 |tbl ps=>
  have e:h.get? a=some { cls:=.none,data:=.fields ps }:=x;show h'.get? a=some { cls:=.none,data:=.fields ps };exact k a _ (.inl rfl) e
 |met f y=>
  have e:h.get? a=some (PySem.W.methodObj (.ref f) (.ref y)):=x;show h'.get? a=some (PySem.W.methodObj (.ref f) (.ref y));exact k a _ (.inl rfl) e
 |ext φ=>obtain ⟨p,⟨o,e⟩,st⟩:=x;exact ⟨st _ _ p λo q=>k _ _ (.inl rfl) q,⟨o,k _ _ (.inl rfl) e⟩,st⟩
theorem HOk.lt (x:HOk P w H h)(e:H a=some o):a<h.objs.size:=(x a o e).lt
theorem HOk.fresh (x:HOk P w H h)(e:h.objs.size<=a):H a=none:=by
 cases q:H a with
 |none=>rfl
 |some u=>exact absurd (AZ (x.lt q) e) (CN _)
def HOk.kept (x:HOk P w H h)(k:∀ b u,h.get? b=some u->h'.get? b=some u):HOk P w H h':=λa o e=>
 (x a o e).stay (λb u _ q=>k b u q) (λ_ q=>q) λ_ _ q=>q
theorem HOk.laid (x:HOk P w H h)(k:∀ b u,h.get? b=some u->h'.get? b=some u)(hp:h.objs.size<=a)(new:ObjOk P w (upd H a o) h' a o):HOk P w (upd H a o) h':=λb u e=>by
 have hn:=x.fresh hp
 by_cases hb:b=a
 ·subst hb;rw [aD] at e;cases e;exact new
 ·rw [aJ hb] at e
  exact (x b u e).stay (λc v _ q=>k c v q) (λc q=>by rw [aJ (aW q hn)];exact q) λc xs q=>by rw [aJ (aW q hn)];exact q
end
def Rd (H:Hp)(a:Gj)(u:HO):Prop:=H a=some u\/∃ o,H a=some (.frz o u)
def Rd.ok {w:World}(r:Rd H a u)(x:HOk P w H h):ObjOk P w H h a u:=by
 rcases r with r|⟨o,r⟩
 ·exact x a u r
 ·obtain ⟨_,q⟩:=x a _ r
  exact q
def Mut:Option HO->Prop
 |some (.lst _)=>True
 |some (.dK _)=>True
 |some (.dT _)=>True
 |some (.set _ _)=>True
 |some (.ins _ _ _)=>True
 |some (.ext _)=>True
 |_=>False
section
variable {P:Aw}{w:World}{H:Hp}{h h':Heap}{x e:Gj}{o':HO}
def HOk.write (ok:HOk P w H h)(mu:Mut (H x))(he:e=x\/H e=some (.own x))(k:∀ b u,b≠e->h.get? b=some u->h'.get? b=some u)(heo:∃ u,h'.get? e=some u)
  (new:ObjOk P w (upd H x o') h' x o'):HOk P w (upd H x o') h':=λb u q=>by
 have nown:∀ c y,H c=some (.own y)->c≠x:=λc y r z=>by subst z;rw [r] at mu;exact mu
 have ntup:∀ c xs,H c=some (.tup xs)->c≠x:=λc xs r z=>by subst z;rw [r] at mu;exact mu
 by_cases hb:b=x
 ·subst hb;rw [aD] at q;cases q;exact new
 ·rw [aJ hb] at q
  by_cases hbe:b=e
  ·have q':H b=some (.own x):=by
    rcases he with z|z
    ·exact absurd (hbe.trans z) hb
    ·rw [hbe];exact z
   rw [q] at q';cases q';obtain ⟨v,hv⟩:=heo;exact ⟨v,by rw [hbe];exact hv⟩
  ·refine (ok b u q).stay (λc v hc r=>k c v ?_ r) (λc r=>by rw [aJ (nown c b r)];exact r) λc xs r=>by rw [aJ (ntup c xs r)];exact r
   rcases hc with rfl|hc
   ·exact hbe
   ·rintro rfl
    rcases he with z|z
    ·exact nown c b hc z
    ·rw [hc] at z;cases z;exact hb rfl
end
structure Un (fs ex:List Gj)(H H':Hp)(h h':Heap):Prop where
 keep:∀ b o,h.get? b=some o->H b=none->b∉fs->b∉ex->h'.get? b=some o
 slot:∀ b o,h.get? b=some o->H b=none->b∈fs->b∉ex->∃ sl,h'.get? b=some { o with slots:=sl }
 free:∀ b o,h.get? b=some o->H b=none->b∉ex->H' b=none
 there:∀ b o,h.get? b=some o->b∉ex->∃ o',h'.get? b=some o'
 tups:∀ b xs,H b=some (.tup xs)->H' b=some (.tup xs)
 frzs:∀ b o u,H b=some (.frz o u)->H' b=some (.frz o u)
 tbls:∀ b ps,H b=some (.tbl ps)->∃ more,H' b=some (.tbl (ps++more))
section
variable {fs fs' ex ex':List Gj}{H H1 H2:Hp}{h h1 h2 h':Heap}{a x e:Gj}{o:HO}
theorem Un.any (u:Un fs ex H H1 h h1)(q:h.get? b=some ob)(n:H b=none)(hx:b∉ex):∃ sl,h1.get? b=some { ob with slots:=sl }:=by
 by_cases hb:b∈fs
 ·exact u.slot b ob q n hb hx
 ·exact ⟨ob.slots,u.keep b ob q n hb hx⟩
def Un.kept (k:∀ b u,h.get? b=some u->h'.get? b=some u):Un fs ex H H h h':=
 ⟨λb ob q _ _ _=>k b ob q,λb ob q _ _ _=>⟨ob.slots,k b ob q⟩,λ_ _ _ n _=>n,λb ob q _=>⟨ob,k b ob q⟩,λ_ _ q=>q,λ_ _ _ q=>q,λ_ ps q=>⟨#[],by rw [q];simp⟩⟩
def Un.refl:Un fs ex H H h h:=Un.kept λ_ _ q=>q
theorem Un.laid (k:∀ b u,h.get? b=some u->h'.get? b=some u)(hp:h.objs.size<=a)(hn:H a=none):Un fs ex H (upd H a o) h h' where
 keep:=λb u q _ _ _=>k b u q
 slot:=λb u q _ _ _=>⟨u.slots,k b u q⟩
 free:=λb u q n _=>by rw [aJ (Au (AZ (Ar q) hp))];exact n
 there:=λb u q _=>⟨u,k b u q⟩
 tups:=λb xs q=>by rw [aJ (aW q hn)];exact q
 frzs:=λb u xs q=>by rw [aJ (aW q hn)];exact q
 tbls:=λb ps q=>⟨#[],by rw [aJ (aW q hn),q];simp⟩
def Un.write (mu:Mut (H x))(he:e=x\/H e=some (.own x))(k:∀ b u,b≠e->h.get? b=some u->h'.get? b=some u)(heo:∃ u,h'.get? e=some u):Un fs ex H (upd H x o) h h':=by
 have hx:∀ b,H b=none->b≠x:=λb n z=>by subst z;rw [n] at mu;exact mu
 have hb:∀ b,H b=none->b≠e:=λb n z=>by
  subst z
  rcases he with r|r
  ·exact hx b n r
  ·rw [n] at r;cases r
 have hm:∀ b u,H b=some u->¬ Mut (some u)->b≠x:=λb u q nm z=>by subst z;rw [q] at mu;exact nm mu
 refine ⟨λb u q n _ _=>k b u (hb b n) q,λb u q n _ _=>⟨u.slots,k b u (hb b n) q⟩,λb u q n _=>by rw [aJ (hx b n)];exact n,λb u q _=>?_,
  λb xs q=>by rw [aJ (hm b _ q λz=>z)];exact q,λb u xs q=>by rw [aJ (hm b _ q λz=>z)];exact q,λb ps q=>⟨#[],by rw [aJ (hm b _ q λz=>z),q];simp⟩⟩
 by_cases hbe:b=e
 ·subst hbe;exact heo
 ·exact ⟨u,k b u hbe q⟩
end
def trk (h:Heap)(H:Hp):List Gj:=(Bf h.objs.size).filter λa=>(H a).isSome
def hidT (h:Heap)(H:Hp):Heap:=PySem.W.hideAll h (trk h H)
def zV (h:Heap)(H:Hp):(hidT h H).objs.size=h.objs.size:=PySem.W.hideAll_size _ _
def aC1 (e:h.get? b=some o)(n:H b=none):(hidT h H).get? b=some o:=
 PySem.W.hideAll_get _ e λhm=>by
  have q:(H b).isSome=true:=(Ft.mp hm).2;rw [n] at q;simp at q
def aGl (e:(hidT h H).get? b=some o):h.get? b=some o/\H b=none:=by
 have e':h.get? b=some o:=PySem.W.of_hideAll (trk h H) e;refine ⟨e',?_⟩;cases q:H b with
 |none=>rfl
 |some x=>
  have hm:b∈trk h H:=Ft.mpr ⟨CL.mpr (Ar e'),by simp [q]⟩;have z:(hidT h H).get? b=none:=PySem.W.hideAll_none (trk h H) hm;rw [z] at e;cases e
def aHa (g h:Heap)(L:Gj):Ge:=(Bf h.objs.size).filterMap λa=>if a=L\/(g.get? a).isSome=true then none else (h.get? a).map λo=>(a,o)
def rest (g h:Heap)(L d:Gj):Ge:=(aHa g h L).filter λp=>decide (p.1≠d)
structure Mod (K:Ab)(mg:Gb)(base:Heap):Prop where
 kin:K.In base
 glob:base.Ns AF mg
 blt:∃ mb,base.Ns builtinsNs mb/\∀ x:Str,x ≠ "__name__" -> mb x=Cr x
 nolimit:base.NoLimit
structure Cx where
 prog:Aw
 w:World
 K:Ab
 mg:Gb
 base:Heap
 A:Around
 N:Gh
 s₀:Gm
 H₀:Hp
 env:Env
 outer:List Env
 stack:List Env
 ex:List Gj
 fn:Str->Bool
 calm:Bool
 pn:Ge
 xe:Ga
def frs (l:List Env):List Gj:=l.filterMap (·.frame)
abbrev Cx.fs (X:Cx):List Gj:=frs X.outer
def Vis (sc:Scope)(x:Str):Prop:=sc.names.lookup x=some .local\/sc.names.lookup x=some .cell\/sc.names.lookup x=some .free
def Loc (sc:Scope)(x:Str):Prop:=sc.names.lookup x=some .local\/sc.names.lookup x=some .cell
def Look (env:Env)(h:Heap)(m:Gb)(x:Str)(u:Gk):Prop:=
 (env.kindOf x=some .local/\m x=some u)\/((env.kindOf x=some .cell\/env.kindOf x=some .free)/\∃ c,env.cells.lookup x=some c/\h.IsCell c (some u))
structure Cx.Ok (X:Cx):Prop where
 mod:Mod X.K X.mg X.base
 kind:X.env.scope.kind=.function
 glob:X.env.globals=AF
 blt:X.env.builtins=builtinsNs
 above:X.s₀.heap.objs.size<=X.env.locals
 inj:∀ x y c,X.env.cells.lookup x=some c->X.env.cells.lookup y=some c->x=y
 has:∀ x,(X.env.kindOf x=some .cell\/X.env.kindOf x=some .free)->∃ c,X.env.cells.lookup x=some c
 cab:∀ x c,X.fn x=true->X.env.cells.lookup x=some c->X.s₀.heap.objs.size<=c
 hd:X.calm=true->X.A.handled=none
 frames:X.A.frames=some X.stack
 stk:X.stack=X.outer\/(X.stack=X.env::X.outer/\X.env.frame=some X.env.locals)
 exf:∀ b∈X.ex,b≠X.env.locals/\∀ x c,X.env.cells.lookup x=some c->c≠b
 bs:∀ b o,X.base.get? b=some o->X.s₀.heap.get? b=some o/\X.H₀ b=none
 bsz:X.base.objs.size<=X.s₀.heap.objs.size
 noex:∀ b o,X.base.get? b=some o->b∉X.ex
 exfs:∀ b∈X.ex,b∉X.fs
 funs:X.s₀.heap.FunFrames X.base X.outer
 frf:∀ b∈X.fs,X.H₀ b=none
structure Inv (X:Cx)(Z:Ge)(σ:List (Gr))(H:Hp)(s:Gm):Prop where
 ok:X.Ok
 os:s.os=X.s₀.os
 bare:AllBare s.gens
 base:Un X.fs X.ex X.H₀ H X.s₀.heap s.heap
 loc:∃ m,s.heap.Ns X.env.locals m/\∀ (i:Nat) (x:Str) (v:V),X.N[i]?=some x->σ[i]?=some (some v)->Vis X.env.scope x->∃ u,RelV v u/\Look X.env s.heap m x u
 cell:∀ x c,X.env.cells.lookup x=some c->∃ v,s.heap.IsCell c v
 free:H X.env.locals=none
 freeC:∀ x c,X.env.cells.lookup x=some c->H c=none
 pin:∀ p∈X.pn++Z,s.heap.get? p.1=some p.2/\H p.1=none/\p.1≠X.env.locals/\p.1∉X.fs/\∀ v,p.2.data≠.cell v
 hok:HOk X.prog X.w H s.heap
 len:σ.length=X.N.length
section
variable {X:Cx}{Z:Ge}{σ:List (Gr)}{H H':Hp}{s:Gm}{h':Heap}
def Cx.Ok.nofr (ok:X.Ok)(e:X.base.get? b=some o):b∉X.fs:=λhb=>by
 have:=(ok.funs.mem hb).1;rw [e] at this;cases this
def Inv.bs (I:Inv X Z σ H s):∀ b o,X.base.get? b=some o->s.heap.get? b=some o/\H b=none:=λb o e=>
 ⟨I.base.keep b o (I.ok.bs b o e).1 (I.ok.bs b o e).2 (I.ok.nofr e) (I.ok.noex b o e),I.base.free b o (I.ok.bs b o e).1 (I.ok.bs b o e).2 (I.ok.noex b o e)⟩
def Inv.bk (I:Inv X Z σ H s):∀ b o,X.base.get? b=some o->s.heap.get? b=some o:=λb o e=>(I.bs b o e).1
def Inv.mod (I:Inv X Z σ H s):Mod X.K X.mg X.base:=I.ok.mod
def Inv.kIn (I:Inv X Z σ H s):X.K.In s.heap:=I.ok.mod.kin.keeps I.bk
theorem Inv.fr (I:Inv X Z σ H s):∃ m,Fr X.base X.env.locals s.heap m:=
 let ⟨m,hn,_⟩:=I.loc
 ⟨m,hn,I.bk,Bj I.ok.bsz I.ok.above⟩
theorem Inv.lt (I:Inv X Z σ H s):X.env.locals<s.heap.objs.size:=let ⟨_,hn,_⟩:=I.loc;hn.lt
theorem Inv.sz (I:Inv X Z σ H s):X.s₀.heap.objs.size<=s.heap.objs.size:=Bj I.ok.above (Nat.le_of_lt I.lt)
def Inv.nofs (I:Inv X Z σ H s)(h:s.heap.objs.size<=a):a∉X.fs:=λhb=>by
 obtain ⟨_,o,ho,_⟩:=I.ok.funs.mem hb;exact absurd (AZ (Ar ho) (Bj I.sz h)) (CN _)
def Inv.cne (I:Inv X Z σ H s):∀ x c,X.env.cells.lookup x=some c->c≠X.env.locals:=λx c e z=>by
 obtain ⟨v,o,ho,hd⟩:=I.cell x c e;obtain ⟨m,⟨o',es,ep,ho',hd',_⟩,_⟩:=I.loc;rw [z,ho'] at ho;cases ho;rw [hd'] at hd;cases hd
def Inv.funs (I:Inv X Z σ H s):s.heap.FunFrames X.base X.outer:=by
 have all:∀ (l:List Env),(∀ b∈frs l,b∈X.fs)->X.s₀.heap.FunFrames X.base l->s.heap.FunFrames X.base l:=by
  intro l
  induction l with
  |nil=>intro _ _;trivial
  |cons env r ih=>
   intro hs hl;obtain ⟨hk,⟨L,o,hf,hn,ho,hd⟩,hr⟩:=hl;have hL:L∈X.fs:=hs L (by unfold frs;rw [Dh,hf];exact Al);obtain ⟨sl,e⟩:=I.base.slot L o ho (I.ok.frf L hL) hL λz=>I.ok.exfs L z hL;exact ⟨hk,⟨L,_,hf,hn,e,hd⟩,ih (λb hb=>hs b (by unfold frs;rw [Dh,hf];exact Ah _ hb)) hr⟩
 exact all X.outer (λ_ hb=>hb) I.ok.funs
def Inv.stack (I:Inv X Z σ H s):s.heap.FunFrames X.base X.stack:=by
 rcases I.ok.stk with e|⟨e,hf⟩
 ·rw [e];exact I.funs
 ·rw [e]
  obtain ⟨m,hn,_⟩:=I.loc;refine .cons (by rw [I.ok.kind];decide) hf hn ?_ I.funs;exact Heap.get?_none_of_le (Bj I.ok.bsz I.ok.above)
def Inv.stkSub (I:Inv X Z σ H s):∀ b∈frs X.stack,b∈X.env.locals::X.fs:=λb hb=>by
 rcases I.ok.stk with e|⟨e,hf⟩
 ·rw [e] at hb;exact Ah _ hb
 ·rw [e] at hb
  unfold frs at hb;rw [Dh,hf] at hb;exact hb
def Inv.stkFree (I:Inv X Z σ H s):∀ b∈frs X.stack,H b=none:=λb hb=>by
 rcases AB.mp (I.stkSub b hb) with e|hb
 ·rw [e];exact I.free
 ·obtain ⟨_,o,ho,_⟩:=I.ok.funs.mem hb
  exact I.base.free b o ho (I.ok.frf b hb) λz=>I.ok.exfs b z hb
def Inv.step {g':Array GenState}{t':Nat}{d':Drawn}{ch:List Gj}(I:Inv X Z σ H s)
  (hch:∀ b∈ch,(b∈X.ex\/X.s₀.heap.objs.size<=b)/\b≠X.env.locals/\(∀ x c,X.env.cells.lookup x=some c->c≠b)/\∀ p∈X.pn++Z,p.1≠b)
  (keep:∀ b o,b≠X.env.locals->b∉X.fs->b∉ch->s.heap.get? b=some o->H b=none->h'.get? b=some o)
  (slot:∀ b o,b≠X.env.locals->b∈X.fs->b∉ch->s.heap.get? b=some o->H b=none->∃ sl,h'.get? b=some { o with slots:=sl }) (free:∀ b o,b∉ch->s.heap.get? b=some o->H b=none->H' b=none)
  (there:∀ b o,b∉ch->s.heap.get? b=some o->∃ o',h'.get? b=some o')
  (tups:∀ b xs,H b=some (.tup xs)->H' b=some (.tup xs)) (frzs:∀ b o u,H b=some (.frz o u)->H' b=some (.frz o u)) (tbls:∀ b ps,H b=some (.tbl ps)->∃ more,H' b=some (.tbl (ps++more)))
  (ns:∀ m,s.heap.Ns X.env.locals m->h'.Ns X.env.locals m) (hok:HOk X.prog X.w H' h') (hg:AllBare g') :
  Inv X Z σ H' { s with heap:=h',gens:=g',drawn:=d',toks:=t' }:=by
 have neL:∀ b o,X.s₀.heap.get? b=some o->b≠X.env.locals:=λb o e=>Au (AZ (Ar e) I.ok.above);have neC:∀ b o,X.s₀.heap.get? b=some o->b∉X.ex->b∉ch:=λb o e hx hb=>by
  rcases (hch b hb).1 with z|z
  ·exact hx z
  ·exact absurd (AZ (Ar e) z) (CN _)
 have cellK:∀ x c,X.env.cells.lookup x=some c->∀ v,s.heap.IsCell c v->h'.IsCell c v:=λx c e v ⟨o,ho,hd⟩=>by
  have nch:c∉ch:=λz=>(hch c z).2.2.1 x c e rfl
  by_cases hc:c∈X.fs
  ·obtain ⟨sl,q⟩:=slot c o (I.cne x c e) hc nch ho (I.freeC x c e)
   exact ⟨_,q,hd⟩
  ·exact ⟨o,keep c o (I.cne x c e) hc nch ho (I.freeC x c e),hd⟩
 refine ⟨I.ok,I.os,hg,⟨λb o e n hb hx=>?_,λb o e n hb hx=>?_,λb o e n hx=>?_,λb o e hx=>?_,λb xs e=>tups b xs (I.base.tups b xs e),λb o xs e=>frzs b o xs (I.base.frzs b o xs e),λb ps e=>?_⟩,?_,λx c e=>?_,?_,λx c e=>?_,λp hp=>?_,hok,I.len⟩
 ·exact keep b o (neL b o e) hb (neC b o e hx) (I.base.keep b o e n hb hx) (I.base.free b o e n hx)
 ·obtain ⟨sl,e1⟩:=I.base.slot b o e n hb hx
  obtain ⟨sl',e2⟩:=slot b _ (neL b o e) hb (neC b o e hx) e1 (I.base.free b o e n hx);exact ⟨sl',e2⟩
 ·obtain ⟨o',e1⟩:=I.base.there b o e hx
  exact free b o' (neC b o e hx) e1 (I.base.free b o e n hx)
 ·obtain ⟨o',e1⟩:=I.base.there b o e hx
  exact there b o' (neC b o e hx) e1
 ·obtain ⟨m1,e1⟩:=I.base.tbls b ps e
  obtain ⟨m2,e2⟩:=tbls b _ e1;exact ⟨m1++m2,by rw [e2,Array.append_assoc]⟩
 ·obtain ⟨m,hn,hl⟩:=I.loc
  refine ⟨m,ns m hn,λi x v e1 e2 e3=>?_⟩;obtain ⟨u,r,l⟩:=hl i x v e1 e2 e3;refine ⟨u,r,?_⟩
  rcases l with l|⟨k,c,e,z⟩
  ·exact .inl l
  ·exact .inr ⟨k,c,e,cellK x c e _ z⟩
 ·obtain ⟨v,z⟩:=I.cell x c e
  exact ⟨v,cellK x c e v z⟩
 ·obtain ⟨m,⟨o,_,_,ho,_⟩,_⟩:=I.loc
  exact free _ o (λz=>(hch _ z).2.1 rfl) ho I.free
 ·obtain ⟨v,o,ho,hd⟩:=I.cell x c e
  exact free c o (λz=>(hch c z).2.2.1 x c e rfl) ho (I.freeC x c e)
 ·obtain ⟨e,n,ne,nf,d⟩:=I.pin p hp
  have nch:p.1∉ch:=λz=>(hch p.1 z).2.2.2 p hp rfl;exact ⟨keep p.1 p.2 ne nf nch e n,free p.1 p.2 nch e n,ne,nf,d⟩
def Inv.un {t':Nat}(I:Inv X Z σ H s)(u:Un X.fs [] H H' s.heap h')(hok:HOk X.prog X.w H' h'):Inv X Z σ H' { s with heap:=h',toks:=t' }:=by
 obtain ⟨m,⟨o,es,ep,ho,r⟩,_⟩:=id I.loc;obtain ⟨sl,hL⟩:=u.any ho I.free (by simp);exact I.step (g':=s.gens) (d':=s.drawn) (ch:=[]) (λ_ z=>nomatch z) (λb o _ hb _ e n=>u.keep b o e n hb (by simp)) (λb o _ hb _ e n=>u.slot b o e n hb (by simp)) (λb o _ e n=>u.free b o e n (by simp)) (λb o _ e=>u.there b o e (by simp)) u.tups u.frzs u.tbls (λm' hm=>by
  obtain ⟨o',es',ep',ho',r'⟩:=hm;rw [ho] at ho';cases ho';exact ⟨_,es',ep',hL,r'⟩) hok I.bare
def Inv.call {g':Array GenState}{t':Nat}{d':Drawn}{ch:List Gj}(I:Inv X Z σ H s)(u:Un (frs X.stack) ch H H' s.heap h')(hok:HOk X.prog X.w H' h')(hg:AllBare g')
  (hch:∀ b∈ch,(b∈X.ex\/X.s₀.heap.objs.size<=b)/\b≠X.env.locals/\(∀ x c,X.env.cells.lookup x=some c->c≠b)/\∀ p∈X.pn++Z,p.1≠b) :
  Inv X Z σ H' { s with heap:=h',gens:=g',drawn:=d',toks:=t' }:=by
 obtain ⟨m,⟨o,es,ep,ho,r⟩,_⟩:=id I.loc;obtain ⟨sl,hL⟩:=u.any ho I.free λz=>(hch _ z).2.1 rfl;exact I.step (ch:=ch) hch (λb o hL hb hc e n=>u.keep b o e n (λz=>(AB.mp (I.stkSub b z)).elim hL hb) hc) (λb o _ _ hc e n=>u.any e n hc) (λb o hc e n=>u.free b o e n hc) (λb o hc e=>u.there b o e hc) u.tups u.frzs u.tbls (λm' hm=>by
  obtain ⟨o',es',ep',ho',r'⟩:=hm;rw [ho] at ho';cases ho';exact ⟨_,es',ep',hL,r'⟩) hok hg
def Inv.turned {t':Nat}{it:Gj}(I:Inv X Z σ H s)(k:∀ b o,b≠it->s.heap.get? b=some o->h'.get? b=some o)(hn:H it=none)(hL:it≠X.env.locals)
  (h1:it∈X.ex\/X.s₀.heap.objs.size<=it) (h2:∀ x c,X.env.cells.lookup x=some c->c≠it) (h3:∀ p∈X.pn++Z,p.1≠it):Inv X Z σ H { s with heap:=h',toks:=t' }:=by
 have nit:∀ b u,H b=some u->b≠it:=λb u e z=>by rw [z,hn] at e;cases e
 refine I.step (g':=s.gens) (d':=s.drawn) (ch:=[it]) (λb hb=>?_) (λb o _ _ hc e _=>k b o (λz=>hc (by simp [z])) e) (λb o _ _ hc e _=>⟨o.slots,k b o (λz=>hc (by simp [z])) e⟩) (λ_ _ _ _ n=>n)
  (λb o hc e=>⟨o,k b o (λz=>hc (by simp [z])) e⟩) (λ_ _ e=>e) (λ_ _ _ e=>e) (λb ps e=>⟨#[],by rw [e];simp⟩) (λm hm=>?_) (λb u e=>?_) I.bare
 ·have e:b=it:=by simpa using hb
  subst e;exact ⟨h1,hL,h2,h3⟩
 ·obtain ⟨o,es,ep,ho,r⟩:=hm
  exact ⟨o,es,ep,k _ o (Bi hL) ho,r⟩
 ·refine (I.hok b u e).stay (λc v hc q=>k c v ?_ q) (λ_ q=>q) λ_ _ q=>q
  rcases hc with z|z
  ·rw [z];exact nit b u e
  ·exact nit c _ z
def Inv.tok (I:Inv X Z σ H s)(t:Nat):Inv X Z σ H { s with toks:=t }:=I.un (h':=s.heap) (t':=t) Un.refl I.hok
def Inv.kept {t':Nat}(I:Inv X Z σ H s)(k:∀ b u,s.heap.get? b=some u->h'.get? b=some u):Inv X Z σ H { s with heap:=h',toks:=t' }:=I.un (Un.kept k) (I.hok.kept k)
theorem Inv.laid {t':Nat}(I:Inv X Z σ H s)(k:∀ b u,s.heap.get? b=some u->h'.get? b=some u)(hp:s.heap.objs.size<=a)(new:ObjOk X.prog X.w (upd H a o) h' a o) :
  Inv X Z σ (upd H a o) { s with heap:=h',toks:=t' }:=I.un (Un.laid k hp (I.hok.fresh hp)) (I.hok.laid k hp new)
def Inv.write {t':Nat}(I:Inv X Z σ H s)(mu:Mut (H x))(he:e=x\/H e=some (.own x))(k:∀ b u,b≠e->s.heap.get? b=some u->h'.get? b=some u)(heo:∃ u,h'.get? e=some u)(new:ObjOk X.prog X.w (upd H x o) h' x o):Inv X Z σ (upd H x o) { s with heap:=h',toks:=t' }:=I.un (Un.write mu he k heo) (I.hok.write mu he k heo new)
def Inv.weak {σ':List (Gr)}(I:Inv X Z σ H s)(hl:σ'.length=σ.length)(w:∀ (i:Nat) v,σ'[i]?=some (some v)->σ[i]?=some (some v)):Inv X Z σ' H s:=
 ⟨I.ok,I.os,I.bare,I.base,let ⟨m,hn,hl'⟩:=I.loc;⟨m,hn,λi x v e1 e2 e3=>hl' i x v e1 (w i v e2) e3⟩,I.cell,I.free,I.freeC,I.pin,I.hok,hl.trans I.len⟩
def Inv.pins_of (I:Inv X Z σ H s)(h:∀ p∈pins',s.heap.get? p.1=some p.2/\H p.1=none/\p.1≠X.env.locals/\p.1∉X.fs/\∀ v,p.2.data≠.cell v):Inv X pins' σ H s:=
 ⟨I.ok,I.os,I.bare,I.base,I.loc,I.cell,I.free,I.freeC,λp hp=>(Bm.mp hp).elim (λz=>I.pin p (List.mem_append_left _ z)) (h p),I.hok,I.len⟩
def tE {N:Gh}(hN:N.Nodup){i j:Nat}{x:Str}(a:N[i]?=some x)(b:N[j]?=some x):i=j:=by
 obtain ⟨h1,e1⟩:=Ac.mp a;obtain ⟨h2,e2⟩:=Ac.mp b;exact (List.getElem_inj hN).mp (e1.trans e2.symm)
def wH {M:Model}{A:Around}{E:Ga}{i:Nat}{x:Str}{v:V}{u:Gk}{Q:Unit->Gm->Prop}(I:Inv X Z σ H s)(hN:X.N.Nodup)(hi:X.N[i]?=some x)(hx:Loc X.env.scope x)(r:RelV v u)
  (h:∀ s',Inv X Z (σ.set i (some v)) H s'->(∃ a,Cv a s.heap s'.heap/\(a=X.env.locals\/X.env.cells.lookup x=some a))->Q () s') (hf:X.fn x=true\/X.env.scope.names.lookup x=some .local:=by first|exact .inl rfl|exact .inr rfl|assumption):wpAny M A (storeName X.env x u) Q E s:=by
 obtain ⟨m,hn,hl⟩:=id I.loc;have hcls:(X.env.scope.kind==.class||(X.env.scope.kind==.module&&X.env.locals != X.env.globals))=false:=by rw [I.ok.kind];rfl
 have hiσ:i<σ.length:=by rw [I.len];exact (Ac.mp hi).1
 have cne:=I.cne;have tracked:∀ {a:Gj} {h':Heap},(∃ o,s.heap.get? a=some o/\H a=none)->Cv a s.heap h'->HOk X.prog X.w H h':=λ{a h'} ha hs b ob e=>by
  obtain ⟨_,_,hfree⟩:=ha;refine (I.hok b ob e).stay (λc w' hc q=>(hs.2 c ?_).trans q) (λ_ q=>q) λ_ _ q=>q
  rintro rfl
  rcases hc with rfl|hc
  ·rw [hfree] at e;cases e
  ·rw [hfree] at hc;cases hc
 rcases hx with hk|hk
 ·refine wpAny_storeName_local hk hn (λh' hn' hs=>?_) hcls
  obtain ⟨oL,_,_,hoL,_⟩:=id hn;refine h _ ⟨I.ok,I.os,I.bare,⟨λb o e n hb hx=>?_,λb o e n hb hx=>?_,I.base.free,λb o e hx=>?_,I.base.tups,I.base.frzs,I.base.tbls⟩,⟨_,hn',λj y v' e1 e2 e3=>?_⟩,λy c e=>?_,I.free,I.freeC,λp hp=>?_,tracked ⟨oL,hoL,I.free⟩ hs,by simpa using I.len⟩ ⟨_,hs,.inl rfl⟩
  ·exact (hs.2 b (Au (AZ (Ar e) I.ok.above))).trans (I.base.keep b o e n hb hx)
  ·obtain ⟨sl,e1⟩:=I.base.slot b o e n hb hx
   exact ⟨sl,(hs.2 b (Au (AZ (Ar e) I.ok.above))).trans e1⟩
  ·obtain ⟨o',e1⟩:=I.base.there b o e hx
   exact ⟨o',(hs.2 b (Au (AZ (Ar e) I.ok.above))).trans e1⟩
  ·by_cases hj:j=i
   ·subst hj
    rw [hi] at e1;cases e1;rw [BH hiσ] at e2;cases e2;exact ⟨u,r,.inl ⟨hk,by simp⟩⟩
   ·rw [AU (Bi hj)] at e2
    obtain ⟨u',r',q⟩:=hl j y v' e1 e2 e3;refine ⟨u',r',?_⟩
    rcases q with ⟨k,e⟩|⟨k,c,e,z⟩
    ·refine .inl ⟨k,?_⟩
     have:y≠x:=λe=>hj (tE hN e1 (e▸hi));simp [this,e]
    ·exact .inr ⟨k,c,e,z.sameBut hs (cne y c e)⟩
  ·obtain ⟨w',z⟩:=I.cell y c e
   exact ⟨w',z.sameBut hs (cne y c e)⟩
  ·obtain ⟨e,n,ne,nf,d⟩:=I.pin p hp
   exact ⟨(hs.2 p.1 ne).trans e,n,ne,nf,d⟩
 ·have hfn:X.fn x=true:=by
   rcases hf with z|z
   ·exact z
   ·rw [z] at hk;cases hk
  obtain ⟨c,hc⟩:=I.ok.has x (.inl hk);obtain ⟨w',z⟩:=I.cell x c hc;refine wpAny_storeName_cell I.ok.kind hk hc z (λh' hc' hs=>?_);obtain ⟨oc,hoc,hocd⟩:=id z;refine h { s with heap:=h' } ⟨I.ok,I.os,I.bare,⟨λb o e n hb hx=>?_,λb o e n hb hx=>?_,I.base.free,λb o e hx=>?_,I.base.tups,I.base.frzs,I.base.tbls⟩,⟨m,hn.sameBut hs (Bi (cne x c hc)),λj y v' e1 e2 e3=>?_⟩,λy c' e=>?_,I.free,I.freeC,λp hp=>?_,tracked ⟨oc,hoc,I.freeC x c hc⟩ hs,by simpa using I.len⟩ ⟨c,hs,.inr hc⟩
  ·exact (hs.2 b (Au (AZ (Ar e) (I.ok.cab x c hfn hc)))).trans (I.base.keep b o e n hb hx)
  ·obtain ⟨sl,e1⟩:=I.base.slot b o e n hb hx
   exact ⟨sl,(hs.2 b (Au (AZ (Ar e) (I.ok.cab x c hfn hc)))).trans e1⟩
  ·obtain ⟨o',e1⟩:=I.base.there b o e hx
   exact ⟨o',(hs.2 b (Au (AZ (Ar e) (I.ok.cab x c hfn hc)))).trans e1⟩
  ·by_cases hj:j=i
   ·subst hj
    rw [hi] at e1;cases e1;rw [BH hiσ] at e2;cases e2;exact ⟨u,r,.inr ⟨.inl hk,c,hc,hc'⟩⟩
   ·rw [AU (Bi hj)] at e2
    obtain ⟨u',r',q⟩:=hl j y v' e1 e2 e3;refine ⟨u',r',?_⟩
    rcases q with q|⟨k,c',e,z'⟩
    ·exact .inl q
    ·refine .inr ⟨k,c',e,z'.sameBut hs ?_⟩
     rintro rfl
     exact hj (tE hN e1 (I.ok.inj _ _ _ e hc▸hi))
  ·by_cases hcc:c'=c
   ·subst hcc;exact ⟨_,hc'⟩
   ·obtain ⟨w2,z2⟩:=I.cell y c' e
    exact ⟨w2,z2.sameBut hs hcc⟩
  ·obtain ⟨e,n,ne,nf,d⟩:=I.pin p hp
   refine ⟨(hs.2 p.1 ?_).trans e,n,ne,nf,d⟩;intro q;rw [q,hoc] at e;have q':oc=p.2:=AA e;exact d w' (by rw [<- q'];exact hocd)
def iT {i:Nat}{Q:Unit->Gm->Prop}(I:Inv X Z σ H s)(hN:X.N.Nodup)(hi:X.N[i]?=some x)(hx:Loc X.env.scope x)(r:RelV v u)(h:∀ s',Inv X Z (σ.set i (some v)) H s'->Q () s')(hf:X.fn x=true\/X.env.scope.names.lookup x=some .local:=by first|exact .inl rfl|exact .inr rfl|assumption):wpAny M A (storeName X.env x u) Q E s:=
 wH I hN hi hx r (λs' I' _=>h s' I') hf
def Inv.call' (I:Inv X Z σ H s)(ho:s'.os=s.os)(u:Un (frs X.stack) ch H H' s.heap s'.heap)(hok:HOk X.prog X.w H' s'.heap)(hg:AllBare s'.gens)(hch:∀ b∈ch,(b∈X.ex\/X.s₀.heap.objs.size<=b)/\b≠X.env.locals/\(∀ x c,X.env.cells.lookup x=some c->c≠b)/\∀ p∈X.pn++Z,p.1≠b):Inv X Z σ H' s':=by
 obtain ⟨h',g',d',t',o'⟩:=s';have e:o'=s.os:=ho;subst e;exact I.call (g':=g') (t':=t') (d':=d') u hok hg hch
end
abbrev XK:=Gk->Option Gj->Hp->Prop
abbrev St:=List (Gr)
abbrev VK:=V->Hp->Prop
abbrev Gs:=St->Hp->Prop
abbrev TE:=St->Hp->VK->Prop
abbrev TT:=St->Hp->(Bool->Hp->Prop)->Prop
abbrev TA:=St->Hp->(Gq->Hp->Prop)->Prop
structure Ends where
 nx:Gs
 rt:VK
 bk:Gs:=λ_ _=>False
 ct:Gs:=λ_ _=>False
abbrev TS:=Ends->Gs
def EP (X:Cx)(Z:Ge)(σ:St)(Q:VK)(u:Gk)(s':Gm):Prop:=∃ v H',Inv X Z σ H' s'/\RelV v u/\Q v H'
def TP (X:Cx)(Z:Ge)(σ:St)(Q:Bool->Hp->Prop)(b:Bool)(s':Gm):Prop:=∃ H',Inv X Z σ H' s'/\Q b H'
def AP (X:Cx)(Z:Ge)(σ:St)(Q:Gq->Hp->Prop)(us:Gi)(s':Gm):Prop:=∃ vs H',Inv X Z σ H' s'/\Vals vs us/\Q vs H'
def SP (X:Cx)(Z:Ge)(D:Ends)(f:Flow)(s':Gm):Prop:=
 match f with
 |.next=>∃ σ' H',Inv X Z σ' H' s'/\D.nx σ' H'
 |.brk=>∃ σ' H',Inv X Z σ' H' s'/\D.bk σ' H'
 |.cont=>∃ σ' H',Inv X Z σ' H' s'/\D.ct σ' H'
 |.ret u=>∃ v σ' H',Inv X Z σ' H' s'/\RelV v u/\D.rt v H'
def PE (X:Cx)(e:Expr)(t:TE):Prop:=
 ∀ (Z:Ge) (s:Gm) (σ:St) (H:Hp) (Q:VK),Inv X Z σ H s->t σ H Q->wpAny (model X.prog X.w) X.A (eval e X.env) (EP X Z σ Q) X.xe s
def PT (X:Cx)(e:Expr)(t:TT):Prop:=
 ∀ (Z:Ge) (s:Gm) (σ:St) (H:Hp) (Q:Bool->Hp->Prop),Inv X Z σ H s->t σ H Q->wpAny (model X.prog X.w) X.A (isTrue e X.env (eval e X.env)) (TP X Z σ Q) X.xe s
def PW (X:Cx)(e:Expr)(t:TT):Prop:=
 ∀ (whole:Sem Gk) (Z:Ge) (s:Gm) (σ:St) (H:Hp) (Q:Bool->Hp->Prop),Inv X Z σ H s->t σ H Q->wpAny (model X.prog X.w) X.A (isTrue e X.env whole) (TP X Z σ Q) X.xe s
def PW.pt (h:PW X e t):PT X e t:=h _
def PA (X:Cx)(es:List Expr)(t:TA):Prop:=
 ∀ (pos:Pos) (Z:Ge) (s:Gm) (σ:St) (H:Hp) (Q:Gq->Hp->Prop),Inv X Z σ H s->t σ H Q->wpAny (model X.prog X.w) X.A (spliced (backTo pos (AR es X.env))) (AP X Z σ Q) X.xe s
def PS (X:Cx)(st:Stmt)(t:TS):Prop:=
 ∀ (Z:Ge) (s:Gm) (σ:St) (H:Hp) (D:Ends),Inv X Z σ H s->t D σ H->wpAny (model X.prog X.w) X.A (exec st X.env) (SP X Z D) X.xe s
def PSs (X:Cx)(st:List Stmt)(t:TS):Prop:=
 ∀ (Z:Ge) (s:Gm) (σ:St) (H:Hp) (D:Ends),Inv X Z σ H s->t D σ H->wpAny (model X.prog X.w) X.A (execs st X.env) (SP X Z D) X.xe s
def thn {α:Type}{t:Sem α}{Q Q':α->Gm->Prop}{M:Model}{A:Around}{E:Ga}{s:Gm}(h:wpAny M A t Q E s)(hQ:∀ a s,Q a s->Q' a s):wpAny M A t Q' E s:=Cy h hQ λ_ _ x=>x
section
variable {X:Cx}
def bin {a b:Expr}{ta tb:TE}(ha:PE X a ta)(hb:PE X b tb){Z:Ge}{s:Gm}{σ:St}{H:Hp}{R:V->V->Hp->Prop}(I:Inv X Z σ H s)(h:ta σ H λx H1=>tb σ H1 λy H2=>R x y H2)
  {α:Type} {Q:α->Gm->Prop} {f:Gk->Gk->Sem α}
  (hf:∀ v u s2 x y H2,Inv X Z σ H2 s2->RelV x v->RelV y u->R x y H2->wpAny (model X.prog X.w) X.A (f v u) Q X.xe s2) :
  wpAny (model X.prog X.w) X.A (eval a X.env) (λv s₁=>wpAny (model X.prog X.w) X.A (eval b X.env) (λu s₂=>wpAny (model X.prog X.w) X.A (f v u) Q X.xe s₂) X.xe s₁) X.xe s:=by
 refine thn (ha Z s σ H _ I h) λv s1 ⟨x,H1,I1,r1,q1⟩=>?_;refine thn (hb Z s1 σ H1 _ I1 q1) λu s2 ⟨y,H2,I2,r2,q2⟩=>?_;exact hf v u s2 x y H2 I2 r1 r2 q2
inductive RVar (i:Nat)(σ:St)(H:Hp)(Q:VK):Prop
 |mk (v:V) (e:σ[i]?=some (some v)) (h:Q v H)
def tVar (i:Nat):TE:=RVar i
def tC (v:V):TE:=λ_ H Q=>Q v H
def aD0 {i:Nat}(hN:X.N[i]?=some x)(hv:Vis X.env.scope x)(hd:(x==("__debug__":Str))=false:=by decide)(hcd:(x==("__classdict__":Str))=false:=by decide):PE X (.Name x pos) (tVar i):=by
 intro Z s σ H Q I h;obtain ⟨v,e,h⟩:=h;obtain ⟨m,hn,hl⟩:=I.loc;obtain ⟨u,r,l⟩:=hl i x v hN e hv;have fin:EP X Z σ Q u s:=⟨v,H,I,r,h⟩
 rcases l with ⟨hk,hm⟩|⟨hk,c,hc,hcell⟩
 ·exact wpAny_Name (wpAny_loadName_local I.ok.kind hk hn hm fin) hd
 ·rcases hk with hk|hk
  ·exact wpAny_Name (wpAny_loadName_cell I.ok.kind hk hc hcell fin) hd
  ·exact wpAny_Name (wpAny_loadName_free I.ok.kind hk hc hcell fin hcd) hd
def aH {i j pos}:PE X (.Constant (.int i) j pos) (tC (.int i)):=λ_ _ _ H _ I h=>wpAny_Constant_int ⟨.int i,H,I.tok _,⟨_,rfl⟩,h⟩
def kJ {b j pos}:PE X (.Constant (.bool b) j pos) (tC (.bl b)):=λ_ _ _ H _ I h=>Constant_bool ⟨.bl b,H,I,rfl,h⟩
def dI {j pos}:PE X (.Constant .none j pos) (tC .non):=λ_ _ _ H _ I h=>Constant_none ⟨.non,H,I,rfl,h⟩
def aR {x j pos}:PE X (.Constant (.str x) j pos) (tC (.str x)):=λ_ _ _ H _ I h=>Calls.Constant_str ⟨.str x,H,I.tok _,⟨_,rfl⟩,h⟩
def Gl (X:Cx)(x:Str):Prop:=X.env.kindOf x=some .globalImplicit
def iG {σ:St}{Q:Ga}(I:Inv X Z σ H s)(hg:Gl X x)(hm:X.mg x=some u)(h:Q u s)(hd:(x==("__debug__":Str))=false:=by decide):wpAny (model X.prog X.w) X.A (eval (.Name x pos) X.env) Q E s:=
 Calls.Name_function_global I.ok.kind hg (Calls.loadGlobal_global (by rw [I.ok.glob];exact I.mod.glob.keeps I.bk) hm h) hd
def fZ {σ:St}{Q:Ga}(I:Inv X Z σ H s)(hg:Gl X x)(hm:X.mg x=none)(hv:Cr x=some u)(h:Q u s)(hn:x ≠ "__name__":=by decide)(hd:(x==("__debug__":Str))=false:=by decide):wpAny (model X.prog X.w) X.A (eval (.Name x pos) X.env) Q E s:=by
 obtain ⟨mb,h1,h2⟩:=I.mod.blt;exact Calls.Name_function_global I.ok.kind hg (Calls.loadGlobal_builtin (by rw [I.ok.glob];exact I.mod.glob.keeps I.bk) hm (by rw [I.ok.blt];exact h1.keeps I.bk) ((h2 x hn).trans hv) h) hd
def eT (hg:Gl X x)(hm:X.mg x=some u)(r:RelV v u)(hd:(x==("__debug__":Str))=false:=by decide):PE X (.Name x pos) (tC v):=
 λ_ _ _ H _ I h=>iG I hg hm ⟨v,H,I,r,h⟩ hd
def gE (hg:Gl X x)(hm:X.mg x=none)(hv:Cr x=some u)(r:RelV v u)(hn:x ≠ "__name__":=by decide)(hd:(x==("__debug__":Str))=false:=by decide):PE X (.Name x pos) (tC v):=
 λ_ _ _ H _ I h=>fZ I hg hm hv ⟨v,H,I,r,h⟩ hn hd
def t2I (ta tb:TE)(k:Int->Int->Hp->Prop):Gs:=λσ H=>ta σ H λx H1=>tb σ H1 λy H2=>∃ i j,x=.int i/\y=.int j/\k i j H2
def tAdd (ta tb:TE):TE:=λσ H Q=>t2I ta tb (λi j H2=>Q (.int (i+j)) H2) σ H
def tSub (ta tb:TE):TE:=λσ H Q=>t2I ta tb (λi j H2=>Q (.int (i-j)) H2) σ H
def tMul (ta tb:TE):TE:=λσ H Q=>t2I ta tb (λi j H2=>(-(2^64)<i/\i<2^64)/\Q (.int (i*j)) H2) σ H
variable {a b:Expr}{ta tb:TE}{pos:Pos}
def PC (X:Cx)(op:CmpOp)(a b:Expr)(t:TE):Prop:=
 ∀ (Z:Ge) (s:Gm) (σ:St) (H:Hp) (Q:VK),Inv X Z σ H s->t σ H Q ->
  wpAny (model X.prog X.w) X.A (eval a X.env) (λv s₁=>wpAny (model X.prog X.w) X.A (eval b X.env) (λu s₂=>wpAny (model X.prog X.w) X.A (BW op v u) (EP X Z σ Q) X.xe s₂) X.xe s₁) X.xe s
def tCmp (p:Int->Int->Bool)(ta tb:TE):TE:=λσ H Q=>t2I ta tb (λi j H2=>Q (.bl (p i j)) H2) σ H
abbrev tLt:TE->TE->TE:=tCmp λi j=>decide (i<j)
abbrev tLe:TE->TE->TE:=tCmp λi j=>decide (i<=j)
abbrev tGt:TE->TE->TE:=tCmp λi j=>decide (j<i)
abbrev tGe:TE->TE->TE:=tCmp λi j=>decide (j<=i)
abbrev tEqI:TE->TE->TE:=tCmp λi j=>decide (i=j)
abbrev tNeI:TE->TE->TE:=tCmp λi j=>!decide (i=j)
def tIsN (ta:TE):TE:=λσ H Q=>ta σ H λx H1=>Q (.bl (decide (x=.non))) H1
def tNotN (ta:TE):TE:=λσ H Q=>ta σ H λx H1=>Q (.bl (!decide (x=.non))) H1
inductive RB (Q:Bool->Hp->Prop)(x:V)(H:Hp):Prop
 |mk (c:Bool) (e:x=.bl c) (h:Q c H)
def tB (t:TE):TT:=λσ H Q=>t σ H (RB Q)
def pt_cmp {op:CmpOp}{t:TE}(h:PC X op a b t)(h1:behindInMarks op b=false:=by first|exact nobehind _ (by decide) (by decide)|rfl):PT X (.Compare a [op] [b] pos) (tB t):=by
 intro Z s σ H Q I hw;refine wpAny_isTrue_Compare1 (thn (h Z s σ H _ I hw) λv s1 h1=>thn h1 λu s2 h2=>thn h2 λc s3 ⟨x,H1,I1,r1,q1⟩=>?_) h1;obtain ⟨d,rfl,q⟩:=q1;cases r1;exact DJ ⟨H1,I1,q⟩
def dX {e:Expr}{t:TE}(h:PE X e t)(he:∀ whole,isTrue e X.env whole=(do let v <- whole;standAt e.pos;holding [v] (truthy v)):=by intro _;rfl):PT X e (tB t):=by
 intro Z s σ H Q I hw;refine isTrue_plain (thn (h Z s σ H _ I hw) λv s1 ⟨x,H1,I1,r1,q1⟩=>?_) (he _);obtain ⟨d,rfl,q⟩:=q1;cases r1;exact DJ ⟨H1,I1,q⟩
variable {tA tB':TT}{rest:List Expr}
def tAnd (t u:TT):TT:=λσ H Q=>t σ H λc H1=>if c=true then u σ H1 Q else Q false H1
def tOr (t u:TT):TT:=λσ H Q=>t σ H λc H1=>if c=true then Q true H1 else u σ H1 Q
def tNot (t:TT):TT:=λσ H Q=>t σ H λc H1=>Q (!c) H1
def eQ (ha:PT X a tA):PW X (.BoolOp .And [a] pos) tA:=by
 intro wh Z s σ H Q I h;refine isTrue_and (thn (ha Z s σ H Q I h) λc s1 e=>?_);cases c with
 |true=>exact isTrue_and_nil e
 |false=>exact e
def jU (ha:PT X a tA):PW X (.BoolOp .Or [a] pos) tA:=by
 intro wh Z s σ H Q I h;refine isTrue_or (thn (ha Z s σ H Q I h) λc s1 e=>?_);cases c with
 |false=>exact isTrue_or_nil e
 |true=>exact e
def fH (ha:PT X a tA)(hb:PW X (.BoolOp .And (b::rest) pos) tB'):PW X (.BoolOp .And (a::b::rest) pos) (tAnd tA tB'):=by
 intro wh Z s σ H Q I h;refine isTrue_and (thn (ha Z s σ H _ I h) λc s1 ⟨H1,I1,q1⟩=>?_);cases c with
 |true=>exact hb wh Z s1 σ H1 Q I1 q1
 |false=>exact ⟨H1,I1,q1⟩
def mE (ha:PT X a tA)(hb:PW X (.BoolOp .Or (b::rest) pos) tB'):PW X (.BoolOp .Or (a::b::rest) pos) (tOr tA tB'):=by
 intro wh Z s σ H Q I h;refine isTrue_or (thn (ha Z s σ H _ I h) λc s1 ⟨H1,I1,q1⟩=>?_);cases c with
 |true=>exact ⟨H1,I1,q1⟩
 |false=>exact hb wh Z s1 σ H1 Q I1 q1
def eZ (ha:PT X a tA):PT X (.UnaryOp .Not a pos) (tNot tA):=by
 intro Z s σ H Q I h;exact isTrue_not (ha Z s σ H (λc H1=>Q (!c) H1) I h)
inductive RIf (x:V)(A B:Prop):Prop
 |mk (c:Bool) (e:x=.bl c) (h:if c=true then A else B)
def aKh (ta tb:TE):TE:=λσ H Q=>ta σ H λx H1=>RIf x (tb σ H1 Q) (Q (.bl false) H1)
def tOrV (ta tb:TE):TE:=λσ H Q=>ta σ H λx H1=>RIf x (Q (.bl true) H1) (tb σ H1 Q)
def aKb (ta:TE):TE:=λσ H Q=>ta σ H λx H1=>∃ c,x=.bl c/\Q (.bl (!c)) H1
def kA {op}(h:PE X a t):PE X (.BoolOp op [a] pos) t:=λZ s σ H Q I hw=>BoolOp_one (h Z s σ H Q I hw)
def lG (ha:PE X a ta)(hb:PE X (.BoolOp .And (b::rest) pos) tb):PE X (.BoolOp .And (a::b::rest) pos) (aKh ta tb):=by
 intro Z s σ H Q I h;refine BoolOp_and (thn (ha Z s σ H _ I h) λv s1 ⟨x,H1,I1,r1,q1⟩=>?_);obtain ⟨c,rfl,q1⟩:=q1;cases r1;refine DJ ?_;cases c with
 |true=>exact hb Z s1 σ H1 Q I1 q1
 |false=>exact ⟨.bl false,H1,I1,rfl,q1⟩
def aIs (ha:PE X a ta)(hb:PE X (.BoolOp .Or (b::rest) pos) tb):PE X (.BoolOp .Or (a::b::rest) pos) (tOrV ta tb):=by
 intro Z s σ H Q I h;refine BoolOp_or (thn (ha Z s σ H _ I h) λv s1 ⟨x,H1,I1,r1,q1⟩=>?_);obtain ⟨c,rfl,q1⟩:=q1;cases r1;refine DJ ?_;cases c with
 |false=>exact hb Z s1 σ H1 Q I1 q1
 |true=>exact ⟨.bl true,H1,I1,rfl,q1⟩
def aD1 (ha:PE X a ta):PE X (.UnaryOp .Not a pos) (aKb ta):=by
 intro Z s σ H Q I h;refine UnaryOp_ (thn (ha Z s σ H _ I h) λv s1 ⟨x,H1,I1,r1,q1⟩=>?_);obtain ⟨c,rfl,q1⟩:=q1;cases r1;exact not_of (DJ ⟨.bl (!c),H1,I1,rfl,q1⟩)
def tIf (t:TT)(ta tb:TE):TE:=λσ H Q=>t σ H λc H1=>if c=true then ta σ H1 Q else tb σ H1 Q
def sP {c:Expr}(hc:PT X c tA)(ha:PE X a ta)(hb:PE X b tb):PE X (.IfExp c a b pos) (tIf tA ta tb):=by
 intro Z s σ H Q I h;refine wpAny_IfExp (thn (hc Z s σ H _ I h) λd s1 ⟨H1,I1,q1⟩=>?_);cases d with
 |true=>exact ha Z s1 σ H1 Q I1 q1
 |false=>exact hb Z s1 σ H1 Q I1 q1
end
def SqL (K:Ab)(H:Hp)(a:Gj)(xs:Gq):Prop:=
 Rd H a (.lst xs) \/
  ∃ (o:Obj) (its:Array Gk) (n:Nat),K.lookup a=some o/\o.cls=.type "list" /\ o.dict=none/\o.data=.seq its n/\its.size<=Av/\Vals xs its.toList
def SqT (K:Ab)(H:Hp)(a:Gj)(xs:Gq):Prop:=
 Rd H a (.tup xs) \/
  ∃ (o:Obj) (its:Array Gk) (n:Nat),K.lookup a=some o/\o.cls=.type "tuple" /\ o.data=.seq its n/\its.size<=Av/\Vals xs its.toList
def absV:Gk->Gr
 |.none=>some .non
 |.bool b=>some (.bl b)
 |.int i _=>some (.int i)
 |.str x _=>some (.str x)
 |.bytes b _=>some (.byt b)
 |.float b _=>some (.flt b)
 |.ref a=>some (.ref a)
 |.type n=>some (.ty n)
 |_=>none
def RelV.abs (r:RelV x u):absV u=some x:=by
 cases x with
 |non=>cases r;rfl
 |bl _=>cases r;rfl
 |int _=>obtain ⟨t,rfl⟩:=r;rfl
 |str _=>obtain ⟨t,rfl⟩:=r;rfl
 |byt _=>obtain ⟨t,rfl⟩:=r;rfl
 |flt _=>obtain ⟨t,rfl⟩:=r;rfl
 |ref _=>cases r;rfl
 |ty _=>cases r;rfl
theorem RelV.inj (r:RelV x u)(q:RelV y u):x=y:=AA (r.abs.symm.trans q.abs)
theorem Vals.inj:∀ {xs ys:Gq} {us:Gi},Vals xs us->Vals ys us->xs=ys
 |_,_,_,.nil,.nil=>rfl
 |_,_,_,.cons r t,.cons r' t'=>by rw [r.inj r',Vals.inj t t']
section
variable {X:Cx}{Z:Ge}{σ:St}{H:Hp}{s:Gm}{a:Gj}{xs ys:Gq}
def SqL.of {K:Ab}(h:H a=some (.lst xs)):SqL K H a xs:=.inl (.inl h)
def Gw {K:Ab}(h:H a=some (.lst xs)):SqL K H a xs:=SqL.of h
def SqT.of {K:Ab}(h:H a=some (.tup xs)):SqT K H a xs:=.inl (.inl h)
def Gv {K:Ab}(h:H a=some (.tup xs)):SqT K H a xs:=SqT.of h
def Inv.list (I:Inv X Z σ H s)(h:SqL X.K H a xs):∃ its:Gi,Vals xs its/\PlainL s.heap a its.toArray/\xs.length<=Av:=by
 rcases h with h|⟨o,its,n,hk,hc,hd,hs,hz,r⟩
 ·obtain ⟨z,its,n,r,e⟩:=h.ok I.hok
  exact ⟨its,r,⟨_,n,e,rfl,rfl,rfl⟩,z⟩
 ·refine ⟨its.toList,r,⟨o,n,I.kIn a o hk,hc,hd,by simpa using hs⟩,?_⟩
  have e:=r.length;simp only [BL] at e;lia
def Inv.tuple (I:Inv X Z σ H s)(h:SqT X.K H a xs):∃ its:Gi,Vals xs its/\IsTup s.heap a its.toArray/\xs.length<=Av:=by
 rcases h with h|⟨o,its,n,hk,hc,hs,hz,r⟩
 ·obtain ⟨z,its,r,p⟩:=h.ok I.hok
  exact ⟨its,r,p,z.1⟩
 ·refine ⟨its.toList,r,⟨o,I.kIn a o hk,hc,n,by simpa using hs⟩,?_⟩
  have e:=r.length;simp only [BL] at e;lia
theorem Inv.list_inj (I:Inv X Z σ H s)(h:SqL X.K H a xs)(h':SqL X.K H a ys):xs=ys:=by
 obtain ⟨its,r,⟨o,n,e,_,_,d⟩,_⟩:=I.list h;obtain ⟨its',r',⟨o',n',e',_,_,d'⟩,_⟩:=I.list h';rw [e] at e';cases e';rw [d] at d';injection d' with d1 _;have:its=its':=by simpa using congrArg Array.toList d1
 subst this;exact r.inj r'
theorem Inv.tuple_inj (I:Inv X Z σ H s)(h:SqT X.K H a xs)(h':SqT X.K H a ys):xs=ys:=by
 obtain ⟨its,r,⟨o,e,_,n,d⟩,_⟩:=I.tuple h;obtain ⟨its',r',⟨o',e',_,n',d'⟩,_⟩:=I.tuple h';rw [e] at e';cases e';rw [d] at d';injection d' with d1 _;have:its=its':=by simpa using congrArg Array.toList d1
 subst this;exact r.inj r'
end
abbrev Cx.wish (X:Cx)(E:Ga):Cx:={ X with xe:=E }
abbrev Cx.nox (X:Cx):Cx:=X.wish λ_ _=>False
def Cx.Ok.wish {X:Cx}(ok:X.Ok)(E:Ga):(X.wish E).Ok:=
 ⟨ok.mod,ok.kind,ok.glob,ok.blt,ok.above,ok.inj,ok.has,ok.cab,ok.hd,ok.frames,ok.stk,ok.exf,ok.bs,ok.bsz,ok.noex,ok.exfs,ok.funs,ok.frf⟩
def Cx.Ok.unwish {X:Cx}{E:Ga}(ok:(X.wish E).Ok):X.Ok:=
 ⟨ok.mod,ok.kind,ok.glob,ok.blt,ok.above,ok.inj,ok.has,ok.cab,ok.hd,ok.frames,ok.stk,ok.exf,ok.bs,ok.bsz,ok.noex,ok.exfs,ok.funs,ok.frf⟩
section
variable {X:Cx}{Z:Ge}{σ:St}{H:Hp}{s:Gm}{E:Ga}
def Inv.wish (I:Inv X Z σ H s)(E:Ga):Inv (X.wish E) Z σ H s:=⟨I.ok.wish E,I.os,I.bare,I.base,I.loc,I.cell,I.free,I.freeC,I.pin,I.hok,I.len⟩
def Inv.unwish (I:Inv (X.wish E) Z σ H s):Inv X Z σ H s:=⟨I.ok.unwish,I.os,I.bare,I.base,I.loc,I.cell,I.free,I.freeC,I.pin,I.hok,I.len⟩
def SP.unwish (h:SP (X.wish E) Z D f s'):SP X Z D f s':=by
 cases f with
 |next=>obtain ⟨σ',H',I,q⟩:=h;exact ⟨σ',H',I.unwish,q⟩
 |brk=>obtain ⟨σ',H',I,q⟩:=h;exact ⟨σ',H',I.unwish,q⟩
 |cont=>obtain ⟨σ',H',I,q⟩:=h;exact ⟨σ',H',I.unwish,q⟩
 |ret u=>obtain ⟨v,σ',H',I,r,q⟩:=h;exact ⟨v,σ',H',I.unwish,r,q⟩
def PSs.nox {st:List Stmt}{t:TS}(h:PSs X.nox st t):PSs X st t:=λZ s σ H D I hw=>
 Cy (h Z s σ H D (I.wish _) hw) (λ_ _ q=>q.unwish) λ_ _ z=>Cj z
end
section
variable {X:Cx}{st:Stmt}{rest:List Stmt}{t u:TS}{e:Expr}{te:TE}{pos:Pos}
def aKc:TS:=λD σ H=>D.nx σ H
def tSeq (t u:TS):TS:=λD σ H=>t { D with nx:=u D } σ H
def aS:PSs X [] aKc:=λ_ _ σ H _ I h=>wpAny_execs_nil ⟨σ,H,I,h⟩
def aC (h1:PS X st t)(h2:PSs X rest u):PSs X (st::rest) (tSeq t u):=by
 intro Z s σ H D I h;refine wpAny_execs_cons (thn (h1 Z s σ H { D with nx:=u D } I h) λf s1 q=>?_);cases f with
 |next=>
  obtain ⟨σ',H',I',q⟩:=q;exact h2 Z s1 σ' H' D I' q
 |ret v=>exact q
 |brk=>exact q
 |cont=>exact q
def aE (h1:PS X st t):PSs X [st] t:=by
 intro Z s σ H D I h;refine wpAny_execs_cons (thn (h1 Z s σ H D I h) λf s1 q=>?_);cases f with
 |next=>exact wpAny_execs_nil q
 |ret v=>exact q
 |brk=>exact q
 |cont=>exact q
def tBreak:TS:=λD σ H=>D.bk σ H
def tCont:TS:=λD σ H=>D.ct σ H
def Inv.quiet {σ:St}(I:Inv X Z σ H s):interactive X.env=false:=by simp [interactive,I.ok.kind]
def aHr (te:TE):TS:=λD σ H=>te σ H λ_ H1=>D.nx σ H1
def cV (he:PE X e te)(hs:swapsWith e none pos.line X.env=pure false:=by rfl):PS X (.Expr e pos) (aHr te):=by
 intro Z s σ H D I h;exact wpAny_Expr_any (thn (he Z s σ H _ I h) λv s1 ⟨x,H1,I1,r1,q1⟩=>⟨σ,H1,I1,q1⟩) I.quiet hs
def tRet (te:TE):TS:=λD σ H=>te σ H D.rt
def aL (he:PE X e te):PS X (.Return (some e) pos) (tRet te):=by
 intro Z s σ H D I h;exact wpAny_Return_some (thn (he Z s σ H _ I h) λv s1 ⟨x,H1,I1,r1,q1⟩=>⟨x,σ,H1,I1,r1,q1⟩)
def tRetN:TS:=λD _ H=>D.rt .non H
def tIfS (c:TT)(t u:TS):TS:=λD σ H=>c σ H λb H1=>if b=true then t D σ H1 else u D σ H1
def bD {c:Expr}{a b:List Stmt}{tc:TT}(hc:PT X c tc)(ha:PSs X a t)(hb:PSs X b u):PS X (.If c a b pos) (tIfS tc t u):=by
 intro Z s σ H D I h;refine wpAny_If (thn (hc Z s σ H _ I h) λd s1 ⟨H1,I1,q1⟩=>?_);cases d with
 |true=>exact ha Z s1 σ H1 D I1 q1
 |false=>exact hb Z s1 σ H1 D I1 q1
def aHn:TS:=λ_ _ _=>False
def aB6:PS X st aHn:=λ_ _ _ _ _ _ h=>h.elim
end
abbrev TG:=V->St->Hp->(Gs)->Prop
abbrev TGs:=Gq->St->Hp->(Gs)->Prop
def PG (X:Cx)(target:Expr)(t:TG):Prop:=
 ∀ (Z:Ge) (s:Gm) (σ:St) (H:Hp) (v:V) (u:Gk) (Q:Gs),Inv X Z σ H s->RelV v u->t v σ H Q ->
  wpAny (model X.prog X.w) X.A (assign target X.env u) (λ_ s'=>∃ σ' H',Inv X Z σ' H' s'/\Q σ' H') X.xe s
def PGs (X:Cx)(ts:List Expr)(t:TGs):Prop:=
 ∀ (Z:Ge) (s:Gm) (σ:St) (H:Hp) (vs:Gq) (us:Gi) (Q:Gs),Inv X Z σ H s->Vals vs us->t vs σ H Q ->
  wpAny (model X.prog X.w) X.A (assignInOrder ((assignEach ts X.env).map (·.2)) us) (λ_ s'=>∃ σ' H',Inv X Z σ' H' s'/\Q σ' H') X.xe s
abbrev TSet:=V->V->V->Hp->(Hp->Prop)->Prop
def PSet (X:Cx)(t:TSet):Prop:=
 ∀ (Z:Ge) (s:Gm) (σ:St) (H:Hp) (o i v:V) (ov iv u:Gk) (Q:Hp->Prop),Inv X Z σ H s->RelV o ov->RelV i iv->RelV v u->t o i v H Q ->
  wpAny (model X.prog X.w) X.A (setItem ov iv u) (λ_ s'=>∃ H',Inv X Z σ H' s'/\Q H') X.xe s
abbrev TIp:=V->V->Hp->VK->Prop
def PIp (X:Cx)(op:Operator)(t:TIp):Prop:=
 ∀ (Z:Ge) (s:Gm) (σ:St) (H:Hp) (x y:V) (v u:Gk) (Q:VK),Inv X Z σ H s->RelV x v->RelV y u->t x y H Q ->
  wpAny (model X.prog X.w) X.A (inplaceOp op v u) (EP X Z σ Q) X.xe s
section
variable {X:Cx}{pos:Pos}
def gName (i:Nat):TG:=λv σ H Q=>Q (σ.set i (some v)) H
def gD {i:Nat}(hN:X.N.Nodup)(hi:X.N[i]?=some x)(hx:Loc X.env.scope x)(hf:X.fn x=true\/X.env.scope.names.lookup x=some .local:=by first|exact .inl rfl|exact .inr rfl|assumption):PG X (.Name x pos) (gName i):=by
 intro Z s σ H v u Q I r h;exact wpAny_assign_Name (iT I hN hi hx r (λs' I'=>⟨_,H,I',h⟩) hf)
def aQ {i:Nat}(hN:X.N.Nodup)(hi:X.N[i]?=some x:=by rfl)(hx:Loc X.env.scope x:=by first|exact .inl rfl|exact .inr rfl)(hf:X.fn x=true\/X.env.scope.names.lookup x=some .local:=by first|exact .inl rfl|exact .inr rfl|assumption):PG X (.Name x pos) (gName i):=gD hN hi hx hf
def gNil:TGs:=λvs σ H Q=>vs=[]/\Q σ H
inductive RGc (t:TG)(u:TGs)(vs:Gq)(σ:St)(H:Hp)(Q:Gs):Prop
 |mk (v:V) (r:Gq) (e:vs=v::r) (h:t v σ H λσ' H'=>u r σ' H' Q)
def qX (t:TG)(u:TGs):TGs:=RGc t u
def dY:PGs X [] gNil:=by
 intro Z s σ H vs us Q I r h;obtain ⟨e,h⟩:=h;subst e;cases r;exact assignInOrder_nil ⟨σ,H,I,h⟩
def bE {e:Expr}{es:List Expr}{t:TG}{u:TGs}(h1:PG X e t)(h2:PGs X es u)
  (hs:(assignEach (e::es) X.env).map (·.2)=assign e X.env::(assignEach es X.env).map (·.2):=by rfl):PGs X (e::es) (qX t u):=by
 intro Z s σ H vs us Q I r h;obtain ⟨v,vr,e1,h⟩:=h;subst e1;cases r with
 |cons r rr=>
  rw [hs];refine assignInOrder_cons (thn (h1 Z s σ H _ _ _ I r h) λ_ s1 ⟨σ1,H1,I1,q1⟩=>?_);exact h2 Z s1 σ1 H1 _ _ Q I1 rr q1
inductive RGt (K:Ab)(n:Nat)(t:TGs)(v:V)(σ:St)(H:Hp)(Q:Gs):Prop
 |mk (a:Gj) (xs:Gq) (e:v=.ref a) (q:SqT K H a xs) (l:xs.length=n) (h:t xs σ H Q)
def gTup (K:Ab)(n:Nat)(t:TGs):TG:=RGt K n t
def fM {k:Nat}{n:Nat}(hc:X.calm=true)(h:PGs X es t)(hn:(assignEach es X.env).length=n:=by rfl)(hst:(assignEach es X.env).findIdx? (·.1)=none:=by rfl):PG X (.Tuple es k pos) (gTup X.K n t):=by
 intro Z s σ H v u Q I r hw;obtain ⟨a,xs,e1,hq,hl,hw⟩:=hw;subst e1;cases r;obtain ⟨its,rv,ht,hz⟩:=I.tuple hq;refine assign_Tuple_tuple (I.ok.hd hc) ht (by simp [hn,<- hl,rv.length]) hst λh' hx=>?_;have I1:Inv X Z σ H { s with heap:=h' }:=I.kept (t':=s.toks) λb o e=>hx b o (Au (Ar e)) e;exact h Z _ σ H xs _ Q I1 (by simpa using rv) hw
def gSub (to ti:TE)(t:TSet):TG:=λv σ H Q=>to σ H λo H1=>ti σ H1 λi H2=>t o i v H2 λH3=>Q σ H3
def jZ {o i:Expr}{to ti:TE}{t:TSet}(ho:PE X o to)(hi:PE X i ti)(hs:PSet X t)
  (ha:∀ v,assign (.Subscript o i pos) X.env v=(do
   let ov <- holding [v] (eval o X.env)
   let iv <- holding [v,ov] (eval i X.env)
   standAt pos
   holding [v,ov,iv] (setItem ov iv v)
   release [v,ov,iv] []):=by intro _;rfl):PG X (.Subscript o i pos) (gSub to ti t):=by
 intro Z s σ H v u Q I r h;rw [ha];refine Aa (BD (thn (ho Z s σ H _ I h) λov s1 ⟨x,H1,I1,r1,q1⟩=>?_));refine Aa (BD (thn (hi Z s1 σ H1 _ I1 q1) λiv s2 ⟨y,H2,I2,r2,q2⟩=>?_));refine Aa (Fy (Aa (BD (thn (hs Z s2 σ H2 x y v ov iv u _ I2 r1 r2 r q2) λ_ s3 ⟨H3,I3,q3⟩=>?_))));exact wpAny_release ⟨σ,H3,I3,q3⟩
def tAsg (te:TE)(g:TG):TS:=λD σ H=>te σ H λx H1=>g x σ H1 D.nx
def fK {tg e:Expr}{te:TE}{g:TG}(he:PE X e te)(hg:PG X tg g)(hs:swapsWithSole [tg] e pos.line X.env=pure false:=by rfl)(hw:swappedStores [tg] e X.env=pure none:=by rfl)
  (h1:(assignEach [tg] X.env).map (·.2)=[assign tg X.env]:=by rfl):PS X (.Assign [tg] e pos) (tAsg te g):=by
 intro Z s σ H D I h;refine wpAny_Assign_stores (thn (he Z s σ H _ I h) λv s1 ⟨x,H1,I1,r1,q1⟩=>?_) hs hw;rw [h1];exact thn (hg Z s1 σ H1 x v _ I1 r1 q1) λ_ s2 q=>q
def aIo {i:Nat}{x:Str}{e:Expr}{te:TE}{pos':Pos}(hN:X.N.Nodup)(hi:X.N[i]?=some x)(hx:Loc X.env.scope x)(he:PE X e te)(hs:swapsWith e (some (.Name x pos')) pos.line X.env=pure false:=by rfl)(hf:X.fn x=true\/X.env.scope.names.lookup x=some .local:=by first|exact .inl rfl|exact .inr rfl|assumption) :
  PS X (.Assign [.Name x pos'] e pos) (tAsg te (gName i)):=by
 intro Z s σ H D I h;refine wpAny_Assign_Name (thn (he Z s σ H _ I h) λv s1 ⟨y,H1,I1,r1,q1⟩=>?_) hs;exact iT I1 hN hi hx r1 (λs2 I2=>⟨_,H1,I2,q1⟩) hf
def aK {i:Nat}(hN:X.N.Nodup)(he:PE X e te)(hi:X.N[i]?=some x:=by rfl)(hx:Loc X.env.scope x:=by first|exact .inl rfl|exact .inr rfl)(hs:swapsWith e (some (.Name x pos')) pos.line X.env=pure false:=by rfl)(hf:X.fn x=true\/X.env.scope.names.lookup x=some .local:=by first|exact .inl rfl|exact .inr rfl|assumption):PS X (.Assign [.Name x pos'] e pos) (tAsg te (gName i)):=aIo hN hi hx he hs hf
def tPar (i j:Nat)(ta:TA):TS:=λD σ H=>ta σ H λvs H1=>∃ v w,vs=[v,w]/\D.nx ((σ.set i (some v)).set j (some w)) H1
def aIp {i j:Nat}{x y:Str}{a b:Expr}{ta:TA}{px py pt:Pos}{kt k2 pt2}(hc:X.calm=true)(hN:X.N.Nodup)(hi:X.N[i]?=some x)(hj:X.N[j]?=some y)(hij:i≠j)
  (hx:X.env.scope.names.lookup x=some .local) (hy:X.env.scope.names.lookup y=some .local) (ha:PA X [a,b] ta)
  (hw:swappedStores [.Tuple [.Name x px,.Name y py] kt pt] (.Tuple [a,b] k2 pt2) X.env=pure (some [x,y]))
  (hs:swapsWithSole [.Tuple [.Name x px,.Name y py] kt pt] (.Tuple [a,b] k2 pt2) pos.line X.env=pure false:=by rfl) :
  PS X (.Assign [.Tuple [.Name x px,.Name y py] kt pt] (.Tuple [a,b] k2 pt2) pos) (tPar i j ta):=by
 intro Z s σ H D I h;rw [exec_Assign_arm];refine Aa (Fy ?_);rw [hs];refine Aa (Af ?_);rw [if_neg (by decide)];refine Aa (Tuple_ (thn (ha _ Z s σ H _ I h) λus s1 ⟨vs,H1,I1,r1,q1⟩=>?_));obtain ⟨v,w,e1,q1⟩:=q1;subst e1;obtain ⟨u1,u2,rfl,rv,rw'⟩:∃ u1 u2,us=[u1,u2]/\RelV v u1/\RelV w u2:=by
  cases r1 with
  |cons p q=>
   cases q with
   |cons p' q'=>
    cases q';exact ⟨_,_,rfl,p,p'⟩
 refine Be ?_ zLn2;have I2:Inv X Z σ H1 { s1 with heap:=s1.heap.push { cls:=.type "tuple",data:=.seq [u1,u2].toArray } }:=I1.kept (t':=s1.toks) λb o e=>Ad _ e;rw [hw];refine Aa (Af ?_);show wpAny (model X.prog X.w) X.A (do rule "assign.swapped-stores";let items <- unpackItems (.ref s1.heap.objs.size) 2 none;assignInOrder [λv=>bindName X.env y v,λv=>bindName X.env x v] items.reverse;pure Flow.next) _ _ _;refine Aa (DC (Aa (unpackItems_tuple (items:=#[u1,u2]) (I.ok.hd hc) (IsTup.new s1.heap _) λh' hx'=>?_)));have I3:=I2.kept (h':=h') (t':=s1.toks) λb o e=>hx' b o (Au (Ar e)) e;show wpAny _ _ (assignInOrder [λv=>bindName X.env y v,λv=>bindName X.env x v] [u2,u1] >>= λ_=>pure Flow.next) _ _ _;refine Aa (assignInOrder_cons (wpAny_bindName (iT I3 hN hj (.inl hy) rw' (λs2 I4=>?_) (.inr hy))));refine assignInOrder_cons (wpAny_bindName (iT I4 hN hi (.inl hx) rv (λs3 I5=>assignInOrder_nil (Af ?_)) (.inr hx)));rw [Fk _ _ (Bi hij)] at I5;exact ⟨_,H1,I5,q1⟩
def tAug (i:Nat)(te:TE)(ti:TIp):TS:=λD σ H=>∃ x,σ[i]?=some (some x)/\te σ H λy H1=>ti x y H1 λz H2=>D.nx (σ.set i (some z)) H2
def tAugS (to ti te:TE)(tget:V->V->Hp->VK->Prop)(tip:TIp)(tset:TSet):TS:=λD σ H=>to σ H λo H1=>ti σ H1 λi H2=>tget o i H2 λx H3=>te σ H3 λy H4=>tip x y H4 λz H5=>tset o i z H5 λH6=>D.nx σ H6
def PGet (X:Cx)(t:V->V->Hp->VK->Prop):Prop:=
 ∀ (Z:Ge) (s:Gm) (σ:St) (H:Hp) (o i:V) (ov iv:Gk) (Q:VK),Inv X Z σ H s->RelV o ov->RelV i iv->t o i H Q ->
  wpAny (model X.prog X.w) X.A (getItem ov iv) (EP X Z σ Q) X.xe s
def ipI (f:Int->Int->Int):TIp:=λx y H Q=>∃ i j,x=.int i/\y=.int j/\Q (.int (f i j)) H
end
section
variable {X:Cx}{pos:Pos}
def aDk (c:TT)(tb:TS):TS:=λD σ H=>∃ W:Nat->Gs,(∃ m,W m σ H)/\∀ m σ H,W m σ H ->
 c σ H λb H1=>if b=true then ∃ N:Gs,(∀ σ' H',N σ' H'->∃ m',m'<m/\W m' σ' H')/\tb { D with nx:=N,ct:=N,bk:=D.nx } σ H1 else D.nx σ H1
def sJ {c:Expr}{body:List Stmt}{tc:TT}{tb:TS}(hp:BJ (model X.prog X.w) X.A X.env X.xe)(hc:PT X c tc)(hb:PSs X body tb):PS X (.While c body [] pos) (aDk tc tb):=by
 intro Z s σ H D I h;obtain ⟨W,⟨m0,w0⟩,turn⟩:=h;refine wpAny_While (codeAny_whileLoop (λn s'=>∃ σ' H',Inv X Z σ' H' s'/\W n σ' H') ?_ m0 ⟨σ,H,I,w0⟩)
 rintro n s1 ⟨σ1,H1,I1,w1⟩
 refine Eh hp (thn (hc Z s1 σ1 H1 _ I1 (turn n σ1 H1 w1)) λb s2 ⟨H2,I2,q2⟩=>?_);cases b with
 |true=>
  obtain ⟨N,hN,q2⟩:=q2;rw [if_pos rfl];refine Eh hp (thn (hb Z s2 σ1 H2 _ I2 q2) λf s3 q3=>?_);cases f with
  |next=>
   obtain ⟨σ3,H3,I3,n3⟩:=q3;obtain ⟨m',hm,w3⟩:=hN σ3 H3 n3;exact ⟨m',hm,σ3,H3,I3,w3⟩
  |cont=>
   obtain ⟨σ3,H3,I3,n3⟩:=q3;obtain ⟨m',hm,w3⟩:=hN σ3 H3 n3;exact ⟨m',hm,σ3,H3,I3,w3⟩
  |brk=>exact q3
  |ret v=>exact q3
 |false=>
  rw [if_neg AC];exact wpAny_execs_nil ⟨σ1,H2,I2,q2⟩
end
structure It where
 go:Nat->Hp->Prop
 yld:Nat->Hp->V->Hp->Prop
 stop:Nat->Hp->Prop
def FpOk (X:Cx)(Z:Ge)(H:Hp)(b:Gj):Prop:=
 H b=none/\b≠X.env.locals/\b∉X.fs/\(b∈X.ex\/X.s₀.heap.objs.size<=b)/\(∀ x c,X.env.cells.lookup x=some c->c≠b)/\∀ p∈X.pn++Z,p.1≠b
def Inv.fpOk {σ:St}(I:Inv X Z σ H s)(hb:s.heap.objs.size<=b)(hn:H' b=none):FpOk X Z H' b:=by
 refine ⟨hn,DH (AZ I.lt hb),I.nofs hb,.inr (Bj I.sz hb),λx c e z=>?_,λp hp z=>?_⟩
 ·obtain ⟨v,q⟩:=I.cell x c e
  exact absurd (AZ q.lt (by rw [z];exact hb)) (CN _)
 ·exact absurd (AZ (Ar (I.pin p hp).1) (by rw [z];exact hb)) (CN _)
structure Turn (P:Aw)(w:World)(K:Ab)(tg:Expr)(J:It)(fp:List Gj)(it:Gj)(tn:Nat->Heap->Prop):Prop where
 mem:it∈fp
 obj:∀ i h,tn i h->∀ b∈fp,∃ o,h.get? b=some o/\∀ v,o.data≠.cell v
 keep:∀ i h h',tn i h->(∀ b∈fp,∀ o,h.get? b=some o->h'.get? b=some o)->tn i h'
 item:∀ (X:Cx),X.prog=P->X.w=w->X.K=K->X.calm=true->∀ (i:Nat) (Z:Ge) (s:Gm) (σ:St) (H:Hp) (E:Ga),Inv X Z σ H s->(∀ b∈fp,FpOk X Z H b)->tn i s.heap->J.go i H ->
  wpAny (model P w) X.A (pyNext (.ref it)) (λr s1=>∃ u,r=some u /\
   wpAny (model P w) X.A (FE tg (.ref it) u) (λ_ s2=>∃ x H',Inv X Z σ H' s2/\RelV x u/\J.yld i H x H'/\tn (i+1) s2.heap/\∀ b∈fp,H' b=none) E s1) E s
 done:∀ (X:Cx),X.prog=P->X.w=w->X.K=K->X.calm=true->∀ (i:Nat) (Z:Ge) (s:Gm) (σ:St) (H:Hp) (E:Ga),Inv X Z σ H s->(∀ b∈fp,FpOk X Z H b)->tn i s.heap->J.stop i H ->
  wpAny (model P w) X.A (pyNext (.ref it)) (λr s1=>r=none/\Inv X Z σ H s1) E s
 self:∀ (A:Around) (i:Nat) (s:Gm) (Q:Ga) (E:Ga),tn i s.heap->Q (.ref it) s->wpAny (model P w) A (pyIter (.ref it)) Q E s
abbrev TI:=St->Hp->(It->Hp->Prop)->Prop
def PIE (X:Cx)(Z:Ge)(σ:St)(tg:Expr)(R:It->Hp->Prop)(itv:Gk)(s2:Gm):Prop:=
 ∃ (it:Gj) (fp:List Gj) (tn:Nat->Heap->Prop) (J:It) (H':Hp),itv=.ref it/\Inv X Z σ H' s2/\Turn X.prog X.w X.K tg J fp it tn/\tn 0 s2.heap/\(∀ b∈fp,FpOk X Z H' b)/\R J H'
def PI (X:Cx)(tg iter:Expr)(wi:TI):Prop:=
 ∀ (Z:Ge) (s:Gm) (σ:St) (H:Hp) (R:It->Hp->Prop),Inv X Z σ H s->wi σ H R ->
  wpAny (model X.prog X.w) X.A (eval iter X.env) (λv s1=>wpAny (model X.prog X.w) X.A (pyIter v) (PIE X Z σ tg R) X.xe s1) X.xe s
def vH {Q:Unit->Gm->Prop}(ho:s.heap.get? it=some o)(hc:o.cls=.type n)(hd:o.data=.fields vs)(hn:["enumerate","zip","dict_itemiterator","dict_reverseitemiterator","odict_iterator","itertools.zip_longest","itertools.pairwise"].contains n=false)(hQ:Q () s):wpAny M A (FE tg (.ref it) u) Q E s:=by
  unfold FE;cases tg<;>first
    |exact Af hQ
    | (cases u <;> first
        |exact Af hQ
        | (refine Aa (wpAny_load ho ?_)
           rw [hc,hd];show wpAny M A (if (["enumerate","zip","dict_itemiterator","dict_reverseitemiterator","odict_iterator","itertools.zip_longest","itertools.pairwise"].contains n&&vs[0]?==some (rawInt _))=true then _ else _) Q E s;rw [if_neg (by intro h;rw [hn,Bool.false_and] at h;cases h)];exact Af hQ))
def Itl (K:Ab)(a:Gj):It:=
 ⟨λi H=>∃ xs x,SqL K H a xs/\xs[i]?=some x,λi H x H'=>H'=H/\∀ xs,SqL K H a xs->xs[i]?=some x,λi H=>∃ xs,SqL K H a xs/\xs.length<=i⟩
def Itt (K:Ab)(a:Gj):It:=
 ⟨λi H=>∃ xs x,SqT K H a xs/\xs[i]?=some x,λi H x H'=>H'=H/\∀ xs,SqT K H a xs->xs[i]?=some x,λi H=>∃ xs,SqT K H a xs/\xs.length<=i⟩
def Itr (lo:Int)(n:Nat):It:=⟨λi _=>i<n,λi H x H'=>H'=H/\x=.int (lo+i),λi _=>n<=i⟩
def wA {P:Aw}{w:World}{K:Ab}{tg:Expr}(a it:Gj):Turn P w K tg (Itl K a) [it] it (λi h=>h.IsListIter it a i) where
 mem:=by simp
 obj:=λi h st b hb=>by
  have e:b=it:=by simpa using hb
  subst e;obtain ⟨o,e,c,d⟩:=st;exact ⟨o,e,λv z=>by rw [d] at z;cases z⟩
 keep:=λi h h' st k=>st.at λo e=>k it (by simp) o e
 item:=by
  intro X hP hw hK hc i Z s σ H E I hf st hg;subst hP hw hK;obtain ⟨xs,x,hq,hx⟩:=hg;obtain ⟨its,rv,p,hz⟩:=I.list hq;obtain ⟨u,hu,ru⟩:=rv.get hx;obtain ⟨f0,f1,f2,f3,f4,f5⟩:=hf it (by simp);refine wpAny_pyNext_list_item st p.isList (x:=u) (by simpa using hu) λh' st' sb=>?_;have I1:Inv X Z σ H { s with heap:=h' }:=I.turned (t':=s.toks) (λb o hb e=>(sb.2 b hb).trans e) f0 f1 f3 f4 f5;obtain ⟨o,e,c,d⟩:=id st';exact ⟨u,rfl,vH (s:={ s with heap:=h' }) e c d (by decide) ⟨x,H,I1,ru,⟨rfl,λys hy=>by rw [I.list_inj hy hq];exact hx⟩,st',λb hb=>(hf b hb).1⟩⟩
 done:=by
  intro X hP hw hK hc i Z s σ H E I hf st hg;subst hP hw hK;obtain ⟨xs,hq,hx⟩:=hg;obtain ⟨its,rv,p,hz⟩:=I.list hq;obtain ⟨f0,f1,f2,f3,f4,f5⟩:=hf it (by simp);have hl:=rv.length;exact wpAny_pyNext_list_end (I.ok.hd hc) st p.isList (by simp;lia) λh' eb=>⟨rfl,I.turned (t':=s.toks) (λb o hb e=>eb b o hb e) f0 f1 f3 f4 f5⟩
 self:=λ_ _ _ _ _ st h=>wpAny_pyIter_listiter st h
def uM {P:Aw}{w:World}{K:Ab}{tg:Expr}(a it:Gj):Turn P w K tg (Itt K a) [it] it (λi h=>h.IsTupleIter it a i) where
 mem:=by simp
 obj:=λi h st b hb=>by
  have e:b=it:=by simpa using hb
  subst e;obtain ⟨o,e,c,d⟩:=st;exact ⟨o,e,λv z=>by rw [d] at z;cases z⟩
 keep:=λi h h' st k=>st.at λo e=>k it (by simp) o e
 item:=by
  intro X hP hw hK hc i Z s σ H E I hf st hg;subst hP hw hK;obtain ⟨xs,x,hq,hx⟩:=hg;obtain ⟨its,rv,p,hz⟩:=I.tuple hq;obtain ⟨u,hu,ru⟩:=rv.get hx;obtain ⟨f0,f1,f2,f3,f4,f5⟩:=hf it (by simp);refine wpAny_pyNext_tuple_item st (show s.heap.IsTuple a its.toArray from p) (x:=u) (by simpa using hu) λh' st' sb=>?_;have I1:Inv X Z σ H { s with heap:=h' }:=I.turned (t':=s.toks) (λb o hb e=>(sb.2 b hb).trans e) f0 f1 f3 f4 f5;obtain ⟨o,e,c,d⟩:=id st';exact ⟨u,rfl,vH (s:={ s with heap:=h' }) e c d (by decide) ⟨x,H,I1,ru,⟨rfl,λys hy=>by rw [I.tuple_inj hy hq];exact hx⟩,st',λb hb=>(hf b hb).1⟩⟩
 done:=by
  intro X hP hw hK hc i Z s σ H E I hf st hg;subst hP hw hK;obtain ⟨xs,hq,hx⟩:=hg;obtain ⟨its,rv,p,hz⟩:=I.tuple hq;obtain ⟨f0,f1,f2,f3,f4,f5⟩:=hf it (by simp);have hl:=rv.length;exact wpAny_pyNext_tuple_end (I.ok.hd hc) st (show s.heap.IsTuple a its.toArray from p) (by simp;lia) λh' eb=>⟨rfl,I.turned (t':=s.toks) (λb o hb e=>eb b o hb e) f0 f1 f3 f4 f5⟩
 self:=λ_ _ _ _ _ st h=>wpAny_pyIter_tupleiter st h
def uN {P:Aw}{w:World}{K:Ab}{tg:Expr}(it:Gj)(lo:Int)(n:Nat):Turn P w K tg (Itr lo n) [it] it (λi h=>IsRangeIter h it (lo+(i:Nat)*1) ((n:Int)-(i:Nat)) 1) where
 mem:=by simp
 obj:=λi h st b hb=>by
  have e:b=it:=by simpa using hb
  subst e;exact ⟨_,st,λv z=>by
   have z':Data.fields _=Data.cell v:=z;cases z'⟩
 keep:=λi h h' st k=>k it (by simp) _ st
 item:=by
  intro X hP hw hK hc i Z s σ H E I hf st hg;subst hP hw hK;obtain ⟨f0,f1,f2,f3,f4,f5⟩:=hf it (by simp);have W:=Walks.range (prog:=X.prog) (w:=X.w) (I.ok.hd hc) it lo 1 n;refine W.item i s _ _ hg st λv h' tk hv st' kk=>?_;obtain ⟨t,rfl⟩:=hv;have I1:Inv X Z σ H { s with heap:=h',toks:=tk }:=I.turned (λb o hb e=>kk b o (by simpa using hb) e) f0 f1 f3 f4 f5;refine ⟨_,rfl,vH (s:={ s with heap:=h',toks:=tk }) (n:="range_iterator") st' rfl rfl (by decide) ⟨.int (lo+i),H,I1,⟨t,?_⟩,⟨rfl,rfl⟩,st',λb hb=>(hf b hb).1⟩⟩;rw [Int.mul_one]
 done:=by
  intro X hP hw hK hc i Z s σ H E I hf st hg;subst hP hw hK;obtain ⟨f0,f1,f2,f3,f4,f5⟩:=hf it (by simp);exact wpAny_pyNext_range_end (I.ok.hd hc) st (by have:n<=i:=hg;lia) λh' eb=>⟨rfl,I.turned (t':=s.toks) (λb o hb e=>eb b o hb e) f0 f1 f3 f4 f5⟩
 self:=λ_ _ _ _ _ st h=>wpAny_pyIter_rangeiter st h
section
variable {X:Cx}{tg:Expr}
def aLd (K:Ab)(tl:TE):TI:=λσ H R=>tl σ H λx H1=>∃ a,x=.ref a/\(∃ xs,SqL K H1 a xs)/\R (Itl K a) H1
inductive RTup (K:Ab)(R:It->Hp->Prop)(x:V)(H1:Hp):Prop
 |mk (a:Gj) (e:x=.ref a) (q:∃ xs,SqT K H1 a xs) (h:R (Itt K a) H1)
def iTup (K:Ab)(tl:TE):TI:=λσ H R=>tl σ H (RTup K R)
def jY {l:Expr}{tl:TE}(hl:PE X l tl):PI X tg l (aLd X.K tl):=by
 intro Z s σ H R I h;refine thn (hl Z s σ H _ I h) λv s1 ⟨x,H1,I1,r1,q1⟩=>?_;obtain ⟨a,e,⟨xs,hq⟩,q⟩:=q1;subst e;cases r1;obtain ⟨its,rv,p,hz⟩:=I1.list hq;refine wpAny_pyIter_list p.isList ?_;refine ⟨s1.heap.objs.size,[s1.heap.objs.size],_,_,H1,rfl,I1.kept (t':=s1.toks) λb o e=>Ad _ e,wA a _,⟨_,Ai _ rfl,rfl,rfl⟩,λb hb=>?_,q⟩;have e:b=s1.heap.objs.size:=by simpa using hb
 subst e;exact I1.fpOk (Aj _) (I1.hok.fresh (Aj _))
def iL {l:Expr}{tl:TE}(hl:PE X l tl):PI X tg l (iTup X.K tl):=by
 intro Z s σ H R I h;refine thn (hl Z s σ H _ I h) λv s1 ⟨x,H1,I1,r1,q1⟩=>?_;obtain ⟨a,e,⟨xs,hq⟩,q⟩:=q1;subst e;cases r1;obtain ⟨its,rv,p,hz⟩:=I1.tuple hq;refine EM (show s1.heap.IsTuple a its.toArray from p) ?_;refine ⟨s1.heap.objs.size,[s1.heap.objs.size],_,_,H1,rfl,I1.kept (t':=s1.toks) λb o e=>Ad _ e,uM a _,⟨_,Ai _ rfl,rfl,rfl⟩,λb hb=>?_,q⟩;have e:b=s1.heap.objs.size:=by simpa using hb
 subst e;exact I1.fpOk (Aj _) (I1.hok.fresh (Aj _))
def sE {σ:St}{lo hi:Int}{t u v:Tok}{tk:Nat}(I:Inv X Z σ H s)(h1:-(2^62)<=lo)(h2:lo<2^62)(h3:-(2^62)<=hi)(h4:hi<2^62)(q:R (Itr lo (hi-lo).toNat) H):wpAny (model X.prog X.w) X.A (pyIter (.ref s.heap.objs.size)) (PIE X Z σ tg R) E { s with heap:=s.heap.push { cls:=.type "range",data:=.fields #[.int lo t,.int hi u,.int 1 v] },toks:=tk }:=by
 refine wpAny_pyIter_range (IsRange.new ..) (small_one h1 h2 h3 h4) ?_;have I1:Inv X Z σ H { s with heap:=s.heap.push { cls:=.type "range",data:=.fields #[.int lo t,.int hi u,.int 1 v] },toks:=tk }:=I.kept λb o e=>Ad _ e;refine ⟨(s.heap.push { cls:=.type "range",data:=.fields #[.int lo t,.int hi u,.int 1 v] }).objs.size,[(s.heap.push { cls:=.type "range",data:=.fields #[.int lo t,.int hi u,.int 1 v] }).objs.size],_,_,H,rfl,
  I1.kept (t':=tk) λb o e=>Ad _ e,uN _ lo (hi-lo).toNat,?_,λb hb=>?_,q⟩
 ·have e1:lo+((0:Nat):Int)*1=lo:=by simp
  have e2:(((hi-lo).toNat:Nat):Int)-((0:Nat):Int)=AE.Range.rangeSize lo hi 1:=by rw [rangeSize_one];split<;>lia
  show IsRangeIter _ _ (lo+((0:Nat):Int)*1) ((((hi-lo).toNat:Nat):Int)-((0:Nat):Int)) 1;rw [e1,e2];exact Ai _ rfl
 ·have e:b=(s.heap.push { cls:=.type "range",data:=.fields #[.int lo t,.int hi u,.int 1 v] }).objs.size:=by simpa using hb
  subst e;exact I1.fpOk (Aj _) (I1.hok.fresh (Aj _))
def aLc (ta:TA):TI:=λσ H R=>ta σ H λvs H1=>∃ j:Int,vs=[.int j]/\-(2^62)<=j/\j<2^62/\R (Itr 0 j.toNat) H1
def aLb (ta:TA):TI:=λσ H R=>ta σ H λvs H1=>∃ i j:Int,vs=[.int i,.int j]/\(-(2^62)<=i/\i<2^62/\-(2^62)<=j/\j<2^62)/\R (Itr i (j-i).toNat) H1
def cY {a:Expr}{ta:TA}{p pos:Pos}(hg:Gl X "range")(hm:X.mg "range" = none)(ha:PA X [a] ta)(hs:AR [a] X.env=[(false,eval a X.env)]:=by rfl):PI X tg (.Call (.Name "range" p) [a] [] pos) (aLc ta):=by
 intro Z s σ H R I h;refine Call_ (fZ I hg hm boot_range (BU (thn (ha pos Z s σ H _ I h) λus s1 ⟨vs,H1,I1,r1,q1⟩=>?_) hs rfl));obtain ⟨j,e,q1,q2,q⟩:=q1;subst e;cases r1 with
 |cons r rr=>
  cases rr;obtain ⟨t,rfl⟩:=r;exact call_range_1 (sE I1 (by lia) (by lia) q1 q2 (by simpa using q))
def jX {p pos:Pos}(hg:Gl X "range")(hm:X.mg "range" = none)(ha:PA X [a,b] ta)(hs:AR [a,b] X.env=[(false,eval a X.env),(false,eval b X.env)]:=by rfl)(hs2:AR [b] X.env=[(false,eval b X.env)]:=by rfl) :
  PI X tg (.Call (.Name "range" p) [a,b] [] pos) (aLb ta):=by
 intro Z s σ H R I h;refine Call_ (fZ I hg hm boot_range (BU (thn (ha pos Z s σ H _ I h) λus s1 ⟨vs,H1,I1,r1,q1⟩=>?_) (by rw [hs,hs2]) (by rw [hs2];rfl)));obtain ⟨i,j,e,⟨q1,q2,q3,q4⟩,q⟩:=q1;subst e;cases r1 with
 |cons r rr=>
  cases rr with
  |cons r' rr=>
   cases rr;obtain ⟨t,rfl⟩:=r;obtain ⟨t',rfl⟩:=r';exact call_range_2 (sE I1 q1 q2 q3 q4 q)
def tFor (wi:TI)(g:TG)(tb:TS):TS:=λD σ H=>wi σ H λJ H1=>∃ W:Nat->Nat->Gs,(∃ m,W 0 m σ H1)/\∀ i m σ H,W i m σ H ->
 (J.stop i H/\D.nx σ H)\/(J.go i H/\∃ N:Gs,(∀ σ' H',N σ' H'->∃ m',m'<m/\W (i+1) m' σ' H')/\∀ x H',J.yld i H x H'->g x σ H' λσ2 H2=>tb { D with nx:=N,ct:=N,bk:=D.nx } σ2 H2)
def lD (fp:List Gj)(h:Heap):Ge:=fp.filterMap λb=>(h.get? b).map λo=>(b,o)
def dO (hb:b∈fp)(e:h.get? b=some o):(b,o)∈lD fp h:=List.mem_filterMap.mpr ⟨b,hb,by rw [e];rfl⟩
def yW {p:Gj×Obj}(hp:p∈lD fp h):p.1∈fp/\h.get? p.1=some p.2:=by
 obtain ⟨b,hb,e⟩:=List.mem_filterMap.mp hp;cases q:h.get? b with
 |none=>rw [q] at e;cases e
 |some o=>
  rw [q] at e;have e':(b,o)=p:=AA e;subst e';exact ⟨hb,q⟩
def Inv.pinned {σ:St}(I:Inv X Z σ H s)(hf:∀ b∈fp,FpOk X Z H b)(ho:∀ b∈fp,∃ o,s.heap.get? b=some o/\∀ v,o.data≠.cell v):Inv X (Z++lD fp s.heap) σ H s:=
 I.pins_of λp hp=>(Bm.mp hp).elim (λz=>I.pin p (AO _ z)) λz=>by
  obtain ⟨hb,e⟩:=yW z;obtain ⟨f0,f1,f2,_⟩:=hf p.1 hb;obtain ⟨o,e',d⟩:=ho p.1 hb;rw [e] at e';cases e';exact ⟨e,f0,f1,f2,d⟩
def Inv.unpinned {σ:St}(I:Inv X (Z++pl) σ H s):Inv X Z σ H s:=I.pins_of λp hp=>I.pin p (AO _ (List.mem_append_left _ hp))
def bR (hp:BJ (model X.prog X.w) X.A X.env X.xe)(hc:X.calm=true)(hi:PI X tg iter wi)(hg:PG X tg g)(hb:PSs X body tb)(hs:∀ x,Fe iter X.env x=pure x:=by intro _;rfl):PS X (.For tg iter body [] pos) (tFor wi g tb):=by
 intro Z s σ H D I h;refine wpAny_For (thn (hi Z s σ H _ I h) λv s1 h1=>thn h1 λitv s2 h2=>?_) hs;obtain ⟨it,fp,tn,J,H2,e,I2,T,st2,f2,W,⟨m0,w0⟩,turn⟩:=h2;subst e;have stat:∀ {H':Hp},(∀ b∈fp,H' b=none)->∀ b∈fp,FpOk X Z H' b:=λhn b hb=>⟨hn b hb,(f2 b hb).2⟩;refine codeAny_forLoop_any (λn s'=>∃ i σ' H',Inv X Z σ' H' s'/\tn i s'.heap/\(∀ b∈fp,H' b=none)/\W i n σ' H') ?_ m0 ⟨0,σ,H2,I2,st2,λb hb=>(f2 b hb).1,w0⟩
 rintro n s3 ⟨i,σ3,H3,I3,st3,fr3,w3⟩
 rcases turn i n σ3 H3 w3 with ⟨stop,qn⟩|⟨go,N,hN,step⟩
 ·refine Eh hp (thn (T.done X rfl rfl rfl hc i Z s3 σ3 H3 X.xe I3 (stat fr3) st3 stop) λr s4 ⟨hr,I4⟩=>?_)
  subst hr;exact wpAny_execs_nil ⟨σ3,H3,I4,qn⟩
 ·refine Eh hp (thn (T.item X rfl rfl rfl hc i Z s3 σ3 H3 X.xe I3 (stat fr3) st3 go) λr s4 ⟨u,hr,h4⟩=>?_)
  subst hr;refine Eh hp (thn h4 λ_ s5 ⟨x,H5,I5,r5,y5,st5,fr5⟩=>?_);have I5':=I5.pinned (stat fr5) (T.obj _ _ st5);refine Eh hp (thn (hg _ s5 σ3 H5 x u _ I5' r5 (step x H5 y5)) λ_ s6 ⟨σ6,H6,I6,q6⟩=>?_);refine Eh hp (thn (hb _ s6 σ6 H6 _ I6 q6) λf s7 q7=>?_);have again:∀ {σ7:St} {H7:Hp},Inv X (Z++lD fp s5.heap) σ7 H7 s7->N σ7 H7->∃ m,m<n/\∃ i σ' H',Inv X Z σ' H' s7/\tn i s7.heap/\(∀ b∈fp,H' b=none)/\W i m σ' H':=λ{σ7 H7} I7 n7=>by
   obtain ⟨m',hm,w7⟩:=hN σ7 H7 n7;refine ⟨m',hm,i+1,σ7,H7,I7.unpinned,T.keep _ _ _ st5 λb hb o e=>(I7.pin (b,o) (AO _ (AO _ (dO hb e)))).1,λb hb=>?_,w7⟩;obtain ⟨o,e,d⟩:=T.obj _ _ st5 b hb;exact (I7.pin (b,o) (AO _ (AO _ (dO hb e)))).2.1
  cases f with
  |next=>obtain ⟨σ7,H7,I7,n7⟩:=q7;exact again I7 n7
  |cont=>obtain ⟨σ7,H7,I7,n7⟩:=q7;exact again I7 n7
  |brk=>obtain ⟨σ7,H7,I7,q7⟩:=q7;exact ⟨σ7,H7,I7.unpinned,q7⟩
  |ret v=>obtain ⟨x7,σ7,H7,I7,r7,q7⟩:=q7;exact ⟨x7,σ7,H7,I7.unpinned,r7,q7⟩
end
def mT {K:Ab}{a:Gj}{xs:Gq}{g:TG}{tb:TS}{D:Ends}{σ:St}{H:Hp}(Pv:Nat->Gs)(h0:Pv 0 σ H)(hl:∀ i σ H,i<=xs.length->Pv i σ H->SqL K H a xs)
  (hs:∀ i x σ H,xs[i]?=some x->Pv i σ H->g x σ H λσ2 H2=>tb { D with nx:=Pv (i+1),ct:=Pv (i+1),bk:=D.nx } σ2 H2) (hd:∀ σ H,Pv xs.length σ H->D.nx σ H) :
  ∃ W:Nat->Nat->Gs,(∃ m,W 0 m σ H)/\∀ i m σ H,W i m σ H ->
   ((Itl K a).stop i H/\D.nx σ H)\/((Itl K a).go i H/\∃ N:Gs,(∀ σ' H',N σ' H'->∃ m',m'<m/\W (i+1) m' σ' H')/\∀ x H',(Itl K a).yld i H x H'->g x σ H' λσ2 H2=>tb { D with nx:=N,ct:=N,bk:=D.nx } σ2 H2):=by
 refine ⟨λi m σ H=>m=xs.length-i/\i<=xs.length/\Pv i σ H,⟨xs.length,by simp,BF _,h0⟩,?_⟩
 rintro i m σ H ⟨rfl,hi,p⟩
 have q:=hl i σ H hi p
 by_cases hlt:i<xs.length
 ·refine .inr ⟨⟨xs,xs[i],q,by simp [hlt]⟩,Pv (i+1),λσ' H' p'=>⟨xs.length-(i+1),by lia,rfl,hlt,p'⟩,λx H' y=>?_⟩
  obtain ⟨e,y⟩:=y;subst e;exact hs i x σ _ (y xs q) p
 ·have e:i=xs.length:=by lia
  subst e;exact .inl ⟨⟨xs,q,Aj _⟩,hd σ H p⟩
def mS {K:Ab}{a:Gj}{xs:Gq}{g:TG}{tb:TS}{D:Ends}{σ:St}{H:Hp}(Pv:Nat->Gs)(h0:Pv 0 σ H)(hl:∀ i σ H,i<=xs.length->Pv i σ H->SqT K H a xs)
  (hs:∀ i x σ H,xs[i]?=some x->Pv i σ H->g x σ H λσ2 H2=>tb { D with nx:=Pv (i+1),ct:=Pv (i+1),bk:=D.nx } σ2 H2) (hd:∀ σ H,Pv xs.length σ H->D.nx σ H) :
  ∃ W:Nat->Nat->Gs,(∃ m,W 0 m σ H)/\∀ i m σ H,W i m σ H ->
   ((Itt K a).stop i H/\D.nx σ H)\/((Itt K a).go i H/\∃ N:Gs,(∀ σ' H',N σ' H'->∃ m',m'<m/\W (i+1) m' σ' H')/\∀ x H',(Itt K a).yld i H x H'->g x σ H' λσ2 H2=>tb { D with nx:=N,ct:=N,bk:=D.nx } σ2 H2):=by
 refine ⟨λi m σ H=>m=xs.length-i/\i<=xs.length/\Pv i σ H,⟨xs.length,by simp,BF _,h0⟩,?_⟩
 rintro i m σ H ⟨rfl,hi,p⟩
 have q:=hl i σ H hi p
 by_cases hlt:i<xs.length
 ·refine .inr ⟨⟨xs,xs[i],q,by simp [hlt]⟩,Pv (i+1),λσ' H' p'=>⟨xs.length-(i+1),by lia,rfl,hlt,p'⟩,λx H' y=>?_⟩
  obtain ⟨e,y⟩:=y;subst e;exact hs i x σ _ (y xs q) p
 ·have e:i=xs.length:=by lia
  subst e;exact .inl ⟨⟨xs,q,Aj _⟩,hd σ H p⟩
def eB {lo:Int}{n:Nat}{g:TG}{tb:TS}{D:Ends}{σ:St}{H:Hp}(Pv:Nat->Gs)(h0:Pv 0 σ H)
  (hs:∀ i σ H,i<n->Pv i σ H->g (.int (lo+i)) σ H λσ2 H2=>tb { D with nx:=Pv (i+1),ct:=Pv (i+1),bk:=D.nx } σ2 H2) (hd:∀ σ H,Pv n σ H->D.nx σ H) :
  ∃ W:Nat->Nat->Gs,(∃ m,W 0 m σ H)/\∀ i m σ H,W i m σ H ->
   ((Itr lo n).stop i H/\D.nx σ H)\/((Itr lo n).go i H/\∃ N:Gs,(∀ σ' H',N σ' H'->∃ m',m'<m/\W (i+1) m' σ' H')/\∀ x H',(Itr lo n).yld i H x H'->g x σ H' λσ2 H2=>tb { D with nx:=N,ct:=N,bk:=D.nx } σ2 H2):=by
 refine ⟨λi m σ H=>m=n-i/\i<=n/\Pv i σ H,⟨n,by simp,BF _,h0⟩,?_⟩
 rintro i m σ H ⟨rfl,hi,p⟩
 by_cases hlt:i<n
 ·refine .inr ⟨hlt,Pv (i+1),λσ' H' p'=>⟨n-(i+1),by lia,rfl,hlt,p'⟩,λx H' y=>?_⟩
  obtain ⟨e,y⟩:=y;subst e y;exact hs i σ _ hlt p
 ·have e:i=n:=by lia
  subst e;exact .inl ⟨Aj _,hd σ H p⟩
def rK {σ:St}(Pv:Gs)(μ:St->Hp->Nat)(h0:Pv σ H)(hs:∀ σ H,Pv σ H->c σ H λb H1=>if b=true then tb { D with nx:=λσ' H'=>Pv σ' H'/\μ σ' H'<μ σ H,ct:=λσ' H'=>Pv σ' H'/\μ σ' H'<μ σ H,bk:=D.nx } σ H1 else D.nx σ H1)(mono:∀ σ H Q Q',(∀ b H1,Q b H1->Q' b H1)->c σ H Q->c σ H Q'):aDk c tb D σ H:=by
 refine ⟨λm σ H=>m=μ σ H/\Pv σ H,⟨_,rfl,h0⟩,?_⟩
 rintro m σ H ⟨rfl,p⟩
 refine mono σ H _ _ (λb H1 q=>?_) (hs σ H p);cases b with
 |true=>exact ⟨_,λσ' H' ⟨p',l⟩=>⟨_,l,rfl,p'⟩,q⟩
 |false=>exact q
abbrev R2:=V->V->Hp->VK->Prop
def OpR (X:Cx)(f:Gk->Gk->Sem Gk)(r:R2):Prop:=
 ∀ (Z:Ge) (s:Gm) (σ:St) (H:Hp) (x y:V) (v u:Gk) (Q:VK),Inv X Z σ H s->RelV x v->RelV y u->r x y H Q ->
  wpAny (model X.prog X.w) X.A (f v u) (EP X Z σ Q) X.xe s
def UnR (X:Cx)(f:Gk->Sem Gk)(r:V->Hp->VK->Prop):Prop:=
 ∀ (Z:Ge) (s:Gm) (σ:St) (H:Hp) (x:V) (v:Gk) (Q:VK),Inv X Z σ H s->RelV x v->r x H Q ->
  wpAny (model X.prog X.w) X.A (f v) (EP X Z σ Q) X.xe s
def fA (X:Cx)(f:Gk)(r:Gq->Hp->VK->Prop):Prop:=
 ∀ (Z:Ge) (s:Gm) (σ:St) (H:Hp) (xs:Gq) (us:Gi) (Q:VK),Inv X Z σ H s->Vals xs us->r xs H Q ->
  wpAny (model X.prog X.w) X.A (call f us) (EP X Z σ Q) X.xe s
def TruR (X:Cx)(r:V->Hp->(Bool->Hp->Prop)->Prop):Prop:=
 ∀ (Z:Ge) (s:Gm) (σ:St) (H:Hp) (x:V) (v:Gk) (Q:Bool->Hp->Prop),Inv X Z σ H s->RelV x v->r x H Q ->
  wpAny (model X.prog X.w) X.A (truthy v) (TP X Z σ Q) X.xe s
def tOp (r:R2)(ta tb:TE):TE:=λσ H Q=>ta σ H λx H1=>tb σ H1 λy H2=>r x y H2 Q
def tUn (r:V->Hp->VK->Prop)(ta:TE):TE:=λσ H Q=>ta σ H λx H1=>r x H1 Q
inductive rI (C:Int->Int->Prop)(g:Int->Int->V)(x y:V)(H:Hp)(Q:VK):Prop
 |mk (i j:Int) (e:x=.int i) (e':y=.int j) (c:C i j) (h:Q (g i j) H)
inductive rI0 (g:Int->Int->V)(x y:V)(H:Hp)(Q:VK):Prop
 |mk (i j:Int) (e:x=.int i) (e':y=.int j) (h:Q (g i j) H)
def rU (g:Int->V):V->Hp->VK->Prop:=λx H Q=>∃ i,x=.int i/\Q (g i) H
section
variable {X:Cx}{a b c:Expr}{ta tb tc:TE}{pos:Pos}
def binT (ha:PE X a ta)(hb:PE X b tb){Z:Ge}{s:Gm}{σ:St}{H:Hp}{R:V->V->Hp->Prop}(I:Inv X Z σ H s)
  (h:ta σ H λx H1=>tb σ H1 λy H2=>R x y H2) {Q:Ga} {f:Gk->Gk->Sem Gk}
  (hf:∀ v u s2 x y H2,Inv X Z σ H2 s2->RelV x v->RelV y u->R x y H2->wpAny (model X.prog X.w) X.A (f v u) Q X.xe s2) :
  wpAny (model X.prog X.w) X.A (eval a X.env) (λv s₁=>wpAny (model X.prog X.w) X.A (eval b X.env) (λu s₂=>wpAny (model X.prog X.w) X.A (f v u) Q X.xe s₂) X.xe s₁) X.xe s:=by
 refine thn (ha Z s σ H _ I h) λv s1 ⟨x,H1,I1,r1,q1⟩=>?_;refine thn (hb Z s1 σ H1 _ I1 q1) λu s2 ⟨y,H2,I2,r2,q2⟩=>?_;exact hf v u s2 x y H2 I2 r1 r2 q2
def aP {op:Operator}{r:R2}(ho:OpR X (Ep op) r)(ha:PE X a ta)(hb:PE X b tb):PE X (.BinOp a op b pos) (tOp r ta tb):=by
 intro Z s σ H Q I h;exact wpAny_BinOp (binT ha hb I h λv u s2 x y H2 I2 rx ry q=>ho Z s2 σ H2 x y v u Q I2 rx ry q)
def opI {C:Int->Int->Prop}{g:Int->Int->Int}(rule:∀ (i j:Int) (t u:Tok) (s:Gm) (Q:Ga) (E:Ga),C i j->Q (.int (g i j) s.toks) { s with toks:=s.toks+1 }->wpAny (model X.prog X.w) X.A (f (.int i t) (.int j u)) Q E s) :
  OpR X f (rI C λi j=>.int (g i j)):=by
 intro Z s σ H x y v u Q I rx ry h;obtain ⟨i,j,rfl,rfl,hc,q⟩:=h;obtain ⟨t,rfl⟩:=rx;obtain ⟨t',rfl⟩:=ry;exact rule i j t t' s _ _ hc ⟨.int (g i j),H,I.tok _,⟨_,rfl⟩,q⟩
def opI0 {g:Int->Int->Int}(rule:∀ (i j:Int) (t u:Tok) (s:Gm) (Q:Ga) (E:Ga),Q (.int (g i j) s.toks) { s with toks:=s.toks+1 }->wpAny (model X.prog X.w) X.A (f (.int i t) (.int j u)) Q E s) :
  OpR X f (rI0 λi j=>.int (g i j)):=by
 intro Z s σ H x y v u Q I rx ry h;obtain ⟨i,j,rfl,rfl,q⟩:=h;obtain ⟨t,rfl⟩:=rx;obtain ⟨t',rfl⟩:=ry;exact rule i j t t' s _ _ ⟨.int (g i j),H,I.tok _,⟨_,rfl⟩,q⟩
def opB0 {g:Int->Int->Bool}(rule:∀ (i j:Int) (t u:Tok) (s:Gm) (Q:Ga) (E:Ga),Q (.bool (g i j)) s->wpAny (model X.prog X.w) X.A (f (.int i t) (.int j u)) Q E s) :
  OpR X f (rI0 λi j=>.bl (g i j)):=by
 intro Z s σ H x y v u Q I rx ry h;obtain ⟨i,j,rfl,rfl,q⟩:=h;obtain ⟨t,rfl⟩:=rx;obtain ⟨t',rfl⟩:=ry;exact rule i j t t' s _ _ ⟨.bl (g i j),H,I,rfl,q⟩
def CDiv (i j:Int):Prop:=0<j/\j<1073741824
def CDivN (i j:Int):Prop:=j≠0/\j.natAbs<1073741824
def CPow (i j:Int):Prop:=0<=j/\j<=1000000/\i.natAbs<2^64
def CMul (i j:Int):Prop:=(-(2^64)<i/\i<2^64)\/(-(2^64)<j/\j<2^64)
def bL:OpR X (Ep .Add) (rI0 λi j=>.int (i+j)):=opI0 λ_ _ _ _ _ _ _ q=>add_int q
def sV:OpR X (Ep .Sub) (rI0 λi j=>.int (i-j)):=opI0 λ_ _ _ _ _ _ _ q=>sub_int q
def bU:OpR X (Ep .Mod) (rI (λ_ j=>0<j) λi j=>.int (i%j)):=opI λi j _ _ _ _ _ hc q=>by
 have h1:(0:Int)<j:=hc;exact mod_int' (by lia) (by rw [Int.fmod_eq_emod_of_nonneg i (by lia)];exact q)
end
def scal:V->V->Bool
 |.non,.non=>true|.non,.int _=>true|.int _,.non=>true|.non,.bl _=>true|.bl _,.non=>true|.non,.str _=>true|.str _,.non=>true
 |.int _,.int _=>true|.bl _,.bl _=>true|.str _,.str _=>true|.byt _,.byt _=>true
 |.int _,.str _=>true|.str _,.int _=>true|.bl _,.str _=>true|.str _,.bl _=>true
 |_,_=>false
def rEq:R2:=λx y H Q=>scal x y=true/\Q (.bl (decide (x=y))) H
def rNe:R2:=λx y H Q=>scal x y=true/\Q (.bl (!decide (x=y))) H
def aAs {i j:Int}:decide (V.int i=V.int j)=(i==j):=by
 rw [DV];simp
def aEm {i j:Bool}:decide (V.bl i=V.bl j)=(i==j):=by
 rw [DV];simp
def aAr :decide (V.str i=V.str j)=(i==j):=by
 rw [DV];simp
def aAt :decide (V.byt i=V.byt j)=(i.toList==j.toList):=by
 rw [DV];cases i;cases j;simp
section
variable {X:Cx}{a b c:Expr}{ta tb tc:TE}{pos:Pos}
def bI {σ:St}{Q:VK}{k k':Bool}(I:Inv X Z σ H s)(q:Q (.bl k) H)(e:k=k'):EP X Z σ Q (.bool k') s:=by
 subst e;exact ⟨.bl k,H,I,rfl,q⟩
def cJ:OpR X (BW .Eq) rEq:=by
 intro Z s σ H x y v u Q I rx ry h;obtain ⟨hs,q⟩:=h;cases x with
 |non=>
  cases rx;cases y with
  |non=>cases ry;exact PySem.EqNone.eq_none_none (bI I q (by simp))
  |bl j=>cases ry;exact PySem.EqNone.eq_none_bool (bI I q (by simp))
  |int j=>obtain ⟨t',rfl⟩:=ry;exact PySem.EqNone.eq_none_int (bI I q (by simp))
  |str j=>obtain ⟨t',rfl⟩:=ry;exact PySem.EqNone.eq_none_str (bI I q (by simp))
  |_=>exact absurd (show false=true from hs) AC
 |bl i=>
  cases rx;cases y with
  |non=>cases ry;exact PySem.EqNone.eq_bool_none (bI I q (by simp))
  |bl j=>cases ry;exact eq_bool (bI I q aEm)
  |str j=>obtain ⟨t',rfl⟩:=ry;exact PySem.EqMixed.eq_bool_str (bI I q (by simp))
  |_=>exact absurd (show false=true from hs) AC
 |int i=>
  obtain ⟨t,rfl⟩:=rx;cases y with
  |non=>cases ry;exact PySem.EqNone.eq_int_none (bI I q (by simp))
  |int j=>obtain ⟨t',rfl⟩:=ry;exact eq_int (bI I q aAs)
  |str j=>obtain ⟨t',rfl⟩:=ry;exact PySem.EqMixed.eq_int_str (bI I q (by simp))
  |_=>exact absurd (show false=true from hs) AC
 |str i=>
  obtain ⟨t,rfl⟩:=rx;cases y with
  |non=>cases ry;exact PySem.EqNone.eq_str_none (bI I q (by simp))
  |bl j=>cases ry;exact PySem.EqMixed.eq_str_bool (bI I q (by simp))
  |int j=>obtain ⟨t',rfl⟩:=ry;exact PySem.EqMixed.eq_str_int (bI I q (by simp))
  |str j=>obtain ⟨t',rfl⟩:=ry;exact eq_str (bI I q aAr)
  |_=>exact absurd (show false=true from hs) AC
 |byt i=>
  obtain ⟨t,rfl⟩:=rx;cases y with
  |byt j=>obtain ⟨t',rfl⟩:=ry;exact PySem.W.eq_bytes (bI I q aAt)
  |_=>exact absurd (show false=true from hs) AC
 |_=>cases y<;>exact absurd (show false=true from hs) AC
def yA:OpR X (BW .NotEq) rNe:=by
 intro Z s σ H x y v u Q I rx ry h;obtain ⟨hs,q⟩:=h;cases x with
 |non=>
  cases rx;cases y with
  |non=>cases ry;exact PySem.EqNone.ne_none_none (bI I q (by simp))
  |bl j=>cases ry;exact PySem.EqNone.ne_none_bool (bI I q (by simp))
  |int j=>obtain ⟨t',rfl⟩:=ry;exact PySem.EqNone.ne_none_int (bI I q (by simp))
  |str j=>obtain ⟨t',rfl⟩:=ry;exact PySem.EqNone.ne_none_str (bI I q (by simp))
  |_=>exact absurd (show false=true from hs) AC
 |bl i=>
  cases rx;cases y with
  |non=>cases ry;exact PySem.EqNone.ne_bool_none (bI I q (by simp))
  |bl j=>cases ry;exact ne_bool (bI I q (congrArg not aEm))
  |str j=>obtain ⟨t',rfl⟩:=ry;exact PySem.EqMixed.ne_bool_str (bI I q (by simp))
  |_=>exact absurd (show false=true from hs) AC
 |int i=>
  obtain ⟨t,rfl⟩:=rx;cases y with
  |non=>cases ry;exact PySem.EqNone.ne_int_none (bI I q (by simp))
  |int j=>obtain ⟨t',rfl⟩:=ry;exact ne_int (bI I q (congrArg not aAs))
  |str j=>obtain ⟨t',rfl⟩:=ry;exact PySem.EqMixed.ne_int_str (bI I q (by simp))
  |_=>exact absurd (show false=true from hs) AC
 |str i=>
  obtain ⟨t,rfl⟩:=rx;cases y with
  |non=>cases ry;exact PySem.EqNone.ne_str_none (bI I q (by simp))
  |bl j=>cases ry;exact PySem.EqMixed.ne_str_bool (bI I q (by simp))
  |int j=>obtain ⟨t',rfl⟩:=ry;exact PySem.EqMixed.ne_str_int (bI I q (by simp))
  |str j=>obtain ⟨t',rfl⟩:=ry;exact ne_str (bI I q (congrArg not aAr))
  |_=>exact absurd (show false=true from hs) AC
 |byt i=>
  obtain ⟨t,rfl⟩:=rx;cases y with
  |byt j=>obtain ⟨t',rfl⟩:=ry;exact PySem.W.ne_bytes (bI I q (congrArg not aAt))
  |_=>exact absurd (show false=true from hs) AC
 |_=>cases y<;>exact absurd (show false=true from hs) AC
def yB:OpR X (BW .Lt) (rI0 λi j=>.bl (decide (i<j))):=opB0 λ_ _ _ _ _ _ _ q=>lt_int q
def aF4:OpR X (BW .LtE) (rI0 λi j=>.bl (decide (i<=j))):=opB0 λ_ _ _ _ _ _ _ q=>le_int q
def aIx:OpR X (BW .Gt) (rI0 λi j=>.bl (decide (j<i))):=opB0 λ_ _ _ _ _ _ _ q=>gt_int q
def aIy:OpR X (BW .GtE) (rI0 λi j=>.bl (decide (j<=i))):=opB0 λ_ _ _ _ _ _ _ q=>ge_int q
def yC:OpR X (BW .In) (λx y H Q=>∃ i j,x=.str i/\y=.str j/\Q (.bl (!(AE.Str.occurrences j i 0 j.length 1).isEmpty)) H):=by
 intro Z s σ H x y v u Q I rx ry h;obtain ⟨i,j,rfl,rfl,q⟩:=h;obtain ⟨t,rfl⟩:=rx;obtain ⟨t',rfl⟩:=ry;exact in_str (bI I q rfl)
def aD3:OpR X (BW .Is) (λx y H Q=>y=.non/\Q (.bl (decide (x=.non))) H):=by
 intro Z s σ H x y v u Q I rx ry h;obtain ⟨rfl,q⟩:=h;cases ry;refine is_none_gen (bI I q ?_);cases x<;>first
  |(cases rx;rfl)
  |(obtain ⟨t,rfl⟩:=rx;rfl)
def mI:OpR X (BW .IsNot) (λx y H Q=>y=.non/\Q (.bl (!decide (x=.non))) H):=by
 intro Z s σ H x y v u Q I rx ry h;obtain ⟨rfl,q⟩:=h;cases ry;refine isnot_none_gen (bI I q ?_);cases x<;>first
  |(cases rx;rfl)
  |(obtain ⟨t,rfl⟩:=rx;rfl)
def isObj:HO->Bool
 |.lst _=>true
 |.ins _ _ _=>true
 |_=>false
def aD7 (b:Expr)(h:op≠.In:=by decide)(h2:op≠.NotIn:=by decide):behindInMarks op b=false:=by
 have e1:(op==CmpOp.In)=false:=by cases op<;>first|rfl|exact absurd rfl h
 have e2:(op==CmpOp.NotIn)=false:=by cases op<;>first|rfl|exact absurd rfl h2
 cases b<;>simp [behindInMarks,e1,e2]
def dU {op:CmpOp}{r:R2}(ho:OpR X (BW op) r)(ha:PE X a ta)(hb:PE X b tb)(hm:behindInMarks op b=false:=by exact aD7 _):PE X (.Compare a [op] [b] pos) (tOp r ta tb):=by
 intro Z s σ H Q I h;exact wpAny_Compare1 (binT ha hb I h λv u s2 x y H2 I2 rx ry q=>ho Z s2 σ H2 x y v u Q I2 rx ry q) hm
def aJ9 (t:TE):TT:=λσ H Q=>t σ H (RB Q)
def aM {r:R2}(ho:OpR X (BW op) r)(ha:PE X a ta)(hb:PE X b tb)(hm:behindInMarks op b=false:=by exact aD7 _):PT X (.Compare a [op] [b] pos) (aJ9 (tOp r ta tb)):=by
 intro Z s σ H Q I h;refine wpAny_isTrue_Compare1 (thn (ha Z s σ H _ I h) λv s1 ⟨x,H1,I1,r1,q1⟩=>thn (hb Z s1 σ H1 _ I1 q1) λu s2 ⟨y,H2,I2,r2,q2⟩=>
  thn (ho Z s2 σ H2 x y v u _ I2 r1 r2 q2) λc s3 ⟨z,H3,I3,r3,k,e,q3⟩=>?_) hm
 subst e;cases r3;exact DJ ⟨H3,I3,q3⟩
def aHv (r r':R2)(ta tb tc:TE):TE:=λσ H Q=>ta σ H λx H1=>tb σ H1 λy H2=>r x y H2 λz H3=>RIf z (tc σ H3 λw' H4=>r' y w' H4 Q) (Q (.bl false) H3)
def sR {r r':R2}(ho:OpR X (BW op) r)(ho':OpR X (BW op') r')(ha:PE X a ta)(hb:PE X b tb)(hc:PE X c tc)(hm:lastMarks [op,op'] [b,c]=false:=by with_unfolding_all rfl):PE X (.Compare a [op,op'] [b,c] pos) (aHv r r' ta tb tc):=by
 intro Z s σ H Q I h;refine Compare_chain (thn (ha Z s σ H _ I h) λv s1 ⟨x,H1,I1,r1,q1⟩=>chain_link (thn (hb Z s1 σ H1 _ I1 q1) λu s2 ⟨y,H2,I2,r2,q2⟩=>
  thn (ho Z s2 σ H2 x y v u _ I2 r1 r2 q2) λd s3 ⟨z,H3,I3,r3,k,e,q3⟩=>?_)) hm
 subst e;cases r3;refine DJ ?_;cases k with
 |false=>exact ite_ff ⟨.bl false,H3,I3,rfl,q3⟩
 |true=>exact ite_tt (chain_last (thn (hc Z s3 σ H3 _ I3 q3) λw' s4 ⟨z',H4,I4,r4,q4⟩=>ho' Z s4 σ H4 y z' u w' Q I4 r2 r4 q4))
def TruV (K:Ab)(x:V)(H:Hp)(k:Bool):Prop:=
 match x with
 |.non=>k=false
 |.bl b=>k=b
 |.int i=>k=(i != 0)
 |.str y=>y.length<=Av/\k=((y.length:Int) != 0)
 |.byt y=>y.size<=Av/\k=((y.size:Int) != 0)
 |.ref p=>(∃ xs,SqL K H p xs/\k=!xs.isEmpty)\/(∃ xs,SqT K H p xs/\k=!xs.isEmpty)\/∃ kvs,H p=some (.dK kvs)/\k=!kvs.isEmpty
 |_=>False
def lJ:(Av:Nat)<2^63:=by rw [sizeLine_eq];decide
def fR:OpR X (Ep .Add) (λx y H Q=>∃ i j,x=.str i/\y=.str j/\i.length+j.length<=Av/\Q (.str (i++j)) H):=by
 intro Z s σ H x y v u Q I rx ry h;obtain ⟨i,j,rfl,rfl,hz,q⟩:=h;obtain ⟨t,rfl⟩:=rx;obtain ⟨t',rfl⟩:=ry;exact add_str (λt' tk=>⟨.str (i++j),H,I.tok _,⟨_,rfl⟩,q⟩) hz
def PlainIxT (b:Expr):Prop:=∀ o i,subscripted b false o i=operate [o,i] (getItem o i)
def vals1 (r:Vals [x] us):∃ u,us=[u]/\RelV x u:=by
 cases r with
 |cons r1 r2=>cases r2;exact ⟨_,rfl,r1⟩
def vals2 (r:Vals [x,y] us):∃ u w',us=[u,w']/\RelV x u/\RelV y w':=by
 cases r with
 |cons r1 r2=>
  cases r2 with
  |cons r3 r4=>cases r4;exact ⟨_,_,rfl,r1,r3⟩
def jH:fA X (.builtin "abs") (λxs H Q=>∃ i,xs=[.int i]/\Q (.int (if i<0 then -i else i)) H):=by
 intro Z s σ H xs us Q I r h;obtain ⟨i,rfl,q⟩:=h;obtain ⟨u,rfl,t,rfl⟩:=vals1 r;exact call_abs_int λu tk=>⟨.int (if i<0 then -i else i),H,I.tok _,⟨_,rfl⟩,q⟩
def aA4 (hc:X.calm=true):fA X (.builtin "min") (λxs H Q=>∃ i j,xs=[.int i,.int j]/\Q (.int (if j<i then j else i)) H):=by
 intro Z s σ H xs us Q I r h;obtain ⟨i,j,rfl,q⟩:=h;obtain ⟨u,w',rfl,⟨t,rfl⟩,⟨t',rfl⟩⟩:=vals2 r;refine min_two_ints (I.ok.hd hc) λh' tk k=>⟨_,H,I.kept k,?_,q⟩
 by_cases hj:j<i
 ·rw [if_pos hj,if_pos hj];exact ⟨_,rfl⟩
 ·rw [if_neg hj,if_neg hj];exact ⟨_,rfl⟩
def aA6:fA X (.type "int") (λxs H Q=>(∃ i,xs=[.int i]/\Q (.int i) H)\/∃ k,xs=[.bl k]/\Q (.int (if k then 1 else 0)) H):=by
 intro Z s σ H xs us Q I r h
 rcases h with ⟨i,rfl,q⟩|⟨k,rfl,q⟩
 ·obtain ⟨u,rfl,t,rfl⟩:=vals1 r
  exact call_int_int ⟨.int i,H,I,⟨_,rfl⟩,q⟩
 ·obtain ⟨u,rfl,r1⟩:=vals1 r
  cases r1;exact call_int_bool ⟨.int (if k then 1 else 0),H,I.tok _,⟨_,rfl⟩,q⟩
def LenV (K:Ab)(x:V)(H:Hp)(n:Nat):Prop:=
 match x with
 |.str y=>y.length<=Av/\n=y.length
 |.byt y=>y.size<=Av/\n=y.size
 |.ref p=>(∃ xs,SqL K H p xs/\n=xs.length)\/∃ xs,SqT K H p xs/\n=xs.length
 |_=>False
end
structure ObjM (h:Heap)(x dx C:Gj)(mA:Gb):Prop where
 obj:h.get? x=some (Dz C dx)
 ns:h.Ns1 dx mA
 ne:dx≠x
def zG {h:Heap}{dx:Gj}{mA:Gb}(n:h.Ns1 dx mA):∃ od,h.get? dx=some od/\∀ name,PySem.W.lookIn name od=some (mA name):=by
 obtain ⟨o,es,ep,ho,hd,hk,_,hm⟩:=n;refine ⟨o,ho,λname=>?_⟩;have e:=hm name;unfold nsFind findBy at e;rw [<- Array.find?_toList] at e;unfold PySem.W.lookIn;rw [hd];dsimp only;split
 ·rename_i y q
  rw [q] at e;exact congrArg some e
 ·rename_i q
  rw [q] at e;have a:es.toList.any (·.refKey)=false:=by
   rw [List.any_eq_false];intro y hy;obtain ⟨z,t,hkey⟩:=hk y (Array.mem_toList_iff.mp hy);simp [DictEntry.refKey,hkey]
  have a':¬ es.toList.any (·.refKey)=true:=by rw [a];exact AC
  rw [if_neg a'];exact congrArg some e
def ObjM.look (I:ObjM h x dx C mA):∃ od,PySem.W.InstAt h x (Dz C dx) C (some od)/\∀ name,PySem.W.lookIn name od=some (mA name):=
 let ⟨od,ho,hl⟩:=zG I.ns
 ⟨od,⟨I.obj,rfl,rfl,ho⟩,hl⟩
section
variable {prog:Aw}{w:World}{A:Around}{E:Ga}{s:Gm}{K:Ab}{x dx C f:Gj}{mA:Gb}{name:Str}{v:Gk}
def get_map {expr:Bool}{Q:Ga}(X:K.In s.heap)(I:ObjM s.heap x dx C mA)(hg:PySem.W.plainGet K C name=true)(hh:PySem.W.hasDictIn K C=true)
  (ha:BZ K (.ref C) name=some none) (hv:mA name=some v) (hv':PySem.W.handedIn v=true) (h:Q v { s with toks:=s.toks+1 }) :
  wpAny (model prog w) A (getAttr (.ref x) name expr) Q E s:=by
 obtain ⟨od,J,hl⟩:=I.look;exact PySem.W.get_value X J (PySem.W.plainGet_of hg).1 (PySem.W.findObj_own hh ha rfl (by rw [hl,hv])) hv' h
def aC5 {Q:Gk×Gi->Gm->Prop}(X:K.In s.heap)(I:ObjM s.heap x dx C mA)(hg:PySem.W.plainGet K C name=true)(hf:BZ K (.ref C) name=some (some (.ref f)))(ht:PySem.W.isFn K (.ref f)=true)(hv:mA name=none)(h:Q (.ref f,[.ref x]) s) :
  wpAny (model prog w) A (getMethod (.ref x) name pl) Q E s:=by
 obtain ⟨od,J,hl⟩:=I.look;exact PySem.W.method_fn X J (PySem.W.plainGet_of hg).1 (PySem.W.plainGet_of hg).2 hf (beq_iff_eq.mp ht) (by show (PySem.W.lookIn name od).map (·.isSome)=some false;rw [hl,hv];rfl) h
def aE9 {Q:Unit->Gm->Prop}(X:K.In s.heap)(I:ObjM s.heap x dx C mA)(hs:BZ K (.ref C) "__setattr__" = some (some (.builtin "object.__setattr__")))(hp:PySem.W.plainOver K C=true)(ht:PySem.W.takerIn K C name=some none)(hh:PySem.W.hasDictIn K C=true)(hw:PySem.Within mA ns)(hsz:ns.length<=Av)(h:∀ h',ObjM h' x dx C (λy=>if y=name then some v else mA y)->Cv dx s.heap h'->Q () { s with heap:=h',toks:=s.toks+2 }) :
  wpAny (model prog w) A (setAttr (.ref x) name v) Q E s:=by
 obtain ⟨od,J,hl⟩:=I.look;refine PySem.W.set_plain X J hs (PySem.W.osa_open (s:={ s with toks:=s.toks+1 }) (r:=none) X J hp ht λb=>?_);obtain ⟨cd,hc,hd'⟩:=PySem.W.any_some hh;have hx:s.heap.get? x=some ⟨.ref C,some dx,.plain,#[]⟩:=I.obj;refine Aa (Af (Aa (Aa (wpAny_loadPart hx (Aa (PySem.W.Looks.here (s:={ s with toks:=s.toks+1 }) (PySem.W.looks_clsIn X hc) ?_))))));rw [hd'];refine Af (a:=some dx) (Aa (Af (Aa ?_)));refine wpAny_nsSet1 (s:={ s with toks:=s.toks+1 }) I.ns λh' hn2 hs2=>?_;obtain ⟨oD,esD,epD,hoD,hdD,hcD⟩:=hn2.count (PySem.Within.cons name v hw);refine Aa (wpAny_lookBehind hoD (by rw [hdD];exact pastItsLine_dict (Bj hcD (by rw [AS];lia))) ?_);exact Af (h _ ⟨(hs2.2 _ (Bi I.ne)).trans I.obj,hn2,I.ne⟩ hs2)
def aCv (X:K.In s.heap)(hm:PySem.W.makesIn K C=true)(hi:BZ K (.ref C) "__init__" = some (some (.ref f)))(hf:PySem.W.typeIn K (.ref f)=some (.type "function"))(h:Eu (model prog w) (A.under (.builtin "type.__call__" ⟨.ref C::vs,kw⟩)) (.call (.ref f) ⟨.ref (s.heap.objs.size+1)::vs,kw⟩) (PySem.W.InitBack (s.heap.objs.size+1) R)
   { s with heap:=(s.heap.push CH).push (Dz C s.heap.objs.size) }) :
  Eu (model prog w) A (.call (.ref C) ⟨vs,kw⟩) R s:=by
 obtain ⟨hh,g,d,t,os⟩:=s;exact PySem.W.make_core (PySem.W.makes_of X hm) (PySem.W.looks_findIn X hi) (λself=>PySem.W.bind_fn X self hf) (.inl rfl) h
end
def putF (f:Str)(v:V):Gn->Gn
  |[]=>[(f,v)]
  |(g,x)::r=>if g=f then (g,v)::r else (g,x)::putF f v r
theorem bF (f g:Str)(v:V):∀ fs:Gn,(putF f v fs).lookup g=if g=f then some v else fs.lookup g
  |[]=>by
    show DI g [(f,v)]=_
    by_cases h:g=f
    . have hb:(g==f)=true:=beq_iff_eq.mpr h;simp only [DI,hb,if_pos h]
    . have hb:(g==f)=false:=beq_eq_false_iff_ne.mpr h;simp only [DI,hb,if_neg h]
  |(k,x)::r=>by
    have ih:=bF f g v r;rw [show putF f v ((k,x)::r)=(if k=f then (k,v)::r else (k,x)::putF f v r) from rfl]
    by_cases hk:k=f
    . rw [if_pos hk]
      by_cases h:g=k
      . have hb:(g==k)=true:=beq_iff_eq.mpr h;simp only [DI,hb,if_pos (h.trans hk)]
      . have hb:(g==k)=false:=beq_eq_false_iff_ne.mpr h;simp only [DI,hb,if_neg (λe:g=f=>h (e.trans hk.symm))]
    . rw [if_neg hk]
      by_cases h:g=k
      . have hb:(g==k)=true:=beq_iff_eq.mpr h;simp only [DI,hb,if_neg (λe:g=f=>hk (h.symm.trans e))]
      . have hb:(g==k)=false:=beq_eq_false_iff_ne.mpr h;simp only [DI,hb];exact ih
theorem kQ (f:Str)(v:V):∀ fs:Gn,f∈(putF f v fs).map (·.1)/\∀ g,g∈fs.map (·.1)->g∈(putF f v fs).map (·.1)
  |[]=>⟨by simp [putF],λg h=>by simp at h⟩
  |(k,x)::r=>by
    obtain ⟨i1,i2⟩:=kQ f v r;rw [show putF f v ((k,x)::r)=(if k=f then (k,v)::r else (k,x)::putF f v r) from rfl]
    by_cases hk:k=f
    . rw [if_pos hk];subst hk;exact ⟨by simp,λg h=>by simpa using h⟩
    . rw [if_neg hk];refine ⟨?_,λg h=>?_⟩
      . rw [Ak];exact Ah _ i1
      . rw [Ak] at h ⊢
        rcases AB.mp h with e|e
        . exact AB.mpr (.inl e)
        . exact Ah _ (i2 g e)
theorem kP (f:Str)(v:V):∀ fs:Gn,(putF f v fs).length<=fs.length+1
  |[]=>by simp [putF]
  |(k,x)::r=>by
    have ih:=kP f v r;rw [show putF f v ((k,x)::r)=(if k=f then (k,v)::r else (k,x)::putF f v r) from rfl]
    by_cases hk:k=f
    . rw [if_pos hk,AS,AS];lia
    . rw [if_neg hk,AS,AS];lia
def RelO.some_of (r:RelO (some v) o):∃ u,o=some u/\RelV v u:=by
 cases o with
 |none=>exact (show False from r).elim
 |some u=>exact ⟨u,rfl,r⟩
def RelO.none_of (r:RelO none o):o=none:=by
 cases o with
 |none=>rfl
 |some u=>exact (show False from r).elim
def zW (r:RelV v u):PySem.W.handedIn u=true:=by
 cases v with
 |non=>cases (show u=BN from r);rfl
 |bl b=>cases (show u=Value.bool b from r);rfl
 |int i=>obtain ⟨t,e⟩:=(show ∃ t,u=Value.int i t from r);cases e;rfl
 |str x=>obtain ⟨t,e⟩:=(show ∃ t,u=Value.str x t from r);cases e;rfl
 |byt b=>obtain ⟨t,e⟩:=(show ∃ t,u=Value.bytes b t from r);cases e;rfl
 |flt b=>obtain ⟨t,e⟩:=(show ∃ t,u=Value.float b t from r);cases e;rfl
 |ref a=>cases (show u=AD a from r);rfl
 |ty n=>cases (show u=Dp n from r);rfl
section
variable {P:Aw}{w:World}{H H':Hp}{h h':Heap}{a C dx:Gj}{fs fs':Gn}
def qU (hok:HOk P w H h)(e:H a=some (.ins C dx fs)):∃ mA,ObjM h a dx C mA/\(∀ f,RelO (fs.lookup f) (mA f))/\PySem.Within mA (fs.map (·.1))/\fs.length<=1000/\H dx=some (.own a):=by
 obtain ⟨d,z,ne,ob,mA,n,r,q⟩:=(show ObjOk P w H h a (.ins C dx fs) from hok a _ e);exact ⟨mA,⟨ob,n,ne⟩,r,q,z,d⟩
end
structure Cls (K:Ab)(C:Gj):Prop where
 pg:PySem.W.plainGet K C Str.empty=true
 hd:PySem.W.hasDictIn K C=true
 po:PySem.W.plainOver K C=true
 sa:BZ K (.ref C) "__setattr__" = some (some (.builtin "object.__setattr__"))
theorem Cls.get {K:Ab}{C:Gj}(c:Cls K C)(f:Str):PySem.W.plainGet K C f=true:=c.pg
def NoAttr (K:Ab)(C:Gj)(f:Str):Prop:=BZ K (.ref C) f=some none
def NoAttr.taker {K:Ab}{C:Gj}{f:Str}(n:NoAttr K C f):PySem.W.takerIn K C f=some none:=by
 unfold PySem.W.takerIn;rw [show BZ K (.ref C) f=some none from n];rfl
structure Con (K:Ab)(C:Gj)(f:Str)(v:V)(u:Gk):Prop where
 at_:BZ K (.ref C) f=some (some u)
 rel:RelV v u
 get:PySem.W.specialIn K u "__get__" = some none
 cp:PySem.W.copiedNames.contains f=false
structure Meth (K:Ab)(C:Gj)(m:Str)(f:Gj):Prop where
 at_:BZ K (.ref C) m=some (some (.ref f))
 fn:PySem.W.isFn K (.ref f)=true
 kp:CW K (.ref f)=true
section
variable {X:Cx}{Z:Ge}{σ:St}{H:Hp}{s:Gm}{a C dx:Gj}{fs:Gn}{f:Str}{v:V}{A:Around}{E:Ga}
def vJ {b:Bool}{Q:Ga}(I:Inv X Z σ H s)(e:H a=some (.ins C dx fs))(c:Cls X.K C)(n:NoAttr X.K C f)(l:fs.lookup f=some v)
  (h:∀ u s',Inv X Z σ H s'->RelV v u->Q u s'):wpAny (model X.prog X.w) A (getAttr (.ref a) f b) Q E s:=by
 obtain ⟨mA,O,r,_,_,_⟩:=qU I.hok e;obtain ⟨u,hu,ru⟩:=RelO.some_of (v:=v) (o:=mA f) (by rw [<- l];exact r f);exact get_map I.kIn O (c.get f) c.hd n hu (zW ru) (h u _ (I.tok _) ru)
def vI {Q:Gk×Gi->Gm->Prop}(I:Inv X Z σ H s)(e:H a=some (.ins C dx fs))(c:Cls X.K C)(k:Meth X.K C m g)(l:fs.lookup m=none)(h:Q (.ref g,[.ref a]) s):wpAny (model X.prog X.w) A (getMethod (.ref a) m pl) Q E s:=by
 obtain ⟨mA,O,r,_,_,_⟩:=qU I.hok e;have hn:mA m=none:=RelO.none_of (by rw [<- l];exact r m);exact aC5 I.kIn O (c.get m) k.at_ k.fn hn h
def uQ {Q:Unit->Gm->Prop}(I:Inv X Z σ H s)(e:H a=some (.ins C dx fs))(c:Cls X.K C)(n:NoAttr X.K C f)(hl:fs.length<1000)(ry:RelV y u)(h:∀ s',Inv X Z σ (upd H a (.ins C dx (putF f y fs))) s'->Q () s'):wpAny (model X.prog X.w) A (setAttr (.ref a) f u) Q E s:=by
 obtain ⟨mA,O,r,wi,_,ho⟩:=qU I.hok e;have hz:(fs.map (·.1)).length<=Av:=by rw [Ag,sizeLine_eq];lia
 refine aE9 I.kIn O c.sa c.po n.taker c.hd wi hz λh' O' sb=>h _ ?_;have hd:∃ o,h'.get? dx=some o:=let ⟨o,_,_,e',_⟩:=O'.ns;⟨o,e'⟩;refine I.write (x:=a) (e:=dx) (by rw [e];exact DE) (.inr ho) (λb q hb z=>(sb.2 b hb).trans z) hd ?_;refine ⟨by rw [aJ O.ne];exact ho,?_,O.ne,O'.obj,_,O'.ns,λg=>?_,λg hg=>?_⟩
 ·have:=kP f y fs;lia
 ·show RelO ((putF f y fs).lookup g) (if g=f then some u else mA g)
  rw [bF]
  by_cases q:g=f
  ·rw [if_pos q,if_pos q];exact ry
  ·rw [if_neg q,if_neg q];exact r g
 ·by_cases q:g=f
  ·rw [q];exact (kQ f y fs).1
  ·refine (kQ f y fs).2 g (wi g λz=>hg ?_)
   show (if g=f then some u else mA g)=none;rw [if_neg q];exact z
def Inv.made (I:Inv X Z σ H s):Inv X Z σ (upd (upd H s.heap.objs.size (.own (s.heap.objs.size+1))) (s.heap.objs.size+1) (.ins C s.heap.objs.size []))
  { s with heap:=(s.heap.push CH).push (Dz C s.heap.objs.size) }:=by
 have e1:(s.heap.push CH).get? s.heap.objs.size=some CH:=Ai s.heap rfl;have e2:((s.heap.push CH).push (Dz C s.heap.objs.size)).get? (s.heap.objs.size+1)=some (Dz C s.heap.objs.size):=by
  have:=Ai (s.heap.push CH) (o:=Dz C s.heap.objs.size) rfl;rwa [BP] at this
 have e3:(s.heap.push CH).Ns s.heap.objs.size (λ_=>none):=⟨CH,#[],_,e1,rfl,(λe he=>absurd he (by simp)),λ_=>rfl⟩;have I1:=I.laid (a:=s.heap.objs.size) (o:=.own (s.heap.objs.size+1)) (h':=s.heap.push CH) (t':=s.toks) (λb u q=>Ad _ q) (Aj _) ⟨_,e1⟩;refine I1.laid (a:=s.heap.objs.size+1) (o:=.ins C s.heap.objs.size []) (t':=s.toks) (λb u q=>Ad _ q) (Nat.le_of_eq (BP _ _)) ?_;have ne:s.heap.objs.size≠s.heap.objs.size+1:=Au (Cg _);refine ⟨by rw [aJ ne,aD],BF _,ne,e2,λ_=>none,(Heap.Ns1.of_empty e3).at λo q=>Ad _ q,λ_=>DE,λy hy=>absurd rfl hy⟩
def aG9 {w:World}{Q:Ga}(hb:ER e f env (eval e env)=eval e env)(h:wpAny (model prog w) A (eval e env) (λo s₁=>wpAny (model prog w) A (getAttr o f true) Q E s₁) E s):wpAny (model prog w) A (eval (.Attribute e f pos) env) Q E s:=
 Attribute_any_ h (by rw [arm_eval_Attribute,hb])
end
inductive RFld (K:Ab)(f:Str)(Q:VK)(x:V)(H1:Hp):Prop
 |mk (a C dx:Gj) (fs:Gn) (v:V) (e:x=.ref a) (i:H1 a=some (.ins C dx fs)) (c:Cls K C) (n:NoAttr K C f) (l:fs.lookup f=some v) (h:Q v H1)
def tFld (K:Ab)(ta:TE)(f:Str):TE:=λσ H Q=>ta σ H (RFld K f Q)
def tCon (K:Ab)(ta:TE)(f:Str):TE:=λσ H Q=>ta σ H λx H1=>∃ a C dx fs v u,x=.ref a/\H1 a=some (.ins C dx fs)/\Cls K C/\Con K C f v u/\fs.lookup f=none/\Q v H1
def sFld (K:Ab)(ta tv:TE)(f:Str):TS:=λD σ H=>tv σ H λy H1=>ta σ H1 λx H2=>∃ a C dx fs,x=.ref a/\H2 a=some (.ins C dx fs)/\Cls K C/\NoAttr K C f/\fs.length<1000 /\
 D.nx σ (upd H2 a (.ins C dx (putF f y fs)))
def InOp (X:Cx)(op:Operator)(rd:V->V->Hp->VK->Prop):Prop:=
 ∀ (Z:Ge) (s:Gm) (σ:St) (H:Hp) (x y:V) (u v:Gk) (Q:VK),Inv X Z σ H s->RelV x u->RelV y v->rd x y H Q->wpAny (model X.prog X.w) X.A (inplaceOp op u v) (EP X Z σ Q) X.xe s
def sFldAug (K:Ab)(ta tv:TE)(rd:V->V->Hp->VK->Prop)(f:Str):TS:=λD σ H=>ta σ H λx H1=>∃ a C dx fs v,x=.ref a/\H1 a=some (.ins C dx fs)/\Cls K C/\NoAttr K C f/\fs.lookup f=some v /\
 tv σ H1 λy H2=>rd v y H2 λz H3=>∃ dx' fs',H3 a=some (.ins C dx' fs')/\fs'.length<1000/\D.nx σ (upd H3 a (.ins C dx' (putF f z fs')))
section
variable {X:Cx}{o e value:Expr}{f:Str}{pos pos' tpos:Pos}{ta tv:TE}
def dA (he:PE X e ta)(hb:ER e f X.env (eval e X.env)=eval e X.env):PE X (.Attribute e f pos) (tFld X.K ta f):=by
 intro Z s σ H Q I h;refine aG9 hb (thn (he Z s σ H _ I h) λu s1 ⟨x,H1,I1,rx,a,C,dx,fs,v,ex,ea,c,n,l,q⟩=>?_);subst ex;obtain rfl:u=AD a:=rx;exact vJ I1 ea c n l λu' s2 I2 ru=>⟨v,H1,I2,ru,q⟩
def fJ (ha:PE X o ta)(hv:PE X value tv)(hs:swapsWith value (some (.Attribute o f pos')) pos.line X.env=pure false):PS X (.Assign [.Attribute o f pos'] value pos) (sFld X.K ta tv f):=by
 intro Z s σ H D I h;refine Fd (thn (hv Z s σ H _ I h) λu s1 ⟨y,H1,I1,ry,q⟩=>thn (ha Z s1 σ H1 _ I1 q) λov s2 ⟨x,H2,I2,rx,a,C,dx,fs,ex,ea,c,n,l,q2⟩=>?_) hs;subst ex;obtain rfl:ov=AD a:=rx;exact uQ I2 ea c n l ry λs3 I3=>⟨σ,_,I3,q2⟩
def rAdd:V->V->Hp->VK->Prop:=λx y H Q=>∃ i j,x=.int i/\y=.int j/\Q (.int (i+j)) H
def rSub:V->V->Hp->VK->Prop:=λx y H Q=>∃ i j,x=.int i/\y=.int j/\Q (.int (i-j)) H
end
section
variable {X:Cx}{Z:Ge}{σ:St}{H:Hp}{s:Gm}{A:Around}{E:Ga}{Q:Ga}{c:Gk}{b:Bool}
inductive TyOf (K:Ab)(H:Hp):V->Gk->Prop where
 |non:TyOf K H .non (.type "NoneType")
 |bl (x:Bool):TyOf K H (.bl x) (.type "bool")
 |int (i:Int):TyOf K H (.int i) (.type "int")
 |str (x:Str):TyOf K H (.str x) (.type "str")
 |flt (x:UInt64):TyOf K H (.flt x) (.type "float")
 |lst {a:Gj} {xs:Gq} (e:H a=some (.lst xs)):TyOf K H (.ref a) (.type "list")
 |frz {a:Gj} {o:Obj} {xs:Gq} (e:H a=some (.frz o (.lst xs))):TyOf K H (.ref a) (.type "list")
 |tup {a:Gj} {xs:Gq} (e:H a=some (.tup xs)):TyOf K H (.ref a) (.type "tuple")
 |dK {a:Gj} {kvs:Gp} (e:H a=some (.dK kvs)):TyOf K H (.ref a) (.type "dict")
 |dT {a:Gj} {kvs:List (List Key×V)} (e:H a=some (.dT kvs)):TyOf K H (.ref a) (.type "dict")
 |ins {a C dx:Gj} {fs:Gn} (e:H a=some (.ins C dx fs)) (cl:Cls K C) (ha:BZ K (.ref C) "__class__" = some (some (.builtin "object.__class__")))
   (hn:PySem.W.specialIn K (.builtin "object.__class__") "__get__" = some (some (.builtin "getset_descriptor.__get__"))) (htk:PySem.W.takesIn K (.builtin "object.__class__")=some true)
   (hm:PySem.W.mroIn K C (.type "object")=some true):TyOf K H (.ref a) (.ref C)
end
structure Room (k:Nat)(A:Around):Prop where
 hd:A.handled=none
 dp:A.depth+3*k+5<recursionLimit
 un:A.units+16*k+200<cLine
 gd:A.guards=some []
def Room.mono {j k:Nat}(r:Room k A)(h:j<=k:=by decide):Room j A:=⟨r.hd,by have:=r.dp;lia,by have:=r.un;lia,r.gd⟩
def Room.deeper {k:Nat}(r:Room (k+1) A)(env:Env):Room k (A.deeper env):=
 ⟨r.hd,by have:=r.dp;show A.depth+1+3*k+5<_;lia,by have:=r.un;show A.units+3+16*k+200<_;lia,r.gd⟩
theorem vC {A:Around}{C:Gj}{us:Gi}{kw:List (Str×Gk)}:(A.under (.builtin "type.__call__" ⟨.ref C::us,kw⟩)).depth=A.depth+1:=by
 first|rfl|simp [Around.under,Code.weight,Code.isCreation,Code.isGuard,Code.isCaller,Code.frames,Code.isFrame,guardIds]
theorem vB {A:Around}{C:Gj}{us:Gi}{kw:List (Str×Gk)}:(A.under (.builtin "type.__call__" ⟨.ref C::us,kw⟩)).units=A.units+1:=by
 first|rfl|simp [Around.under,Code.cUnits,Code.frames,Code.isFrame]
theorem qN {A:Around}{C:Gj}{us:Gi}{kw:List (Str×Gk)}:(A.under (.builtin "type.__call__" ⟨.ref C::us,kw⟩)).guards=A.guards:=by
 first|rfl|(cases h:A.guards<;>simp [Around.under,Code.guards,Code.isGuard,guardIds,pushGuards,h])
def Room.make {k:Nat}{A:Around}(r:Room (k+1) A)(C:Gj)(us:Gi)(kw:List (Str×Gk)):Room k (A.under (.builtin "type.__call__" ⟨.ref C::us,kw⟩)):=
 ⟨r.hd,by have:=r.dp;rw [vC];lia,by have:=r.un;rw [vB];lia,by rw [qN];exact r.gd⟩
theorem Room.depth {k:Nat}(r:Room k A):A.depth<recursionLimit:=by have:=r.dp;lia
def Room.units {k:Nat}(r:Room k A):A.units+64<cLine:=by have:=r.un;lia
def tNil:TA:=λ_ H Q=>Q [] H
def aBo (ta:TE)(tr:TA):TA:=λσ H Q=>ta σ H λx H1=>tr σ H1 λxs H2=>Q (x::xs) H2
section
variable {X:Cx}{e:Expr}{es:List Expr}{te:TE}{t:TA}{pos:Pos}
def aB:PA X [] tNil:=λ_ _ _ _ H Q I h=>DW ⟨[],H,I,.nil,h⟩
def aA (ha:PE X e te)(hr:PA X es t)(hs:AR (e::es) X.env=(false,eval e X.env)::AR es X.env:=by rfl):PA X (e::es) (aBo te t):=by
 intro pos Z s σ H Q I h;rw [hs];show wpAny _ _ (spliced ((false,eval e X.env)::backTo pos (AR es X.env))) _ _ s;refine Ds (thn (ha Z s σ H _ I h) λu s1 ⟨x,H1,I1,r1,q1⟩=>?_);exact thn (hr pos Z s1 σ H1 _ I1 q1) λus s2 ⟨xs,H2,I2,r2,q2⟩=>⟨x::xs,H2,I2,.cons r1 r2,q2⟩
def tTup (t:TA):TE:=λσ H Q=>t σ H λxs H1=>xs.length<=Av/\∀ p,H1 p=none->Q (.ref p) (upd H1 p (.tup xs))
def tLst (t:TA):TE:=λσ H Q=>t σ H λxs H1=>xs.length<=Av/\∀ p,H1 p=none->Q (.ref p) (upd H1 p (.lst xs))
def aT {x1}(h:PA X es t):PE X (.Tuple es x1 pos) (tTup t):=by
 intro Z s σ H Q I hq;refine wpAny_Tuple_spliced (thn (h pos Z s σ H _ I hq) λus s1 ⟨xs,H1,I1,r,z,q⟩=>⟨by rw [<- r.length];exact z,?_⟩);have hf:H1 s1.heap.objs.size=none:=I1.hok.fresh (Aj _);refine ⟨.ref s1.heap.objs.size,upd H1 s1.heap.objs.size (.tup xs),I1.laid (t':=s1.toks) (λb u e=>Ad _ e) (Aj _) ?_,rfl,q _ hf⟩;exact ⟨⟨z,_,Ai _ rfl,rfl⟩,us,r,⟨_,Ai _ rfl,rfl,_,rfl⟩⟩
def cZ (h:PA X es t):PE X (.List es pos) (tLst t):=by
 intro Z s σ H Q I hq;refine wpAny_List_spliced (thn (h pos Z s σ H _ I hq) λus s1 ⟨xs,H1,I1,r,z,q⟩=>⟨by rw [<- r.length];exact z,?_⟩);have hf:H1 s1.heap.objs.size=none:=I1.hok.fresh (Aj _);refine ⟨.ref s1.heap.objs.size,upd H1 s1.heap.objs.size (.lst xs),I1.laid (t':=s1.toks) (λb u e=>Ad _ e) (Aj _) ?_,rfl,q _ hf⟩;exact ⟨z,us,0,r,Ai _ rfl⟩
end
abbrev Sp:=Gq->Hp->VK->XK->Prop
abbrev CXT:=List Env->Hp->Gm->XK->Ga
structure Env0 (P:Aw)(w:World)(K:Ab)(mg:Gb)(base:Heap)(A:Around)(outer:List Env)(s:Gm)(H:Hp):Prop where
 frames:A.frames=some outer
 mod:Mod K mg base
 bs:∀ b o,base.get? b=some o->s.heap.get? b=some o/\H b=none
 bsz:base.objs.size<=s.heap.objs.size
 funs:s.heap.FunFrames base outer
 frf:∀ b∈frs outer,H b=none
 hok:HOk P w H s.heap
 bare:AllBare s.gens
def CE (outer:List Env)(P:Aw)(w:World)(H:Hp)(s:Gm)(Q:VK)(u:Gk)(s':Gm):Prop:=
 ∃ v H',s'.os=s.os/\AllBare s'.gens/\Un (frs outer) [] H H' s.heap s'.heap/\HOk P w H' s'.heap/\RelV v u/\Q v H'
def CR (CX:CXT)(outer:List Env)(P:Aw)(w:World)(H:Hp)(s:Gm)(Q:VK)(E:XK)(r:Result)(s':Gm):Prop:=
 match r with
 |.ok (.ret u)=>CE outer P w H s Q u s'
 |.ok _=>False
 |.error e=>CX outer H s E e s'
structure FnOk (P:Aw)(w:World)(K:Ab)(mg:Gb)(base:Heap)(CX:CXT)(k:Nat)(f:Gj)(fd:Ay)(ps:Gh)(sp:Sp):Prop where
 len:∀ vs H Q E,sp vs H Q E->vs.length=ps.length
 run:∀ (A:Around) (outer:List Env) (s:Gm) (H:Hp) (args:Args) (us:Gi) (vs:Gq) (Q:VK) (E:XK),Room k A->Env0 P w K mg base A outer s H->BindsTo s fd args (ps.zip us)->Vals vs us->sp vs H Q E ->
  Eu (model P w) A (.call (.ref f) args) (CR CX outer P w H s Q E) s
def FnOk.mono {P:Aw}{w:World}{K:Ab}{mg:Gb}{base:Heap}{CX:CXT}{j k:Nat}{f:Gj}{fd:Ay}{ps:Gh}{sp:Sp}(F:FnOk P w K mg base CX j f fd ps sp)(h:j<=k:=by decide) :
  FnOk P w K mg base CX k f fd ps sp:=⟨F.len,λA outer s H args us vs Q E hr=>F.run A outer s H args us vs Q E (hr.mono h)⟩
def Env0.make {P:Aw}{w:World}{K:Ab}{mg:Gb}{base:Heap}{A:Around}{outer:List Env}{s:Gm}{H:Hp}(e:Env0 P w K mg base A outer s H)(C:Gj)(us:Gi)(kw:List (Str×Gk)) :
    Env0 P w K mg base (A.under (.builtin "type.__call__" ⟨.ref C::us,kw⟩)) outer s H:=⟨by first|exact e.frames|(simpa [Around.under,Code.envs,Code.isFrame,pushEnvs] using e.frames),e.mod,e.bs,e.bsz,e.funs,e.frf,e.hok,e.bare⟩
section
variable {X:Cx}{Z:Ge}{σ:St}{H:Hp}{s s':Gm}
def Inv.env0 (I:Inv X Z σ H s):Env0 X.prog X.w X.K X.mg X.base X.A X.stack s H:=
 ⟨I.ok.frames,I.ok.mod,I.bs,Bj I.ok.bsz I.sz,I.stack,I.stkFree,I.hok,I.bare⟩
def Inv.after {Q:VK}(I:Inv X Z σ H s)(h:CE X.stack X.prog X.w H s Q u s'):EP X Z σ Q u s':=by
 obtain ⟨v,H',os,bare,un,hok,r,q⟩:=h;obtain ⟨hh,g,d,t,os'⟩:=s';obtain rfl:os'=s.os:=os;exact ⟨v,H',I.call (h':=hh) (g':=g) (d':=d) (t':=t) (ch:=[]) un hok bare (λb z=>absurd z (by simp)),r,q⟩
end
def aE3 (sp:Sp)(dvs:Gq)(E:XK)(t:TA):TE:=λσ H Q=>t σ H λvs H1=>sp (vs++dvs) H1 Q E
def tMeth (C:Gj)(m:Str)(sp:Sp)(dvs:Gq)(E:XK)(ta:TE)(t:TA):TE:=λσ H Q=>ta σ H λx H1=>∃ a dx fs,x=.ref a/\H1 a=some (.ins C dx fs)/\fs.lookup m=none /\
 t σ H1 λvs H2=>sp (x::(vs++dvs)) H2 Q E
def aKd (C:Gj)(sp:Sp)(dvs:Gq)(E:XK)(t:TA):TE:=λσ H Q=>t σ H λvs H1=>∀ x dx,H1 x=none->H1 dx=none->dx≠x ->
 sp (.ref x::(vs++dvs)) (upd (upd H1 dx (.own x)) x (.ins C dx [])) (λv H2=>v=.non/\Q (.ref x) H2) E
def Binds (K:Ab)(fd:Ay)(ps:Gh)(ds:Gi):Prop:=
 ∀ (s:Gm) (us:Gi),K.In s.heap->(us++ds).length=ps.length->BindsTo s fd ⟨us,[]⟩ (ps.zip (us++ds))
theorem Binds.all {K:Ab}{fd:Ay}{ps:Gh}(h:∀ us:Gi,us.length=ps.length->bindArgs fd ⟨us,[]⟩=pure (ps.zip us)):Binds K fd ps []:=λs us _ hl=>by
 rw [Cc] at hl ⊢;exact .of_eq (h us hl)
def hU (CX:CXT)(X:Cx)(E:XK):Prop:=∀ (Z:Ge) (σ:St) (H:Hp) (s:Gm) (e:Gk) (s':Gm),Inv X Z σ H s->CX X.stack H s E e s'->X.xe e s'
section
variable {X:Cx}{CX:CXT}{k:Nat}{f C:Gj}{fd:Ay}{ps:Gh}{sp:Sp}{dvs:Gq}{ds:Gi}{E:XK}{x m:Str}{p pos apos:Pos}{e o:Expr}{es:List Expr}{ta:TE}{t:TA}
def aDu {σ:St}{Q:VK}(F:FnOk X.prog X.w X.K X.mg X.base CX k f fd ps sp)(hr:Room k X.A)(hb:Binds X.K fd ps ds)(hd:Vals dvs ds)(hx:hU CX X E)(I:Inv X Z σ H s)(r:Vals vs us)(h:sp (vs++dvs) H Q E):wpAny (model X.prog X.w) X.A (call (.ref f) us) (EP X Z σ Q) X.xe s:=by
 have r2:Vals (vs++dvs) (us++ds):=r.append hd;have hl:(us++ds).length=ps.length:=by rw [<- r2.length];exact F.len _ _ _ _ h
 refine Fc (CI (F.run X.A X.stack s H ⟨us,[]⟩ (us++ds) (vs++dvs) Q E hr I.env0 (hb s us I.kIn hl) r2 h) λr s' hq=>?_);cases r with
 |error e=>exact hx Z σ H s e s' I hq
 |ok fl=>
  cases fl with
  |ret u=>exact I.after hq
  |next=>exact Cj hq
  |brk=>exact Cj hq
  |cont=>exact Cj hq
def aF2 (F:FnOk X.prog X.w X.K X.mg X.base CX k f fd ps sp)(hr:Room k X.A)(hg:Gl X x)(hm:X.mg x=some (.ref f))(hk:CW X.K (.ref f)=true)(hb:Binds X.K fd ps ds)(hd:Vals dvs ds)(hx:hU CX X E)
  (ha:PA X (e::es) t) (hdb:(x==("__debug__":Str))=false:=by decide) (he:AR (e::es) X.env=(false,eval e X.env)::AR es X.env:=by rfl) (hpl:(backTo pos (AR es X.env)).any (·.1)=false:=by rfl) :
  PE X (.Call (.Name x p) (e::es) [] pos) (aE3 sp dvs E t):=by
 intro Z s σ H Q I h;refine DY (iG I hg hm ?_ hdb);refine Fo (h₀:=X.base) I.ok.mod.kin hk (thn (ha pos Z s σ H _ I h) λus s1 ⟨vs,H1,I1,r,q⟩=>⟨I1.kIn,?_⟩) he hpl;exact aDu F hr hb hd hx I1 r q
structure Mk (K:Ab)(C f:Gj):Prop where
 makes:PySem.W.makesIn K C=true
 init:BZ K (.ref C) "__init__" = some (some (.ref f))
 fn:PySem.W.isFn K (.ref f)=true
 kp:CW K (.ref C)=true
def aB3 {σ:St}{Q:VK}(M:Mk X.K C f)(F:FnOk X.prog X.w X.K X.mg X.base CX k f fd ps sp)(hr:Room (k+1) X.A)(hb:Binds X.K fd ps ds)(hd:Vals dvs ds)(hx:hU CX X E)(I:Inv X Z σ H s)(r:Vals vs us)(h:∀ x dx,H x=none->H dx=none->dx≠x->sp (.ref x::(vs++dvs)) (upd (upd H dx (.own x)) x (.ins C dx [])) (λv H2=>v=.non/\Q (.ref x) H2) E) :
  wpAny (model X.prog X.w) X.A (call (.ref C) us) (EP X Z σ Q) X.xe s:=by
 have hq:=h (s.heap.objs.size+1) s.heap.objs.size (I.hok.fresh (CU _)) (I.hok.fresh (Aj _)) (Au (Cg _));have I2:=Inv.made (C:=C) I;have r2:Vals (V.ref (s.heap.objs.size+1)::(vs++dvs)) (AD (s.heap.objs.size+1)::(us++ds)):=.cons rfl (r.append hd);have hl:(AD (s.heap.objs.size+1)::us++ds).length=ps.length:=by
  have e:=r2.length;rw [F.len _ _ _ _ hq] at e;exact e.symm
 refine Fc (aCv (f:=f) I.kIn M.makes M.init (beq_iff_eq.mp M.fn) (CI (F.run _ X.stack _ _ ⟨AD (s.heap.objs.size+1)::us,[]⟩ (AD (s.heap.objs.size+1)::(us++ds)) _ _ E (hr.make C us [])
  (I2.env0.make C us []) (hb _ (AD (s.heap.objs.size+1)::us) I2.kIn hl) r2 hq) λr s' hq'=>?_))
 cases r with
 |error e=>exact hx Z σ _ _ e s' I2 hq'
 |ok fl=>
  cases fl with
  |ret u=>
   obtain ⟨v,H',I3,rv,ev,q3⟩:=I2.after hq';subst ev;exact ⟨rv,⟨V.ref (s.heap.objs.size+1),H',I3,rfl,q3⟩⟩
  |next=>exact Cj hq'
  |brk=>exact Cj hq'
  |cont=>exact Cj hq'
def kC (M:Mk X.K C f)(F:FnOk X.prog X.w X.K X.mg X.base CX k f fd ps sp)(hr:Room (k+1) X.A)(hg:Gl X x)(hm:X.mg x=some (.ref C))(hb:Binds X.K fd ps ds)(hd:Vals dvs ds)(hx:hU CX X E)
  (ha:PA X (e::es) t) (hdb:(x==("__debug__":Str))=false:=by decide) (he:AR (e::es) X.env=(false,eval e X.env)::AR es X.env:=by rfl) (hpl:(backTo pos (AR es X.env)).any (·.1)=false:=by rfl) :
  PE X (.Call (.Name x p) (e::es) [] pos) (aKd C sp dvs E t):=by
 intro Z s σ H Q I h;refine DY (iG I hg hm ?_ hdb);refine Fo (h₀:=X.base) I.ok.mod.kin M.kp (thn (ha pos Z s σ H _ I h) λus s1 ⟨vs,H1,I1,r,q⟩=>⟨I1.kIn,?_⟩) he hpl;exact aB3 M F hr hb hd hx I1 r q
end
def PK (X:Cx)(kws:List Keyword)(t:TA):Prop:=
 ∀ (pos:Pos) (Z:Ge) (s:Gm) (σ:St) (H:Hp) (Q:Gq->Hp->Prop),Inv X Z σ H s->t σ H Q->wpAny (model X.prog X.w) X.A (evalAll ((backToKw pos (keywordEach kws X.env)).map (·.2))) (AP X Z σ Q) X.xe s
section
variable {X:Cx}{CX:CXT}{k:Nat}{f C:Gj}{fd:Ay}{ps ks:Gh}{sp:Sp}{E:XK}{x m:Str}{p pos apos kpos:Pos}{e o:Expr}{es:List Expr}{kws:List Keyword}{te ta:TE}{t tk:TA}{nm:Option Str}
structure KBinds (K:Ab)(fd:Ay)(ps ks:Gh)(g:Gi->Gi->Gi)(gV:Gq->Gq->Gq):Prop where
 to:∀ (s:Gm) (us ws:Gi),K.In s.heap->(g us ws).length=ps.length->BindsTo s fd ⟨us,ks.zip ws⟩ (ps.zip (g us ws))
 rel:∀ {vs:Gq} {us:Gi} {zs:Gq} {ws:Gi},Vals vs us->Vals zs ws->Vals (gV vs zs) (g us ws)
def tCallK (sp:Sp)(gV:Gq->Gq->Gq)(E:XK)(t tk:TA):TE:=λσ H Q=>t σ H λvs H1=>tk σ H1 λzs H2=>sp (gV vs zs) H2 Q E
variable {g:Gi->Gi->Gi}{gV:Gq->Gq->Gq}
end
structure FnScope (N P:Gh)(sc:Scope):Prop where
 kind:sc.kind=.function
 co:sc.isCoroutine=false
 gen:sc.isGenerator=false
 nd:N.Nodup
 pre:N.take P.length=P
 par:∀ x∈P,sc.names.lookup x=some .local\/sc.names.lookup x=some .cell
 nofree:∀ y∈sc.names,y.2≠.free
def fnScOk {N P:Gh}{sc:Scope}(h:(sc.kind==.function&&!sc.isCoroutine&&!sc.isGenerator&&decide N.Nodup&&decide (N.take P.length=P)&&P.all (λx=>sc.names.lookup x==some .local||sc.names.lookup x==some .cell)&&sc.names.all λy=>y.2!=.free)=true:=by decide +kernel):FnScope N P sc:=by
 simp only [Cf,decide_eq_true_eq,CT,Bool.or_eq_true,beq_iff_eq,bne_iff_ne,Bool.not_eq_true'] at h
 exact ⟨h.1.1.1.1.1.1,h.1.1.1.1.1.2,h.1.1.1.1.2,h.1.1.1.2,h.1.1.2,h.1.2,h.2⟩
theorem oZ {kindOf:Str->Option Bq}{x:Str}:∀ {binds:List (Str×Gk)} {m:Gb},(∀ v,(x,v)∉binds)->bindL kindOf binds m x=m x
  |[],_,_=>rfl
  |(n,v)::r,m,h=>by
    unfold bindL;rw [oZ λw hw=>h w (Ah _ hw)];split
    . have:x≠n:=by rintro rfl;exact h v Al
      simp [this]
    . rfl
theorem pB {kindOf:Str->Option Bq}{x:Str}:∀ {binds:List (Str×Gk)} {m:Gb},(∀ v,(x,v)∉binds)->bindC kindOf binds m x=m x
  |[],_,_=>rfl
  |(n,v)::r,m,h=>by
    unfold bindC;rw [pB λw hw=>h w (Ah _ hw)];split
    . rfl
    . have:x≠n:=by rintro rfl;exact h v Al
      simp [this]
theorem pA {kindOf:Str->Option Bq}{x:Str}{v:Gk}:∀ {P:Gh} {vs:Gi} {i:Nat} {m:Gb},P.Nodup->P[i]?=some x->vs[i]?=some v->kindOf x=some .local ->
  bindL kindOf (P.zip vs) m x=some v
 |[],_,_,_,_,h,_,_=>by simp at h
 |_::_,[],_,_,_,_,h,_=>by simp at h
 |p::P,w::vs,0,m,nd,h1,h2,hk=>by
  simp at h1 h2;subst h1;subst h2;show bindL kindOf ((p,w)::P.zip vs) m p=_;unfold bindL;rw [oZ λv hv=>(Ca.mp nd).1 (EC hv).1,if_pos hk];simp
 |p::P,w::vs,i+1,m,nd,h1,h2,hk=>by
  show bindL kindOf ((p,w)::P.zip vs) m x=_;unfold bindL;exact pA (i:=i) (Ca.mp nd).2 (by simpa using h1) (by simpa using h2) hk
theorem pC {kindOf:Str->Option Bq}{x:Str}{v:Gk}:∀ {P:Gh} {vs:Gi} {i:Nat} {m:Gb},P.Nodup->P[i]?=some x->vs[i]?=some v->kindOf x≠some .local ->
  bindC kindOf (P.zip vs) m x=some v
 |[],_,_,_,_,h,_,_=>by simp at h
 |_::_,[],_,_,_,_,h,_=>by simp at h
 |p::P,w::vs,0,m,nd,h1,h2,hk=>by
  simp at h1 h2;subst h1;subst h2;show bindC kindOf ((p,w)::P.zip vs) m p=_;unfold bindC;rw [pB λv hv=>(Ca.mp nd).1 (EC hv).1,if_neg hk];simp
 |p::P,w::vs,i+1,m,nd,h1,h2,hk=>by
  show bindC kindOf ((p,w)::P.zip vs) m x=_;unfold bindC;exact pC (i:=i) (Ca.mp nd).2 (by simpa using h1) (by simpa using h2) hk
def start (N:Gh)(vs:Gq):St:=vs.map some++Cz (N.length-vs.length) none
def cxOf (CX:CXT)(P:Aw)(w:World)(K:Ab)(mg:Gb)(base:Heap)(N:Gh)(qual:Str)(scope:Scope)(f:Gj)(cd:Gk)(A:Around)(outer:List Env)(s:Gm)(H:Hp)(E:XK):Cx where
 prog:=P
 w:=w
 K:=K
 mg:=mg
 base:=base
 A:=A.deeper (envOfC qual scope s.heap.objs.size f cd)
 N:=N
 s₀:=s
 H₀:=H
 env:=envOfC qual scope s.heap.objs.size f cd
 outer:=outer
 stack:=envOfC qual scope s.heap.objs.size f cd::outer
 ex:=[]
 calm:=true
 fn:=λ_=>true
 pn:=[]
 xe:=λe s'=>wpAny (model P w) (A.deeper (envOfC qual scope s.heap.objs.size f cd)) (leaving (envOfC qual scope s.heap.objs.size f cd) e) (λ_ s''=>CX outer H s E e s'') (λe' s''=>CX outer H s E e' s'') s'
def uF {sc:Scope}{n:Nat}{x:Str}(h:sc.names.lookup x=some .cell):∃ c,(cellsFrom n sc.names []).lookup x=some c:=by
 have q:=PySem.W.cellsFrom_some sc.names n [] (.inl h);exact Option.isSome_iff_exists.mp q
def zQ {CX:CXT}{P:Aw}{w:World}{K:Ab}{mg:Gb}{base:Heap}{N ps:Gh}{qual:Str}{scope:Scope}{f:Gj}{cd:Gk}{A:Around}{outer:List Env}{s s1:Gm}{H:Hp}{E:XK}{us:Gi}{vs:Gq}
  (S:FnScope N ps scope) (hd:A.handled=none) (e0:Env0 P w K mg base A outer s H) (hl:vs.length=ps.length) (r:Vals vs us)
  (x:InCallC s s.heap.objs.size (bindL (envOfC qual scope s.heap.objs.size f cd).kindOf (ps.zip us) λ_=>none) (cellsFrom (s.heap.objs.size+1) scope.names []) (bindC (envOfC qual scope s.heap.objs.size f cd).kindOf (ps.zip us) λ_=>none) s1) :
  Inv (cxOf CX P w K mg base N qual scope f cd A outer s H E) [] (start N vs) H s1:=by
 have hpl:ps.length<=N.length:=by have:=congrArg List.length S.pre;rw [Dr] at this;lia
 obtain ⟨h1,tk,rfl,hk⟩:=x.done;have noA:∀ b:Gj,b∉(cxOf CX P w K mg base N qual scope f cd A outer s H E).ex:=λb z=>absurd (show b∈([]:List Gj) from z) (by simp);refine ⟨⟨e0.mod,S.kind,rfl,rfl,Aj _,λy z c h1 h2=>?_,λy hy=>?_,λy c _ h=>?_,λ_=>hd,Around.frames_deeper e0.frames,.inr ⟨rfl,rfl⟩,λb z=>absurd z (noA b),e0.bs,e0.bsz,λb _ _=>noA b,λb z=>absurd z (noA b),e0.funs,e0.frf⟩,
  rfl,e0.bare,Un.kept hk,⟨_,x.toInCall.ns,λi y v h1 h2 h3=>?_⟩,λy c h=>⟨_,x.cell y c h⟩,e0.hok.fresh (Aj _),λy c h=>?_,λp hp=>absurd (show p∈([]:Ge) from hp) (by simp),e0.hok.kept hk,?_⟩
 ·exact name_of_addr x.apart (De h1) (De h2)
 ·have hy:scope.names.lookup y=some .cell\/scope.names.lookup y=some .free:=hy
  rcases hy with hy|hy
  ·exact uF hy
  ·exact absurd rfl (S.nofree _ (De hy))
 ·exact Nat.le_of_lt (x.above y c (De h))
 ·have hi:i<vs.length:=by
   unfold start at h2
   by_cases hi:i<vs.length
   ·exact hi
   ·rw [AH (by simpa using hi)] at h2
    rw [List.getElem?_replicate] at h2;split at h2<;>cases h2
  have ha:vs[i]?=some v:=by
   unfold start at h2;rw [AG (by simpa using hi),Aq] at h2;cases e:vs[i]? with
   |none=>rw [e] at h2;cases h2
   |some a=>rw [e] at h2;cases h2;rfl
  obtain ⟨u,hu,rv⟩:=r.get ha;have hp:ps[i]?=some y:=by
   rw [<- S.pre,List.getElem?_take_of_lt (by lia)];exact h1
  have ndP:ps.Nodup:=by rw [<- S.pre];exact S.nd.sublist (List.take_sublist _ _)
  refine ⟨u,rv,?_⟩
  rcases S.par y (Ao hp) with k|k
  ·exact .inl ⟨k,pA ndP hp hu k⟩
  ·obtain ⟨c,e⟩:=uF (n:=s.heap.objs.size+1) k
   refine .inr ⟨.inl k,c,e,?_⟩;have q:=x.cell y c e;rw [pC ndP hp hu (by show scope.names.lookup y≠_;rw [k];decide)] at q;exact q
 ·exact e0.hok.fresh (Nat.le_of_lt (x.above y c (De h)))
 ·unfold start
  show _=N.length;rw [As,Ag,List.length_replicate];lia
def aJr {CX:CXT}{P:Aw}{w:World}{K:Ab}{mg:Gb}{base:Heap}{k:Nat}{f:Gj}{name qual:Str}{params:Arguments}{body:List Stmt}{scope:Scope}{dV kV doc pm cdv ct oc:Gk}{an od:Option Gj}
  {osl:Array (Option Gk)} {N ps:Gh} {sp:Sp} (lk:K.lookup f=some ⟨oc,od,.func (Dm name qual params body scope dV kV doc pm an cdv ct),osl⟩) (hcd:EI K cdv qual=true) (S:FnScope N ps scope)
  (len:∀ vs H Q E,sp vs H Q E->vs.length=ps.length)
  (hbody:∀ (A:Around) (outer:List Env) (s:Gm) (H:Hp) (vs:Gq) (Q:VK) (E:XK),Room k (A.deeper (envOfC qual scope s.heap.objs.size f cdv))->sp vs H Q E ->
   ∃ t,PSs (cxOf CX P w K mg base N qual scope f cdv A outer s H E) body t/\t { nx:=λ_ H'=>Q .non H',rt:=Q } (start N vs) H) :
  FnOk P w K mg base CX (k+1) f (Dm name qual params body scope dV kV doc pm an cdv ct) ps sp:=by
 refine ⟨len,λA outer s H args us vs Q E hr e0 hb r hsp=>?_⟩;have hl:=len _ _ _ _ hsp;have KX:K.In s.heap:=e0.mod.kin.keeps λb o e=>(e0.bs b o e).1;have lim:s.heap.NoLimit:=e0.mod.nolimit.keeps λb o e=>(e0.bs b o e).1;have hkind:∀ y∈ps.zip us,scope.names.lookup y.1=some .local\/(scope.names.lookup y.1=some .cell/\((cellsFrom (s.heap.objs.size+1) scope.names []).lookup y.1).isSome=true):=λ⟨n,v⟩ hy=>by
  rcases S.par n (EC hy).1 with q|q
  ·exact .inl q
  ·exact .inr ⟨q,PySem.W.cellsFrom_some _ _ _ (.inl q)⟩
 refine codeAny_call_function hr.depth (KX _ _ lk) rfl S.co S.gen rfl (PySem.W.codeRec_of KX hcd) (hb _ _ _ _ ?_);refine wpAny_newFunctionEnv_cells S.kind hkind λenv he s1 x=>?_;subst he;refine ⟨lim.keeps x.toInCall.keep,codeAny_func ?_⟩;obtain ⟨t,ht,hq⟩:=hbody A outer s H vs Q E (hr.deeper _) hsp;have I:Inv (cxOf CX P w K mg base N qual scope f cdv A outer s H E) [] (start N vs) H s1:=zQ S hr.hd e0 hl r x;refine Cy (ht [] s1 (start N vs) H _ I hq) (λfl s' hs=>?_) λe s' hs=>hs;have fin:∀ {σ':St} {H':Hp} {v:V} {u:Gk},Inv (cxOf CX P w K mg base N qual scope f cdv A outer s H E) [] σ' H' s'->RelV v u->Q v H'->CE outer P w H s Q u s':=
  λ{σ' H' v u} J rv q=>⟨v,H',J.os,J.bare,J.base,J.hok,rv,q⟩
 cases fl with
 |ret u=>
  obtain ⟨v,σ',H',J,rv,q⟩:=hs;exact fin J rv q
 |next=>
  obtain ⟨σ',H',J,q⟩:=hs;exact fin (v:=V.non) (u:=BN) J rfl q
 |brk=>
  obtain ⟨_,_,_,q⟩:=hs;exact Cj q
 |cont=>
  obtain ⟨_,_,_,q⟩:=hs;exact Cj q
section
variable {X:Cx}{x:Str}{p pos:Pos}{e:Expr}{es:List Expr}{t:TA}{id T:String}{r:Gq->Hp->VK->Prop}
def tCB (r:Gq->Hp->VK->Prop)(t:TA):TE:=λσ H Q=>t σ H λvs H1=>r vs H1 Q
def aV (hc:fA X (.builtin id) r)(hg:Gl X x)(hm:X.mg x=none)(hv:Cr x=some (.builtin id))(ha:PA X (e::es) t)(hn:x ≠ "__name__":=by decide)(hdb:(x==("__debug__":Str))=false:=by decide)
  (he:AR (e::es) X.env=(false,eval e X.env)::AR es X.env:=by rfl) (hpl:(backTo pos (AR es X.env)).any (·.1)=false:=by rfl):PE X (.Call (.Name x p) (e::es) [] pos) (tCB r t):=by
 intro Z s σ H Q I h;refine DY (fZ I hg hm hv ?_ hn hdb);exact PyProof.Rows.callWith_builtin1 (thn (ha pos Z s σ H _ I h) λus s1 ⟨vs,H1,I1,r1,q1⟩=>hc Z s1 σ H1 vs us Q I1 r1 q1) he hpl
def aY (hc:fA X (.type T) r)(hg:Gl X x)(hm:X.mg x=none)(hv:Cr x=some (.type T))(ha:PA X (e::es) t)(hn:x ≠ "__name__":=by decide)(hdb:(x==("__debug__":Str))=false:=by decide)
  (he:AR (e::es) X.env=(false,eval e X.env)::AR es X.env:=by rfl) (hpl:(backTo pos (AR es X.env)).any (·.1)=false:=by rfl):PE X (.Call (.Name x p) (e::es) [] pos) (tCB r t):=by
 intro Z s σ H Q I h;refine DY (fZ I hg hm hv ?_ hn hdb);exact BU (thn (ha pos Z s σ H _ I h) λus s1 ⟨vs,H1,I1,r1,q1⟩=>hc Z s1 σ H1 vs us Q I1 r1 q1) he hpl
end
end L2
namespace HT
open PySem PyProof.Rows
def lexLt:List Int->List Int->Bool
 |[],[]=>false
 |[],_::_=>true
 |_::_,[]=>false
 |x::xs,y::ys=>if x=y then lexLt xs ys else decide (x<y)
section
open PySem.SeqAt
open PySem.AutoSeq1 (wpAny_loadPart')
open PySem.MeetsSeq PySem.MeetsSeq2 PySem.MeetsSeq3
end
section
variable {prog:Aw}{w:World}{A:Around}{E:Ga}{s:Gm}
def cat_tup {Q:Ga}(ht:IsTup s.heap t vs.toArray)(hb:IsTup s.heap b ws.toArray)(hv:vs≠[])(h1:ws=[]->Q (.ref t) s)(h2:ws≠[]->Q (.ref s.heap.objs.size) { s with heap:=s.heap.push { cls:=.type "tuple",data:=.seq (vs++ws).toArray } })(hsz:vs.length+ws.length<=Av):wpAny (model prog w) A (Ep .Add (.ref t) (.ref b)) Q E s:=by
 obtain ⟨⟨cls,dd,data,sl⟩,ho,hc,n,hd⟩:=id ht;obtain ⟨⟨cls2,dd2,data2,sl2⟩,ho2,hc2,n2,hd2⟩:=id hb;simp only at hc hd hc2 hd2;subst hc hd hc2 hd2;have e:vs.toArray++ws.toArray=(vs++ws).toArray:=by simp
 by_cases hw:ws=[]
 ·exact concat_meets ⟨_,ho,rfl⟩ ⟨_,ho2,rfl⟩ noFill_tuple_add seq_tuple_add PySem.F.slot_tuple_add FF (FA _ _)
   (tuple_addW1 t b vs.toArray ws.toArray n n2 dd dd2 sl sl2 (by simpa using hv) (by simp [hw])) ⟨ho,ho2,h1 hw⟩
 ·refine concat_meets ⟨_,ho,rfl⟩ ⟨_,ho2,rfl⟩ noFill_tuple_add seq_tuple_add PySem.F.slot_tuple_add FF (FA _ _)
   (tuple_addW2 t b vs.toArray ws.toArray n n2 dd dd2 sl sl2 (by simpa using hv) (by simpa using hw) (by rw [An,An];exact hsz)) ⟨ho,ho2,?_⟩
  rw [e];exact h2 hw
def sIx (n d:Nat):Option Int->Nat
 |none=>d
 |some v=>if v<0 then (v+(n:Int)).toNat else min v.toNat n
theorem sIx_none (n d:Nat):sIx n d none=d:=rfl
theorem sIx_nat (n d k:Nat):sIx n d (some (k:Int))=min k n:=by
 show (if (k:Int)<0 then ((k:Int)+(n:Int)).toNat else min (k:Int).toNat n)=min k n;rw [if_neg (by lia),CK]
def aIe (n d:Nat)(hd:d<=n)(o:Option Int):sIx n d o<=n:=by
 cases o with
 |none=>exact hd
 |some v=>
  show (if v<0 then (v+(n:Int)).toNat else min v.toNat n)<=n
  by_cases hv:v<0
  ·rw [if_pos hv];lia
  ·rw [if_neg hv];exact Nat.min_le_right _ _
def aA0 (v:Int)(n d:Nat):(if v<0 then max (v+(n:Int)) 0 else min v (n:Int))=((sIx n d (some v):Nat):Int):=by
 show (if v<0 then max (v+(n:Int)) 0 else min v (n:Int))=(((if v<0 then (v+(n:Int)).toNat else min v.toNat n):Nat):Int)
 by_cases hv:v<0
 ·simp only [if_pos hv];lia
 ·simp only [if_neg hv];lia
theorem vV (lo hi:Option Int)(n:Nat):EY lo hi 1 (n:Int)=(((sIx n 0 lo:Nat):Int),((sIx n n hi:Nat):Int)):=by
 have h1:¬ ((1:Int)<0):=by lia
 unfold EY;simp only [h1,if_false];refine Prod.ext ?_ ?_
 ·cases lo with
  |none=>rfl
  |some v=>exact aA0 v n 0
 ·cases hi with
  |none=>rfl
  |some v=>exact aA0 v n n
theorem uV (i j:Nat):DR (i:Int) (j:Int) 1=j-i:=by
 unfold DR;have h1:(1:Int) > 0:=by lia
 simp only [h1,if_true,Int.ediv_one];split<;>lia
def lA {Q:Option Int->Gm->Prop}(p:IsPart v o)(h:Q o s):wpAny (model prog w) A (AE.Slice.slicePartIndex v) Q E s:=by
 cases p with
 |none=>exact slicePart_none h
 |int i t=>exact slicePart_int h
def eY {sl:Gj}{vl vu:Gk}{lo hi:Option Int}{n:Nat}{Q:Int×Int×Nat->Gm->Prop}(hs:s.heap.IsSliceOf sl vl vu .none)(pl:IsPart vl lo)(pu:IsPart vu hi)
    (h:Q (((sIx n 0 lo:Nat):Int),1,sIx n n hi-sIx n 0 lo) s):wpAny (model prog w) A (AE.Slice.sliceApplied (.ref sl) (pure (n:Int))) Q E s:=by
  obtain ⟨os,hos,hcs,hds⟩:=id hs;unfold AE.Slice.sliceApplied AE.Slice.sliceFields;refine Aa (Aa (BG hos hds (x:=vl) rfl (Aa (BG hos hds (x:=vu) rfl (Aa (BG hos hds (x:=.none) rfl (Af ?_)))))));refine Aa (slicePart_none ?_);show wpAny _ _ (if ((1:Int)==0)=true then _ else _) _ _ s;rw [if_neg (by decide)];refine Aa (lA pl (Aa (lA pu (Aa (Af ?_)))));show wpAny _ _ (match EY lo hi 1 (n:Int) with|(lo,hi)=>pure (lo,(1:Int),DR lo hi 1)) _ _ s;rw [vV lo hi n];show wpAny _ _ (pure (((sIx n 0 lo:Nat):Int),(1:Int),DR ((sIx n 0 lo:Nat):Int) ((sIx n n hi:Nat):Int) 1)) _ _ s;rw [uV];exact Af h
theorem aB8 (xs:Array Gk)(i k:Nat):((Bf k).filterMap λ(m:Nat)=>xs[((i:Int)+(m:Int)*1).toNat]?).toArray=((xs.toList.drop i).take k).toArray:=by
 have e:(λ(m:Nat)=>xs[((i:Int)+(m:Int)*1).toNat]?)=λm=>xs[i+m]?:=by
  funext m
  have:((i:Int)+(m:Int)*1).toNat=i+m:=by lia
  rw [this]
 rw [e];have:=pick_run xs i k;rw [List.filterMap_map] at this;have e2:((λx=>xs[x]?) ∘ λx=>i+x)=λm=>xs[i+m]?:=rfl;rw [e2] at this;rw [this]
def getItem_tuple_cut {t sl:Gj}{items:Array Gk}{vl vu:Gk}{lo hi:Option Int}{Q:Ga}(ht:IsTup s.heap t items)(hs:s.heap.IsSliceOf sl vl vu .none)(pl:IsPart vl lo)(pu:IsPart vu hi)
  (hw:¬ (sIx items.size 0 lo=0/\sIx items.size items.size hi=items.size))
  (h:Q (.ref s.heap.objs.size) { s with heap:=s.heap.push { cls:=.type "tuple",data:=.seq ((items.toList.drop (sIx items.size 0 lo)).take (sIx items.size items.size hi-sIx items.size 0 lo)).toArray } })
  (hsz:items.size<=Av):wpAny (model prog w) A (getItem (.ref t) (.ref sl)) Q E s:=by
 have htake:sizeOk (.seq ((items.toList.drop (sIx items.size 0 lo)).take (sIx items.size items.size hi-sIx items.size 0 lo)).toArray):=by
  show ((items.toList.drop (sIx items.size 0 lo)).take (sIx items.size items.size hi-sIx items.size 0 lo)).toArray.size<=Av;rw [An,Dr,List.length_drop,BL];lia
 have hj:sIx items.size items.size hi<=items.size:=aIe _ _ (Aj _) hi;obtain ⟨os,hos,hcs,hds⟩:=id hs;have hTs:s.TypeIs (.ref sl) "slice":=⟨os,hos,hcs⟩;unfold getItem
 try with_reducible refine BD ?_
 first|refine Aa (Af ?_)|skip
 refine Aa (wpAny_sequenceKey ht.typeIs (by decide) ?_);refine Aa (BE (name:=Da "__getitem__") ht.typeIs BY
  (Bw BY ht.typeIs entry_tuple_getitem ?_ (args_tuple_getitem _ _)))
 show wpAny _ _ (AE.Tuple.tupleItemsOf (.ref t) >>= _) _ _ s;refine Aa (tupleItemsOf_ ht ?_);refine Aa (Eg hTs ?_);rw [if_pos (by decide)];refine Aa (eY hs pl pu ?_);have hno:¬ ((((sIx items.size 0 lo:Nat):Int)==0&&(1:Int)==1&&(sIx items.size items.size hi-sIx items.size 0 lo)==items.size)=true):=by
  intro q;rw [Cf,Cf] at q;have q1:((sIx items.size 0 lo:Nat):Int)=0:=EA q.1.1;have q2:sIx items.size items.size hi-sIx items.size 0 lo=items.size:=EA q.2;exact hw ⟨by lia,by lia⟩
 show wpAny _ _ (if (((sIx items.size 0 lo:Nat):Int)==0&&(1:Int)==1&&(sIx items.size items.size hi-sIx items.size 0 lo)==items.size)=true then _ else _) _ _ s;rw [if_neg hno,aB8]
 first
  |exact Aa (m:=DU _) (Be (Af ⟨_,rfl,Af h⟩) htake)
  |exact Aa (m:=DU _) (Be (Aa (Af (Af ⟨_,rfl,Af h⟩))) htake)
  |exact Aa (Aa (m:=DU _) (Be (Af (Af ⟨_,rfl,Af h⟩)) htake))
  |exact Aa (Aa (m:=DU _) (Be (Af ⟨_,rfl,Af h⟩) htake))
end
end HT
namespace L2
abbrev TO:=St->Hp->(Option Int->Hp->Prop)->Prop
def PO (X:Cx)(e:Option Expr)(t:TO):Prop:=
 ∀ (Z:Ge) (s:Gm) (σ:St) (H:Hp) (Q:Option Int->Hp->Prop),Inv X Z σ H s->t σ H Q ->
  wpAny (model X.prog X.w) X.A (evalPart e X.env) (λu s'=>∃ o H',Inv X Z σ H' s'/\IsPart u o/\Q o H') X.xe s
def aE2:TO:=λ_ H Q=>Q none H
def aKa (t:TE):TO:=λσ H Q=>t σ H λx H1=>∃ i,x=.int i/\Q (some i) H1
section
variable {X:Cx}{e:Expr}{te:TE}{lo hi:Option Expr}{tl th:TO}{pos p2:Pos}
def gC:PO X none aE2:=by
 intro Z s σ H Q I h;rw [evalPart_none];exact Af ⟨none,H,I,.none,h⟩
def gB (h:PE X e te):PO X (some e) (aKa te):=by
 intro Z s σ H Q I hw;rw [evalPart_some];refine thn (h Z s σ H _ I hw) λu s1 ⟨x,H1,I1,r1,q1⟩=>?_;obtain ⟨i,rfl,q⟩:=q1;obtain ⟨t,rfl⟩:=r1;exact ⟨some i,H1,I1,.int i t,q⟩
def SlR (X:Cx)(r:V->Option Int->Option Int->Hp->VK->Prop):Prop:=
 ∀ (Z:Ge) (s:Gm) (σ:St) (H:Hp) (x:V) (v vl vu:Gk) (lo hi:Option Int) (sl:Gj) (Q:VK),Inv X Z σ H s->RelV x v->s.heap.IsSliceOf sl vl vu .none->IsPart vl lo->IsPart vu hi->r x lo hi H Q ->
  ∃ T id,typeLookup (.type T) "__getitem__" = pure (some (.builtin id))/\s.TypeIs v T/\wpAny (model X.prog X.w) X.A (getItem v (.ref sl)) (EP X Z σ Q) X.xe s
def tSl (r:V->Option Int->Option Int->Hp->VK->Prop)(te:TE)(tl th:TO):TE:=λσ H Q=>te σ H λx H1=>tl σ H1 λl H2=>th σ H2 λu H3=>r x l u H3 Q
def eS {r:V->Option Int->Option Int->Hp->VK->Prop}(hr:SlR X r)(he:PE X e te)(hl:PO X lo tl)(hu:PO X hi th):PE X (.Subscript e (.Slice lo hi none p2) pos) (tSl r te tl th):=by
 intro Z s σ H Q I h;refine Subscript_ (thn (he Z s σ H _ I h) λv s1 ⟨x,H1,I1,r1,q1⟩=>?_);refine wpAny_Slice (thn (hl Z s1 σ H1 _ I1 q1) λvl s2 ⟨l,H2,I2,pl,q2⟩=>thn (hu Z s2 σ H2 _ I2 q2) λvu s3 ⟨u,H3,I3,pu,q3⟩=>?_);rw [evalPart_none];refine Af ?_;have I4:Inv X Z σ H3 { s3 with heap:=s3.heap.push { cls:=.type "slice",data:=.fields #[vl,vu,.none] } }:=I3.kept (t':=s3.toks) λb ob q=>Ad _ q;obtain ⟨T,id,hT,ht,hg⟩:=hr Z { s3 with heap:=s3.heap.push { cls:=.type "slice",data:=.fields #[vl,vu,.none] } } σ H3 x v vl vu l u s3.heap.objs.size Q I4 r1 (Heap.IsSliceOf.new ..) pl pu q3;show wpAny (model X.prog X.w) X.A (subscriptTail e (.Slice lo hi none p2) v (.ref s3.heap.objs.size)) (EP X Z σ Q) X.xe { s3 with heap:=s3.heap.push { cls:=.type "slice",data:=.fields #[vl,vu,.none] } };exact tail_any (ops:=[.ref s3.heap.objs.size,v]) ht hT hg (by with_unfolding_all rfl)
def cutV (xs:Gq)(lo hi:Option Int):Gq:=(xs.drop (HT.sIx xs.length 0 lo)).take (HT.sIx xs.length xs.length hi-HT.sIx xs.length 0 lo)
def rB (xs:Gq)(lo hi:Option Int):(cutV xs lo hi).length<=xs.length:=by
 unfold cutV;rw [Dr,List.length_drop];lia
def rSlT (K:Ab):V->Option Int->Option Int->Hp->VK->Prop:=λx lo hi H Q=>∃ a xs,x=.ref a/\SqT K H a xs /\
 ¬ (HT.sIx xs.length 0 lo=0/\HT.sIx xs.length xs.length hi=xs.length)/\∀ p,H p=none->Q (.ref p) (upd H p (.tup (cutV xs lo hi)))
def aH0:SlR X (rSlT X.K):=by
 intro Z s σ H x v vl vu lo hi sl Q I rx hs pl pu h;obtain ⟨a,xs,rfl,hx,hw,q⟩:=h;cases rx;obtain ⟨its,r,ht,hz⟩:=I.tuple hx;have hlen:its.toArray.size=xs.length:=by rw [An];exact r.length.symm
 refine ⟨"tuple",_,BY.lookup,ht.typeIs,?_⟩;refine HT.getItem_tuple_cut ht hs pl pu (by rw [hlen];exact hw) ?_ (by rw [hlen];exact hz);rw [hlen];refine ⟨.ref s.heap.objs.size,_,I.laid (t':=s.toks) (o:=.tup (cutV xs lo hi)) (λb ob q=>Ad _ q) (Aj _) ?_,rfl,q _ (I.hok.fresh (Aj _))⟩;exact ⟨⟨Bj (rB xs lo hi) hz,_,Ai _ rfl,rfl⟩,_,(r.drop (HT.sIx xs.length 0 lo)).take (HT.sIx xs.length xs.length hi-HT.sIx xs.length 0 lo),IsTup.new _ _⟩
def rLtT (K:Ab):R2:=λx y H Q=>∃ a b ns ms,x=.ref a/\y=.ref b/\SqT K H a (ns.map V.int)/\SqT K H b (ms.map V.int)/\Q (.bl (HT.lexLt ns ms)) H
def aIm (K:Ab):R2:=λx y H Q=>∃ a b xs ys,x=.ref a/\y=.ref b/\SqT K H a xs/\SqT K H b ys/\xs≠[]/\xs.length+ys.length<=Av /\
 (ys=[]->Q (.ref a) H)/\(ys≠[]->∀ p,H p=none->Q (.ref p) (upd H p (.tup (xs++ys))))
def Vals.nil_iff (r:Vals xs us):us=[]↔xs=[]:=by
 cases r with
 |nil=>simp
 |cons _ _=>simp
def aF6:OpR X (Ep .Add) (aIm X.K):=by
 intro Z s σ H x y v u Q I rx ry h;obtain ⟨a,b,xs,ys,rfl,rfl,ha,hb,hx,hz,q1,q2⟩:=h;cases rx;cases ry;obtain ⟨its,r1,p1,_⟩:=I.tuple ha;obtain ⟨its2,r2,p2,_⟩:=I.tuple hb;refine HT.cat_tup p1 p2 (λz=>hx (r1.nil_iff.mp z)) (λz=>⟨.ref a,H,I,rfl,q1 (r2.nil_iff.mp z)⟩) (λz=>?_) (by rw [<- r1.length,<- r2.length];exact hz);refine ⟨.ref s.heap.objs.size,_,I.laid (t':=s.toks) (o:=.tup (xs++ys)) (λb ob q=>Ad _ q) (Aj _) ?_,rfl,q2 (λw=>z (r2.nil_iff.mpr w)) _ (I.hok.fresh (Aj _))⟩;exact ⟨⟨by rw [As];exact hz,_,Ai _ rfl,rfl⟩,_,r1.append r2,IsTup.new _ _⟩
end
def ixN (n:Nat)(i:Int):Option Nat:=if 0<=i then (if i<n then some i.toNat else none) else if -(n:Int)<=i then some (i+n).toNat else none
def atI {α:Type}(xs:List α)(i:Int):Option α:=(ixN xs.length i).bind λj=>xs[j]?
def zO {n:Nat}{i:Int}{j:Nat}(h:ixN n i=some j):seqIndex? i n=some j/\j<n/\-(n:Int)<=i/\i<n:=by
 unfold ixN at h
 by_cases h0:0<=i
 ·rw [if_pos h0] at h
  by_cases h1:i<n
  ·rw [if_pos h1] at h
   have e:i.toNat=j:=AA h;exact ⟨by rw [seqIndex_of h0 h1,e],by lia,by lia,h1⟩
  ·rw [if_neg h1] at h;cases h
 ·rw [if_neg h0] at h
  by_cases h1:-(n:Int)<=i
  ·rw [if_pos h1] at h
   have e:(i+n).toNat=j:=AA h;exact ⟨by rw [seqIndex_neg (by lia) h1,e],by lia,h1,by lia⟩
  ·rw [if_neg h1] at h;cases h
def rE {α:Type}{xs:List α}{i:Int}{v:α}(h:atI xs i=some v):∃ j,seqIndex? i xs.length=some j/\xs[j]?=some v/\j<xs.length/\-(xs.length:Int)<=i/\i<xs.length:=by
 unfold atI at h;cases e:ixN xs.length i with
 |none=>rw [e] at h;cases h
 |some j=>
  rw [e] at h;obtain ⟨h1,h2,h3,h4⟩:=zO e;exact ⟨j,h1,h,h2,h3,h4⟩
def aU {α:Type}{xs:List α}{j:Nat}{v:α}(h:xs[j]?=some v):atI xs (j:Int)=some v:=by
 have hj:j<xs.length:=(Ac.mp h).1;have e:ixN xs.length (j:Int)=some j:=by
  unfold ixN;rw [if_pos (by lia),if_pos (by lia)];simp
 unfold atI;rw [e];exact h
def aHb (b:Expr):Prop:=∀ o i,subscripted b false o i=operate [o,i] (getItem o i)
def IxR (X:Cx)(r:R2):Prop:=
 ∀ (value slice:Expr) (Z:Ge) (s:Gm) (σ:St) (H:Hp) (x y:V) (v u:Gk) (Q:VK),Inv X Z σ H s->RelV x v->RelV y u->r x y H Q ->
  subscripted slice false v u=operate [v,u] (getItem v u)->wpAny (model X.prog X.w) X.A (subscriptTail value slice v u) (EP X Z σ Q) X.xe s
def MtR (X:Cx)(id:String)(r:V->Gq->Hp->VK->Prop):Prop:=
 ∀ (Z:Ge) (s:Gm) (σ:St) (H:Hp) (x:V) (xs:Gq) (v:Gk) (us:Gi) (Q:VK),Inv X Z σ H s->RelV x v->Vals xs us->r x xs H Q ->
  wpAny (model X.prog X.w) X.A (call (.builtin id) (v::us)) (EP X Z σ Q) X.xe s
section
variable {X:Cx}{a b:Expr}{ta tb:TE}{pos:Pos}
def aZ {r:R2}(hr:IxR X r)(ha:PE X a ta)(hb:PE X b tb)(hs:aHb b):PE X (.Subscript a b pos) (tOp r ta tb):=by
 intro Z s σ H Q I h;exact Subscript_ (binT ha hb I h λv u s2 x y H2 I2 rx ry q=>hr a b Z s2 σ H2 x y v u Q I2 rx ry q (hs _ _))
inductive rIxL (K:Ab)(x y:V)(H:Hp)(Q:VK):Prop
 |mk (p:Gj) (xs:Gq) (i:Int) (v:V) (e:x=.ref p) (e':y=.int i) (q:SqL K H p xs) (a:atI xs i=some v) (h:Q v H)
inductive rIxT (K:Ab)(x y:V)(H:Hp)(Q:VK):Prop
 |mk (p:Gj) (xs:Gq) (i:Int) (v:V) (e:x=.ref p) (e':y=.int i) (q:SqT K H p xs) (a:atI xs i=some v) (h:Q v H)
def rIxS:R2:=λx y H Q=>∃ z i c,x=.str z/\y=.int i/\z.length<=Av/\atI z.cps.toList i=some c/\Q (.str ⟨#[c]⟩) H
def aX:IxR X (rIxL X.K):=by
 intro value slice Z s σ H x y v u Q I rx ry h hs;obtain ⟨p,xs,i,z,rfl,rfl,hq,he,q⟩:=h;cases rx;obtain ⟨t,rfl⟩:=ry;obtain ⟨its,r,pl,hz⟩:=I.list hq;obtain ⟨j,h1,h2,h3,h4,h5⟩:=rE he;obtain ⟨w,ew,rw'⟩:=r.get h2;have hl:=r.length;have hn:=lJ;have fin:EP X Z σ Q w s:=⟨z,H,I,rw',q⟩
 by_cases h0:0<=i
 ·have hj:i.toNat=j:=by
   rw [seqIndex_of h0 h5] at h1;exact AA h1
  exact item_listR pl.isList h0 (by lia) (by rw [hj];simpa using ew) fin hs
 ·have hj:(i+(its.toArray.size:Int)).toNat=j:=by
   rw [seqIndex_neg (by lia) h4] at h1;rw [An,<- hl];exact AA h1
  exact subscriptTail_builtinR (x:=w) pl.isList.typeIs slot_list_getitem.lookup
   (wpAny_getItem_list_neg (Q:=λr s'=>r=w/\EP X Z σ Q r s') pl.isList (by lia) (by rw [An]<;>lia) (by lia) (by rw [hj];simpa using ew) ⟨rfl,fin⟩) hs
def dB:IxR X (rIxT X.K):=by
 intro value slice Z s σ H x y v u Q I rx ry h hs;obtain ⟨p,xs,i,z,rfl,rfl,hq,he,q⟩:=h;cases rx;obtain ⟨t,rfl⟩:=ry;obtain ⟨its,r,pl,hz⟩:=I.tuple hq;obtain ⟨j,h1,h2,h3,h4,h5⟩:=rE he;obtain ⟨w,ew,rw'⟩:=r.get h2;have hl:=r.length;have hn:=lJ;have fin:EP X Z σ Q w s:=⟨z,H,I,rw',q⟩;exact subscriptTail_builtinR (x:=w) pl.typeIs slot_tuple_getitem.lookup
  (getItem_tuple (j:=j) (Q:=λr s'=>r=w/\EP X Z σ Q r s') pl (by lia) (by lia) (by rw [An,<- hl];exact h1) (by simpa using ew) ⟨rfl,fin⟩) hs
def zN:IxR X rIxS:=by
 intro value slice Z s σ H x y v u Q I rx ry h hs;obtain ⟨z,i,c,rfl,rfl,hz,he,q⟩:=h;obtain ⟨t,rfl⟩:=rx;obtain ⟨t',rfl⟩:=ry;obtain ⟨j,h1,h2,h3,h4,h5⟩:=rE he;have hl:z.cps.toList.length=z.length:=by simp [Str.length]
 rw [hl] at h1 h4 h5;have hn:=lJ;exact tail_any (typeIs_str s z t) slot_str_getitem.lookup (getItem_str (c:=c) (by
  have e1:decide (i < -(2^63:Int))=false:=decide_eq_false (by lia);have e2:decide (i ≥ 2^63)=false:=decide_eq_false (by lia);rw [e1,e2,Bool.or_false]) (by rw [h1];simpa using h2) ⟨.str ⟨#[c]⟩,H,I.tok _,⟨_,rfl⟩,q⟩) hs
def rIx (K:Ab):R2:=λx y H Q=>rIxL K x y H Q\/rIxT K x y H Q\/rIxS x y H Q
def vA (its:Gi)(n j:Nat)(u:Gk):Ed (·.setIfInBounds j u) { cls:=.type "list",data:=.seq its.toArray n }={ cls:=.type "list",data:=.seq (its.set j u).toArray n }:=by
 simp [Ed]
theorem Inv.lst {σ:St}{p:Gj}(I:Inv X Z σ H s)(h:H p=some (.lst xs)) :
  ∃ (its:Gi) (n:Nat),Vals xs its/\s.heap.get? p=some { cls:=.type "list",data:=.seq its.toArray n }/\xs.length<=Av:=by
 obtain ⟨z,its,n,r,e⟩:=I.hok p _ h;exact ⟨its,n,r,e,z⟩
def Inv.lstUpd {Z:Ge}{σ:St}{H:Hp}{s:Gm}{p:Gj}{xs ys:Gq}{its its':Gi}{n n':Nat}{f:Obj->Obj}(I:Inv X Z σ H s)(h:H p=some (.lst xs))
  (ho:s.heap.get? p=some { cls:=.type "list",data:=.seq its.toArray n }) (hf:f { cls:=.type "list",data:=.seq its.toArray n }={ cls:=.type "list",data:=.seq its'.toArray n' }) (r:Vals ys its') (hz:ys.length<=Av) (t:Nat) :
  Inv X Z σ (upd H p (.lst ys)) { s with heap:=s.heap.update p f,toks:=t }:=by
 have e:(s.heap.update p f).get? p=some { cls:=.type "list",data:=.seq its'.toArray n' }:=by
  rw [Cd f ho (by rw [hf]<;>rfl),hf]
 refine I.write (x:=p) (e:=p) (by rw [h];trivial) (.inl rfl) (λb u hb q=>(Bh _ _ (Bi hb)).trans q) ⟨_,e⟩ ?_;exact ⟨hz,its',n',r,e⟩
def aKs:V->V->V->Hp->(Hp->Prop)->Prop:=λo i v H Q=>∃ p xs k j,o=.ref p/\i=.int k/\H p=some (.lst xs)/\ixN xs.length k=some j/\Q (upd H p (.lst (xs.set j v)))
def set_list:PSet X aKs:=by
 intro Z s σ H o i v ov iv u Q I ro ri rv h;obtain ⟨p,xs,k,j,rfl,rfl,hp,hj,q⟩:=h;cases ro;obtain ⟨t,rfl⟩:=ri;obtain ⟨its,n,r,ho,hz⟩:=I.lst hp;obtain ⟨h1,h2,h3,h4⟩:=zO hj;have hl:=r.length;have hn:=lJ;have I':Inv X Z σ (upd H p (.lst (xs.set j v))) { s with heap:=s.heap.update p (Ed (·.setIfInBounds j u)) }:=
  I.lstUpd hp ho (vA its n j u) (r.set rv j) (by rw [BB];exact hz) s.toks
 by_cases h0:0<=k
 ·have hk:k.toNat=j:=by
   rw [seqIndex_of h0 h4] at h1;exact AA h1
  exact PySem.W.ki_setAt ho h0 (by lia) (by rw [An,<- hl];exact h4) (by rw [hk];exact ⟨_,I',q⟩)
 ·have hk:(k+(its.toArray.size:Int)).toNat=j:=by
   rw [seqIndex_neg (by lia) h3] at h1;rw [An,<- hl];exact AA h1
  exact PySem.W.ki_setBack ho (by lia) (by rw [An,<- hl];exact h3) (by lia) (by rw [hk];exact ⟨_,I',q⟩)
def rSlL (K:Ab):V->Option Int->Option Int->Hp->VK->Prop:=λx lo hi H Q=>∃ a xs,x=.ref a/\SqL K H a xs/\∀ p,H p=none->Q (.ref p) (upd H p (.lst (cutV xs lo hi)))
def eC:V->Bool
 |.non=>true
 |.bl _=>true
 |.int _=>true
 |.str _=>true
 |_=>false
def eqV:V->V->Bool
 |.non,.non=>true
 |.bl a,.bl b=>a==b
 |.bl a,.int b=>(if a then 1 else 0)==b
 |.int a,.bl b=>a==(if b then 1 else 0)
 |.int a,.int b=>a==b
 |.str a,.str b=>a==b
 |_,_=>false
def aEg (ry:RelV y u)(rx:RelV x v)(fy:eC y=true)(fx:eC x=true):Bz A s u v (eqV y x):=by
 cases y with
 |non=>
  cases ry;cases x with
  |non=>cases rx;exact Bz.same _
  |bl b=>cases rx;exact Bz.none_bool b
  |int b=>obtain ⟨t,rfl⟩:=rx;exact Bz.none_int b t
  |str b=>obtain ⟨t,rfl⟩:=rx;exact Bz.none_str b t
  |_=>exact absurd (show false=true from fx) AC
 |bl a=>
  cases ry;cases x with
  |non=>cases rx;exact Bz.bool_none a
  |bl b=>cases rx;exact Bz.bool_bool a b
  |int b=>obtain ⟨t,rfl⟩:=rx;exact Bz.bool_int a b t
  |str b=>obtain ⟨t,rfl⟩:=rx;exact Bz.bool_str a b t
  |_=>exact absurd (show false=true from fx) AC
 |int a=>
  obtain ⟨t',rfl⟩:=ry;cases x with
  |non=>cases rx;exact Bz.int_none a t'
  |bl b=>cases rx;exact Bz.int_bool a t' b
  |int b=>obtain ⟨t,rfl⟩:=rx;exact Bz.int_int a t' b t
  |str b=>obtain ⟨t,rfl⟩:=rx;exact Bz.int_str a t' b t
  |_=>exact absurd (show false=true from fx) AC
 |str a=>
  obtain ⟨t',rfl⟩:=ry;cases x with
  |non=>cases rx;exact Bz.str_none a t'
  |bl b=>cases rx;exact Bz.str_bool a t' b
  |int b=>obtain ⟨t,rfl⟩:=rx;exact Bz.str_int a t' b t
  |str b=>obtain ⟨t,rfl⟩:=rx;exact Bz.str_str a t' b t
  |_=>exact absurd (show false=true from fx) AC
 |_=>exact absurd (show false=true from fy) AC
def eqU (x:V)(u:Gk):Bool:=match u with
 |.none=>eqV .non x
 |.bool b=>eqV (.bl b) x
 |.int i _=>eqV (.int i) x
 |.str z _=>eqV (.str z) x
 |_=>false
theorem aEf (r:RelV y u)(f:eC y=true):eqU x u=eqV y x:=by
 cases y with
 |non=>cases r;rfl
 |bl b=>cases r;rfl
 |int i=>obtain ⟨t,rfl⟩:=r;rfl
 |str z=>obtain ⟨t,rfl⟩:=r;rfl
 |_=>exact absurd (show false=true from f) AC
theorem rF :∀ {xs:Gq} {us:Gi},Vals xs us->xs.all eC=true->us.any (eqU x)=xs.any λy=>eqV y x
 |_,_,.nil,_=>rfl
 |y::xs,u::us,.cons r t,f=>by
  rw [List.all_cons,Cf] at f;rw [Fm,Fm,aEf r f.1,rF t f.2]
theorem mJ (rx:RelV x v)(fx:eC x=true):∀ {xs:Gq} {us:Gi},Vals xs us->xs.all eC=true->∀ u∈us,Bz A s u v (eqU x u)
 |_,_,.nil,_=>λu hu=>by cases hu
 |y::xs,u::us,.cons r t,f=>λu' hu=>by
  rw [List.all_cons,Cf] at f
  rcases AB.mp hu with rfl|hu
  ·rw [aEf r f.1];exact aEg r rx f.1 fx
  ·exact mJ rx fx t f.2 u' hu
def inV (x:V)(xs:Gq):Bool:=xs.any λy=>eqV y x
inductive rIn (K:Ab)(neg:Bool)(x y:V)(H:Hp)(Q:VK):Prop
 |mk (p:Gj) (xs:Gq) (e:y=.ref p) (q:SqL K H p xs\/SqT K H p xs) (f:eC x=true) (g:xs.all eC=true) (h:Q (.bl (if neg then !inV x xs else inV x xs)) H)
def eK:OpR X (BW .In) (rIn X.K false):=by
 intro Z s σ H x y v u Q I rx ry h;obtain ⟨p,xs,rfl,hq,fx,fs,q⟩:=h;cases ry
 rcases hq with hq|hq
 ·obtain ⟨its,r,pl,hz⟩:=I.list hq
  refine SeqAt.in_listAt (eqU x) pl.isList (λw hw=>mJ rx fx r fs w (by simpa using hw)) ⟨.bl _,H,I,rfl,?_⟩;rw [show its.toArray.any (eqU x)=its.any (eqU x) by simp,rF r fs];exact q
 ·obtain ⟨its,r,pl,hz⟩:=I.tuple hq
  refine SeqAt.in_tupleAt (eqU x) pl (λw hw=>mJ rx fx r fs w (by simpa using hw)) ⟨.bl _,H,I,rfl,?_⟩;rw [show its.toArray.any (eqU x)=its.any (eqU x) by simp,rF r fs];exact q
inductive rLen (K:Ab)(xs:Gq)(H:Hp)(Q:VK):Prop
 |mk (p:Gj) (ys:Gq) (e:xs=[.ref p]) (q:SqL K H p ys\/SqT K H p ys) (h:Q (.int ys.length) H)
def bA:fA X (.builtin "len") (rLen X.K):=by
 intro Z s σ H xs us Q I r h;obtain ⟨p,ys,rfl,hq,q⟩:=h;obtain ⟨u,rfl,rx⟩:=vals1 r;cases rx;have hn:=lJ
 rcases hq with hq|hq
 ·obtain ⟨its,r',pl,hz⟩:=I.list hq
  have hlen:=r'.length;exact Calls.call_len_list pl.isList (by simp only [An]<;>lia) ⟨.int ys.length,H,I.tok _,⟨s.toks+1,by rw [An,hlen]⟩,q⟩
 ·obtain ⟨its,r',pl,hz⟩:=I.tuple hq
  have hlen:=r'.length;exact len_tuple pl (by simp only [An]<;>lia) ⟨.int ys.length,H,I.tok _,⟨s.toks+1,by rw [An,hlen]⟩,q⟩
def oU:fA X (.builtin "len") (λxs H Q=>∃ z,xs=[.str z]/\z.length<=Av/\Q (.int z.length) H):=by
 intro Z s σ H xs us Q I r h;obtain ⟨z,rfl,hz,q⟩:=h;obtain ⟨u,rfl,t,rfl⟩:=vals1 r;have hn:=lJ;exact len_str (by lia) ⟨.int z.length,H,I.tok _,⟨_,rfl⟩,q⟩
inductive rLstOf (K:Ab)(xs:Gq)(H:Hp)(Q:VK):Prop
 |mk (p:Gj) (ys:Gq) (e:xs=[.ref p]) (q:SqL K H p ys\/SqT K H p ys) (h:∀ l,H l=none->Q (.ref l) (upd H l (.lst ys)))
def bC:fA X (.type "list") (rLstOf X.K):=by
 intro Z s σ H xs us Q I r h;obtain ⟨p,ys,rfl,hq,q⟩:=h;obtain ⟨u,rfl,rx⟩:=vals1 r;cases rx;have fin:∀ (its:Gi),Vals ys its->ys.length<=Av->∀ (h':Heap) (c':Nat),(∀ b o',s.heap.get? b=some o'->h'.get? b=some o') ->
   h'.get? s.heap.objs.size=some { cls:=.type "list",dict:=none,data:=.seq its.toArray c',slots:=#[] }->EP X Z σ Q (.ref s.heap.objs.size) { s with heap:=h' }:=λits r' hz h' c' kp e=>
  ⟨.ref s.heap.objs.size,_,I.laid (t':=s.toks) kp (Aj _) (show ObjOk X.prog X.w _ h' _ (.lst ys) from ⟨hz,its,c',r',e⟩),rfl,q _ (I.hok.fresh (Aj _))⟩
 rcases hq with hq|hq
 ·obtain ⟨its,r',pl,hz⟩:=I.list hq
  have hlen:=r'.length;obtain ⟨o,ho,hc,n,hd⟩:=pl.isList;exact call_list_seq p (.inl rfl) ho hc hd (λh' c' kp e=>fin its r' hz h' c' kp e) (by simp only [An]<;>lia)
 ·obtain ⟨its,r',pl,hz⟩:=I.tuple hq
  have hlen:=r'.length;obtain ⟨o,ho,hc,n,hd⟩:=pl;exact call_list_seq p (.inr rfl) ho hc hd (λh' c' kp e=>fin its r' hz h' c' kp e) (by simp only [An]<;>lia)
def bG:fA X (.type "tuple") (λxs H Q=>∃ p ys,xs=[.ref p]/\((SqL X.K H p ys/\∀ l,H l=none->Q (.ref l) (upd H l (.tup ys)))\/(SqT X.K H p ys/\Q (.ref p) H))):=by
 intro Z s σ H xs us Q I r h;obtain ⟨p,ys,rfl,h⟩:=h;obtain ⟨u,rfl,rx⟩:=vals1 r;cases rx
 rcases h with ⟨hq,q⟩|⟨hq,q⟩
 ·obtain ⟨its,r',pl,hz⟩:=I.list hq
  have hlen:=r'.length;refine call_tuple_list pl.isList (λh' kp=>?_) (by simp only [An]<;>lia);have I1:Inv X Z σ H { s with heap:=h' }:=I.kept (t':=s.toks) kp;have I2:Inv X Z σ (upd H h'.objs.size (.tup ys)) { s with heap:=h'.push { cls:=.type "tuple",data:=.seq its.toArray } }:=
   I1.laid (t':=s.toks) (λb o e=>Ad _ e) (Aj _) (show ObjOk X.prog X.w _ _ _ (.tup ys) from ⟨⟨hz,_,Ai _ rfl,rfl⟩,its,r',IsTup.new _ _⟩)
  exact ⟨.ref h'.objs.size,_,I2,rfl,q _ (I1.hok.fresh (Aj _))⟩
 ·obtain ⟨its,r',pl,hz⟩:=I.tuple hq
  exact call_tuple_same pl ⟨.ref p,H,I,rfl,q⟩
def tyV (K:Ab)(T:String)(x:V)(H:Hp):Prop:=match x with
 |.str _=>T = "str"
 |.int _=>T = "int"
 |.ref p=>(T = "list" /\ ∃ xs,SqL K H p xs)\/(T = "tuple" /\ ∃ o,K.lookup p=some o/\o.cls=.type "tuple" /\ o.dict=none) \/
   (T = "dict" /\ ((∃ kvs,H p=some (.dK kvs))\/∃ kvs,H p=some (.dT kvs)))\/(T = "set" /\ ∃ S n,H p=some (.set S n))
 |_=>False
def aHj {σ:St}(I:Inv X Z σ H s)(r:RelV x v)(ty:tyV X.K T x H) :
  s.TypeIs v T/\∀ a,v=.ref a->∃ ob,s.heap.get? a=some ob/\ob.dict=none:=by
 cases x with
 |str z=>
  obtain ⟨t,rfl⟩:=r;cases (show T = "str" from ty);exact ⟨typeIs_str s z t,λ_ e=>nomatch e⟩
 |int i=>
  obtain ⟨t,rfl⟩:=r;cases (show T = "int" from ty);exact ⟨typeIs_int s i t,λ_ e=>nomatch e⟩
 |ref p=>
  cases r
  rcases ty with ⟨rfl,xs,hq⟩|⟨rfl,o,hk,hc,hd⟩|⟨rfl,hk⟩|⟨rfl,S,n,hk⟩
  ·obtain ⟨its,_,pl,_⟩:=I.list hq
   refine ⟨pl.isList.typeIs,λa e=>?_⟩;cases e;obtain ⟨o,n,e,c,hd,_⟩:=pl;exact ⟨o,e,hd⟩
  ·refine ⟨⟨o,I.kIn p o hk,hc⟩,λa e=>?_⟩
   cases e;exact ⟨o,I.kIn _ o hk,hd⟩
  ·have z:∃ o,s.heap.get? p=some o/\o.ExactDict:=by
    rcases hk with ⟨kvs,hk⟩|⟨kvs,hk⟩
    ·obtain ⟨_,_,_,_,o,_,_,e,ex,_⟩:=I.hok p _ hk
     exact ⟨o,e,ex⟩
    ·obtain ⟨_,_,_,_,o,_,_,e,ex,_⟩:=I.hok p _ hk
     exact ⟨o,e,ex⟩
   obtain ⟨o,e,ex⟩:=z;refine ⟨⟨o,e,ex.1⟩,λa e2=>?_⟩;cases e2;exact ⟨o,e,ex.2.1⟩
  ·obtain ⟨o,_,_,_,e,ex,_⟩:=I.hok p _ hk
   refine ⟨⟨o,e,ex.1⟩,λa e2=>?_⟩;cases e2;exact ⟨o,e,ex.2.1⟩
 |_=>exact Cj ty
def tBM0 (K:Ab)(T:String)(r:V->Gq->Hp->VK->Prop)(to:TE):TE:=λσ H Q=>to σ H λx H1=>tyV K T x H1/\r x [] H1 Q
def tBM (K:Ab)(T:String)(r:V->Gq->Hp->VK->Prop)(to:TE)(t:TA):TE:=λσ H Q=>to σ H λx H1=>tyV K T x H1/\t σ H1 λxs H2=>r x xs H2 Q
variable {o e:Expr}{es:List Expr}{to:TE}{t:TA}{name:Str}{apos cpos:Pos}{T id:String}{r:V->Gq->Hp->VK->Prop}
def iP (pa:PlainAttrs T)(slot:Slot T name id)(hty:typeOf (.builtin id)=pure (.type "method_descriptor"))(hm:MtR X id r)(ho:PE X o to)(ha:PA X (e::es) t)
  (hbase:ER o name X.env (eval o X.env)=eval o X.env:=by rfl)
  (hfew:((backTo cpos (AR (e::es) X.env)).all (λx=>!x.1)&&(backToKw cpos (keywordEach [] X.env)).all (λx=>x.1.isSome)
   && decide ((e::es).length+([]:List Keyword).length+(if ([]:List Keyword).isEmpty then 0 else 1)<30))=true:=by rfl)
  (hline:(apos.endLine==cpos.line)=true:=by rfl) (hs:AR (e::es) X.env=(false,eval e X.env)::AR es X.env:=by rfl) (hplain:(backTo cpos (AR es X.env)).any (·.1)=false:=by rfl) :
  PE X (.Call (.Attribute o name apos) (e::es) [] cpos) (tBM X.K T r to t):=by
 intro Z s σ H Q I h;refine wpAny_Call_method_late hbase hfew hline rfl (thn (ho Z s σ H _ I h) λv s1 ⟨x,H1,I1,r1,ty,q1⟩=>?_);obtain ⟨h1,h2⟩:=aHj I1 r1 ty;refine ⟨T,id,pa,slot,hty,h1,h2,?_⟩;have hA:=ha cpos Z s1 σ H1 _ I1 q1;rw [hs] at hA ⊢;refine Di (by show (false||(backTo cpos (AR es X.env)).any (·.1))=false;rw [hplain]<;>rfl) (Ef ?_);exact thn hA λus s2 ⟨vs,H2,I2,r2,q2⟩=>hm Z s2 σ H2 x vs v us Q I2 r1 r2 q2
end
def MtM (X:Cx)(id:String)(r:V->Gq->Hp->VK->Prop):Prop:=
 ∀ (Z:Ge) (s:Gm) (σ:St) (H:Hp) (x:V) (xs:Gq) (v:Gk) (us:Gi) (Q:VK),Inv X Z σ H s->RelV x v->Vals xs us->r x xs H Q ->
  wpAny (model X.prog X.w) X.A (call (.builtin id) (v::us)) (EP X Z σ Q) X.xe s
def Vals.one:∀ {x:V} {us:Gi},Vals [x] us->∃ u,us=[u]/\RelV x u
 |_,_,.cons r .nil=>⟨_,rfl,r⟩
def Vals.two:∀ {x y:V} {us:Gi},Vals [x,y] us->∃ u v,us=[u,v]/\RelV x u/\RelV y v
 |_,_,_,.cons r (.cons q .nil)=>⟨_,_,rfl,r,q⟩
section
variable {X:Cx}{Z:Ge}{σ:St}{H:Hp}{s:Gm}{l b:Gj}{xs ys zs:Gq}
def Inv.lset {its its':Gi}{n:Nat}{f:Array Gk->Array Gk}{t':Nat}(I:Inv X Z σ H s)(hH:H l=some (.lst xs))
  (e:s.heap.get? l=some { cls:=.type "list",data:=.seq its.toArray n }) (hf:f its.toArray=its'.toArray) (hv:Vals ys its') (hz:ys.length<=Av) :
  Inv X Z σ (upd H l (.lst ys)) { s with heap:=s.heap.update l (Ed f),toks:=t' }:=by
 have q:=PySem.IsL.update e f;rw [hf] at q;refine I.write (x:=l) (e:=l) (by rw [hH];exact trivial) (.inl rfl) (λb' u hb hu=>(Bh s.heap (Ed f) (Bi hb)).trans hu) ⟨_,q⟩ ?_;exact ⟨hz,its',_,hv,q⟩
def Inv.lnew {t':Nat}(I:Inv X Z σ H s)(hv:Vals ys its)(hz:ys.length<=Av) :
  Inv X Z σ (upd H s.heap.objs.size (.lst ys)) { s with heap:=s.heap.push { cls:=.type "list",data:=.seq its.toArray },toks:=t' }:=
 I.laid (λ_ _ q=>Ad _ q) (Aj _) ⟨hz,its,0,hv,Ai _ rfl⟩
theorem Inv.fresh (I:Inv X Z σ H s):H s.heap.objs.size=none:=I.hok.fresh (Aj _)
def Inv.lstM (I:Inv X Z σ H s)(hH:H l=some (.lst xs)):xs.length<=Av/\∃ (its:Gi) (n:Nat),Vals xs its/\xs.length=its.length/\s.heap.get? l=some { cls:=.type "list",data:=.seq its.toArray n }:=by
 obtain ⟨z,its,n,r,e⟩:=I.hok l _ hH;exact ⟨z,its,n,r,r.length,e⟩
end
section
variable {X:Cx}
inductive rAppend (x:V)(vs:Gq)(H:Hp)(Q:VK):Prop
 |mk (l:Gj) (xs:Gq) (y:V) (e:x=.ref l) (e':vs=[y]) (i:H l=some (.lst xs)) (z:xs.length<Av) (h:Q .non (upd H l (.lst (xs++[y]))))
def bO:MtM X "list.append" rAppend:=by
 intro Z s σ H x vs v us Q I rx rv h;obtain ⟨l,xs,y,rfl,rfl,hH,hz,q⟩:=h;cases rx;obtain ⟨u,rfl,ru⟩:=rv.one;obtain ⟨z,its,n,r,hl,e⟩:=I.lstM hH;refine call_meets F.slot_list_append ⟨_,e,rfl⟩ F.entry_list_append (F.args_list_append_2 _ _) (PySem.list_append l its.toArray n u (by rw [An];lia)) ⟨e,?_⟩;refine ⟨.non,_,I.lset (its':=its++[u]) hH e (by simp) (r.append (.cons ru .nil)) ?_,rfl,q⟩;rw [As,Bo];lia
def rExtend:V->Gq->Hp->VK->Prop:=λx vs H Q=>∃ l b xs zs,x=.ref l/\vs=[.ref b]/\H l=some (.lst xs)/\H b=some (.lst zs)/\xs.length+zs.length<=Av/\Q .non (upd H l (.lst (xs++zs)))
def rPop:V->Gq->Hp->VK->Prop:=λx vs H Q=>∃ l xs y,x=.ref l/\vs=[]/\H l=some (.lst xs)/\xs[xs.length-1]?=some y/\Q y (upd H l (.lst xs.dropLast))
def rPopAt:V->Gq->Hp->VK->Prop:=λx vs H Q=>∃ l xs i k y,x=.ref l/\vs=[.int i]/\H l=some (.lst xs)/\-(2^63)<=i/\i<2^63/\seqIndex? i xs.length=some k/\xs[k]?=some y/\Q y (upd H l (.lst (xs.eraseIdx k)))
def rReverse:V->Gq->Hp->VK->Prop:=λx vs H Q=>∃ l xs,x=.ref l/\vs=[]/\H l=some (.lst xs)/\Q .non (upd H l (.lst xs.reverse))
def rClear:V->Gq->Hp->VK->Prop:=λx vs H Q=>∃ l xs,x=.ref l/\vs=[]/\H l=some (.lst xs)/\Q .non (upd H l (.lst []))
def rCat:R2:=λx y H Q=>∃ l b xs zs,x=.ref l/\y=.ref b/\H l=some (.lst xs)/\H b=some (.lst zs)/\xs.length+zs.length<=Av/\∀ p,H p=none->Q (.ref p) (upd H p (.lst (xs++zs)))
def aD4:OpR X (Ep .Add) rCat:=by
 intro Z s σ H x y v u Q I rx ry h;obtain ⟨l,b,xs,zs,rfl,rfl,hH,hB,hz,q⟩:=h;cases rx;cases ry;obtain ⟨z,its,n,r,hl,e⟩:=I.lstM hH;obtain ⟨z2,its2,n2,r2,hl2,e2⟩:=I.lstM hB;refine PySem.P.add_list e e2 ?_ (by rw [An,An];lia);have ea:its.toArray++its2.toArray=(its++its2).toArray:=by simp
 rw [ea];exact ⟨.ref _,_,I.lnew (t':=s.toks) (r.append r2) (by rw [As];lia),rfl,q _ I.fresh⟩
def rRep:R2:=λx y H Q=>∃ l k xs,x=.ref l/\y=.int k/\H l=some (.lst xs)/\-(2^63)<=k/\k<2^63/\xs.length*k.toNat<=Av /\
 ∀ p,H p=none->Q (.ref p) (upd H p (.lst (Cz k.toNat xs).flatten))
end
section
variable {prog:Aw}{w:World}{A:Around}{E:Ga}{s:Gm}
set_option maxRecDepth 100000 in
end
section
variable {X:Cx}
end
end L2
namespace Att
open PySem PySem.W PySem.Calls PyProof.Rows
def kR :∀ (ns:List Int) (vs:Gi),WellAll P h vs (ns.map WData.int)->IntsAre vs ns:=by
 intro ns
 induction ns with
 |nil=>
  intro vs w;rw [List.map_nil] at w;cases w;exact .nil
 |cons n ns ih=>
  intro vs w;rw [Ak] at w;cases w with
  |cons a b=>
   cases a;exact .cons _ _ (ih _ b)
def wQ {l:OpenLaw}{n:Nat}(hn:l.most=some n){P:Params}{h:Heap}{args:List WData}{vals:Gi}
  (hpre:l.row.toRowW.claim.pre args=true) (hwl:WellAll P h vals args) :
  ∃ a vs ns,vals=[AD a]/\args=[WData.list (ns.map WData.int)]/\h.get? a=some { cls:=.type "list",data:=.seq vs.toArray }/\IntsAre vs ns/\ns.length<=n:=by
 have hsh:WShape.hasAll [] args [.list .int]=true:=(pre_splitW hpre).1;have hc:l.pre.holds [] { args:=args }=true:=(pre_splitW hpre).2;obtain ⟨d,r,rfl,h1,h2⟩:=hasAllW_cons hsh;obtain rfl:=hasAllW_nil h2;obtain ⟨xs,rfl,h3⟩:=hasW_list h1;obtain ⟨ns,rfl⟩:=items_int h3;have hlen:ns.length<=n:=by
  unfold OpenLaw.pre at hc;have h4:(WTm.not (.lt (.lit (.int (n:Int))) (.len (.arg 0)))).holds [] { args:=[.list (ns.map .int)] }=true:=by
   have h4:=(holds_andW hc).1;rw [hn] at h4;exact h4
  have h5:=condW_of h4 (w_not (w_lt w_lit (w_len_list (w_arg rfl))));rw [Ag] at h5;refine Nat.le_of_not_lt λq=>?_;have q':(n:Int)<((ns.length:Nat):Int):=by lia
  first
   |(rw [decide_eq_true q'] at h5;exact absurd h5 (by decide))
   |(simp at h5;lia)
 cases hwl with
 |cons w1 w2=>
  cases w2;cases w1 with
  |list ho hall=>exact ⟨_,_,ns,rfl,rfl,ho,kR ns _ hall,hlen⟩
def xN (l:OpenLaw)(args:List WData):l.row.toRowW.claim.post args (.bool true) args=true:=
 postW_of (r:=l.row.toRowW) (X:=(true==true))
  (show WShape.has [] (.bool true) .bool=true by first|rfl|decide|simp [WShape.has,WShape.arms,WShape.armsAll])
  (show (WTm.eq .res (.lit (.bool true))).value [] { args:=args,res:=some (.bool true),after:=args }=some (.bool (true==true)) from w_eq_bool (w_res rfl) w_lit) rfl
def attach_call {l:OpenLaw}{n:Nat}{q:Aw}{loose:Gh}{XP:(Gb)->Heap->Prop}{YP:World->Heap->Prop}{d:DefRec}
  (hn:l.most=some n) (hdf:d.params.defaults=[])
  (call:∀ (w:World) (s₀ s₁:Gm) (mg mb:Gb) (fa:Gj) (o:Obj) (pm cd doc:Gk) (a:Gj) (vs:Gi) (ns:List Int),
   Ground q loose [] XP w s₀ mg mb s₁.heap->YP w s₁.heap ->
   s₁.heap.get? fa=some o->o.data=.func (docDef d.name d.params d.body d.scope pm cd doc)->s₁.heap.CodeRec cd d.name->mg d.name=some (.ref fa) ->
   s₁.heap.get? a=some { cls:=.type "list",data:=.seq vs.toArray }->IntsAre vs ns->ns.length<=n->s₁.gens=#[] ->
   Eu (model l.prog w) callerA (.call (.ref fa) ⟨[.ref a],[]⟩) (λr s'=>r=.ok (.ret (.bool true))/\OldK s₁.heap s'.heap/\s'.os=s₁.os/\AllBare s'.gens) s₁) :
  WalkO q loose XP YP l.row.toRowW d [] (λf vs=>PySem.call f vs):=by
 intro w s₀ s₁ mg mb G Y fa o pm cd doc dV kV ho hd hcd hD hmg hg args vals as hpre hlay hrd hwl hlo;obtain rfl:dV=.none:=Dflts.none hD hdf;obtain rfl:kV=.none:=Dflts.noKw hD;obtain ⟨a,vs,ns,rfl,rfl,hobj,hints,hlen⟩:=wQ hn hpre hwl;refine enter_call (CI (call w s₀ s₁ mg mb fa o pm cd doc a vs ns G Y ho (fd_plain hd) hcd hmg hobj hints hlen hg) λr s' hq=>?_);obtain ⟨rfl,h2,h3,h4⟩:=hq;exact ⟨.inl ⟨.bool true,.bool true,[],rfl,λ_=>rfl,.bool true,xN l _,λ_=>⟨List.Pairwise.nil,λ_ hm=>(nomatch hm)⟩⟩,h2,h3,h4⟩
section
variable {prog:Aw}{w:World}{A:Around}{E:Ga}{s:Gm}{K:Frag}
def noObjs (h:Heap):Heap:={ h with objs:=#[] }
def ledger (h:Heap)(L d:Gj):Ge:=(Bf h.objs.size).filterMap λa=>if a=L\/a=d then none else (h.get? a).map λo=>(a,o)
end
end Att
namespace L2
theorem nE:∀ {vs:Gi} {ns:List Int},IntsAre vs ns->Vals (ns.map V.int) vs
 |_,_,.nil=>.nil
 |_,_,.cons n t h=>.cons ⟨t,rfl⟩ (nE h)
def Only (H:Hp):Prop:=∀ b,H b=none\/∃ o xs,H b=some (.frz o (.lst xs))
def aCw {P:Aw}{w:World}{K:Ab}{mg mb:Gb}{CX:CXT}{k:Nat}{fa a:Gj}{fd:Ay}{x:Str}{sp:Sp}{s₁:Gm}{vs:Gi}{ns:List Int}
  (KX:K.In s₁.heap) (hns:s₁.heap.Ns AF mg) (hb:s₁.heap.Ns builtinsNs mb) (hbb:∀ x:Str,x ≠ "__name__" -> mb x=Cr x) (hlim:s₁.heap.NoLimit) (hg:s₁.gens=#[])
  (ha:s₁.heap.get? a=some { cls:=.type "list",data:=.seq vs.toArray }) (hi:IntsAre vs ns) (hl:ns.length<=Av) (hr:Room k callerA)
  (F:∀ base:Heap,K.In base->base.Ns AF mg->FnOk P w K mg base CX k fa fd [x] sp) (hbind:∀ (s:Gm) (u:Gk),BindsTo s fd ⟨[u],[]⟩ [(x,u)])
  (hsp:∀ H:Hp,Only H->SqL K H a (ns.map V.int)->sp [.ref a] H (λv _=>v=.bl true) λ_ _ _=>False)
  (hCX:∀ H e s',CX [] H s₁ (λ_ _ _=>False) e s'->False) :
  Eu (model P w) callerA (.call (.ref fa) ⟨[.ref a],[]⟩) (λr s'=>r=.ok (.ret (.bool true))/\OldK s₁.heap s'.heap/\s'.os=s₁.os/\AllBare s'.gens) s₁:=by
 have rv:=nE hi;have lenV:=hi.length;have core:∀ H:Hp,Only H->SqL K H a (ns.map V.int)->HOk P w H s₁.heap->(∀ b,H b≠none->b=a)->(H a≠none->K.lookup a=none) ->
   Eu (model P w) callerA (.call (.ref fa) ⟨[.ref a],[]⟩) (λr s'=>r=.ok (.ret (.bool true))/\OldK s₁.heap s'.heap/\s'.os=s₁.os/\AllBare s'.gens) s₁:=by
  intro H hO hS hok hA hK;have base_of:∀ {b:Gj} {o:Obj},s₁.heap.get? b=some o->H b=none->(hidT s₁.heap H).get? b=some o:=λe n=>aC1 e n;have noA:∀ {b:Gj} {o:Obj} {es:Array DictEntry} {ep:Nat},s₁.heap.get? b=some o->o.data=.dict es ep->H b=none:=λ{b o es ep} e d=>by
   cases q:H b with
   |none=>rfl
   |some u=>
    have e':b=a:=hA b (by rw [q];simp);subst e';rw [ha] at e;cases e;have d':Data.seq vs.toArray _=Data.dict es ep:=d;cases d'
  have nsK:∀ {b:Gj} {m:Gb},s₁.heap.Ns b m->(hidT s₁.heap H).Ns b m:=λ{b m} ⟨o,es,ep,e,d,r⟩=>⟨o,es,ep,base_of e (noA e d),d,r⟩;have hKb:K.In (hidT s₁.heap H):=λb o e=>base_of (KX b o e) (by
   cases q:H b with
   |none=>rfl
   |some u=>
    have e':b=a:=hA b (by rw [q];simp);subst e';rw [hK (by rw [q];simp)] at e;cases e)
  have hM:Mod K mg (hidT s₁.heap H):=⟨hKb,nsK hns,⟨mb,nsK hb,hbb⟩,let ⟨mc,h1,h2⟩:=hlim;⟨mc,nsK h1,h2⟩⟩;have e0:Env0 P w K mg (hidT s₁.heap H) callerA [] s₁ H:=⟨rfl,hM,λb o e=>aGl e,Nat.le_of_eq (zV _ _),trivial,λb hb=>absurd (show b∈([]:List Gj) from hb) (by simp),hok,.of_eq hg⟩;refine CI ((F _ hKb (nsK hns)).run callerA [] s₁ H ⟨[.ref a],[]⟩ [.ref a] [.ref a] _ _ hr e0 (hbind s₁ (.ref a)) (.cons rfl .nil) (hsp H hO hS)) λr s' h=>?_;cases r with
  |error e=>exact (hCX H e s' h).elim
  |ok fl=>
   cases fl with
   |next=>exact Cj h
   |brk=>exact Cj h
   |cont=>exact Cj h
   |ret u=>
    obtain ⟨v,H',os,bare,un,hok',r',q⟩:=h;have q':v=.bl true:=q;subst q';obtain rfl:u=Value.bool true:=r';refine ⟨rfl,OldK.of_keep λb o e=>?_,os,bare⟩;cases q:H b with
    |none=>exact un.keep b o e q (by intro z;exact absurd (show b∈([]:List Gj) from z) (by simp)) (by simp)
    |some u=>
     rcases hO b with z|⟨ob,xs,z⟩
     ·rw [q] at z;cases z
     ·have z2:=un.frzs b ob _ z
      obtain ⟨e1,_⟩:=hok b _ z;obtain ⟨e2,_⟩:=hok' b _ z2;rw [e] at e1;cases e1;exact e2
 cases hk:K.lookup a with
 |some o=>
  have e:=KX a o hk;rw [ha] at e;cases e;refine core (λ_=>none) (λ_=>.inl rfl) (.inr ⟨_,vs.toArray,_,hk,rfl,rfl,rfl,by rw [An,lenV];exact hl,by simpa using rv⟩) (λb u z=>by have z':(none:Option HO)=some u:=z;cases z') (λb z=>absurd rfl z) λz=>absurd rfl z
 |none=>
  refine core (λb=>if b=a then some (.frz { cls:=.type "list",data:=.seq vs.toArray } (.lst (ns.map V.int))) else none) (λb=>?_) (.inl (.inr ⟨{ cls:=.type "list",data:=.seq vs.toArray },if_pos rfl⟩)) (λb u z=>?_) (λb z=>?_) λ_=>hk
  ·by_cases hb:b=a
   ·exact .inr ⟨_,_,if_pos hb⟩
   ·exact .inl (if_neg hb)
  ·by_cases hb:b=a
   ·have z':=(if_pos hb).symm.trans z
    cases z';subst hb;exact ⟨ha,by rw [Ag];exact hl,vs,_,rv,ha⟩
   ·have z':=(if_neg hb).symm.trans z
    cases z'
  ·by_cases hb:b=a
   ·exact hb
   ·exact absurd (if_neg hb) z
abbrev KOf {K:Ab}{h:Heap}(_:K.In h):Ab:=K
def walk_of {l:PySem.W.OpenLaw}{n k:Nat}{q:Aw}{loose:Gh}{XP:(Gb)->Heap->Prop}{YP:World->Heap->Prop}{d:DefRec}{K:Params->Ab}{CX:World->CXT}{sp:World->Sp}{x:Str}
  (hn:l.most=some n) (hn2:n<=Av) (hdf:d.params.defaults=[]) (hr:Room k callerA)
  (hY:∀ (w:World) (h:Heap),YP w h->(K w.params).In h)
  (F:∀ (w:World) (mg:Gb) (fa:Gj) (h:Heap),(K w.params).In h->h.Ns AF mg->mg d.name=some (.ref fa) ->
   ∃ fd:Ay,(∀ (s:Gm) (u:Gk),BindsTo s fd ⟨[u],[]⟩ [(x,u)]) /\
    ∀ base:Heap,(K w.params).In base->base.Ns AF mg->FnOk l.prog w (K w.params) mg base (CX w) k fa fd [x] (sp w))
  (hsp:∀ (w:World) (H:Hp) (a:Gj) (ns:List Int),ns.length<=n->Only H->SqL (K w.params) H a (ns.map V.int)->sp w [.ref a] H (λv _=>v=.bl true) λ_ _ _=>False)
  (hCX:∀ (w:World) (H:Hp) (s:Gm) (e:Gk) (s':Gm),CX w [] H s (λ_ _ _=>False) e s'->False) :
  PySem.W.WalkO q loose XP YP l.row.toRowW d [] (λf vs=>PySem.call f vs):=by
 refine Att.attach_call hn hdf λw s₀ s₁ mg mb fa o pm cd doc a vs ns G Y ho hd hcd hmg hobj hints hlen hg=>?_;have KX:=hY w _ Y;obtain ⟨fd,hb,hF⟩:=F w mg fa _ KX G.T.g hmg;exact aCw KX G.T.g G.T.b G.T.builtins G.T.nolimit hg hobj hints (Bj hlen hn2) hr hF hb (λH hO hS=>hsp w H a ns hlen hO hS) λH e s'=>hCX w H s₁ e s'
def walk_ofK {l:PySem.W.OpenLaw}{n k:Nat}{q:Aw}{loose:Gh}{XP:(Gb)->Heap->Prop}{YP:World->Heap->Prop}{d:DefRec}{K:Params->Ab}{CX:CXT}{sp:Ab->Sp}{x:Str}
  (hn:l.most=some n) (hn2:n<=Av) (hdf:d.params.defaults=[]) (hr:Room k callerA)
  (hY:∀ (w:World) (h:Heap),YP w h->(K w.params).In h)
  (F:∀ (w:World) (mg:Gb) (fa:Gj) (h:Heap),(K w.params).In h->h.Ns AF mg->mg d.name=some (.ref fa) ->
   ∃ fd:Ay,(∀ (s:Gm) (u:Gk),BindsTo s fd ⟨[u],[]⟩ [(x,u)]) /\
    ∀ base:Heap,(K w.params).In base->base.Ns AF mg->FnOk l.prog w (K w.params) mg base CX k fa fd [x] (sp (K w.params)))
  (hsp:∀ (K:Ab) (H:Hp) (a:Gj) (ns:List Int),ns.length<=n->Only H->SqL K H a (ns.map V.int)->sp K [.ref a] H (λv _=>v=.bl true) λ_ _ _=>False)
  (hCX:∀ (H:Hp) (s:Gm) (e:Gk) (s':Gm),CX [] H s (λ_ _ _=>False) e s'->False) :
  PySem.W.WalkO q loose XP YP l.row.toRowW d [] (λf vs=>PySem.call f vs):=
 walk_of (K:=K) (CX:=λ_=>CX) (sp:=λw=>sp (K w.params)) hn hn2 hdf hr hY F (λw H a ns h1 h2 h3=>hsp (K w.params) H a ns h1 h2 h3) λ_ H s e s'=>hCX H s e s'
def inClass (s:Stmt)(j:Nat):Stmt:=match s with
 |.ClassDef _ _ _ body _ _ _ _ _ _ _=>body.getD j (.Pass ⟨0,0,0,0⟩)
 |_=>.Pass ⟨0,0,0,0⟩
def eV (s:Stmt):Arguments:=match s with
 |.FunctionDef _ a _ _ _ _ _ _ _ _=>a
 |_=>{ posonlyargs:=[],args:=[],vararg:=none,kwonlyargs:=[],kw_defaults:=[],kwarg:=none,defaults:=[] }
def dQ (s:Stmt):List Stmt:=match s with
 |.FunctionDef _ _ b _ _ _ _ _ _ _=>b
 |_=>[]
def aG (s:Stmt):Scope:=match s with
 |.FunctionDef _ _ _ _ _ _ sc _ _ _=>sc
 |_=>{ kind:=.function,names:=[],isGenerator:=false,isCoroutine:=false }
abbrev CX0:CXT:=λ_ _ _ _ _ _=>False
abbrev E0:XK:=λ_ _ _=>False
def uW :hU CX0 X E0:=λ_ _ _ _ _ _ _ h=>h.elim
structure Fun (K:Ab)(x qual:Str)(st:Stmt)(f:Gj)(fd:Ay):Prop where
 ex:∃ (oc:Gk) (od:Option Gj) (kV doc pm:Gk) (an:Option Gj) (cdv ct:Gk) (osl:Array (Option Gk)),
  fd=Dm x qual (eV st) (dQ st) (aG st) .none kV doc pm an cdv ct/\K.lookup f=some ⟨oc,od,.func fd,osl⟩/\EI K cdv qual=true
 kp:CW K (.ref f)=true
section
variable {P:Aw}{w:World}{K:Ab}{mg:Gb}{base:Heap}
def Fun.ok {x qual:Str}{st:Stmt}{f:Gj}{fd:Ay}{N ps:Gh}{k:Nat}{sp:Sp}(F:Fun K x qual st f fd)(S:FnScope N ps (aG st))(len:∀ vs H Q E,sp vs H Q E->vs.length=ps.length)
  (hbody:∀ (cdv:Gk) (A:Around) (outer:List Env) (s:Gm) (H:Hp) (vs:Gq) (Q:VK) (E:XK),Room k (A.deeper (envOfC qual (aG st) s.heap.objs.size f cdv))->sp vs H Q E ->
   ∃ t,PSs (cxOf CX0 P w K mg base N qual (aG st) f cdv A outer s H E).nox (dQ st) t/\t { nx:=λ_ H'=>Q .non H',rt:=Q } (start N vs) H):FnOk P w K mg base CX0 (k+1) f fd ps sp:=by
 obtain ⟨oc,od,kV,doc,pm,an,cdv,ct,osl,rfl,lk,hcd⟩:=F.ex;refine aJr lk hcd S len λA outer s H vs Q E hr hsp=>?_;obtain ⟨t,h,q⟩:=hbody cdv A outer s H vs Q E hr hsp;exact ⟨t,h.nox,q⟩
def Fun.okA {x qual:Str}{st:Stmt}{f:Gj}{fd:Ay}{N ps:Gh}{k:Nat}{sp:Sp}(F:Fun K x qual st f fd)(S:FnScope N ps (aG st))
    (hbody:∀ (cdv:Gk) (A:Around) (outer:List Env) (s:Gm) (H:Hp) (vs:Gq) (Q:VK) (E:XK),Room k (A.deeper (envOfC qual (aG st) s.heap.objs.size f cdv))->sp vs H Q E ->
      ∃ t,PSs (cxOf CX0 P w K mg base N qual (aG st) f cdv A outer s H E).nox (dQ st) t/\t { nx:=λ_ H'=>Q .non H',rt:=Q } (start N vs) H) (len:∀ vs H Q E,sp vs H Q E->vs.length=ps.length:=by intro _ _ _ _ h;first|(cases h;subst_vars;rfl)|(repeat (first|(obtain ⟨rfl,_⟩:=h;rfl)|(obtain ⟨_,h⟩:=h)))):FnOk P w K mg base CX0 (k+1) f fd ps sp:=F.ok S len hbody
def aJp {x qual:Str}{st:Stmt}{f:Gj}{oc:Gk}{od an:Option Gj}{osl:Array (Option Gk)}{kV doc pm cdv ct:Gk}(l:K.lookup f=some ⟨oc,od,.func (Dm x qual (eV st) (dQ st) (aG st) .none kV doc pm an cdv ct),osl⟩)
  (c:EI K cdv qual=true) (k:CW K (.ref f)=true):Fun K x qual st f (Dm x qual (eV st) (dQ st) (aG st) .none kV doc pm an cdv ct):=⟨⟨oc,od,kV,doc,pm,an,cdv,ct,osl,rfl,l,c⟩,k⟩
end
def iR {k:Nat}(hr:Room k A):A.units+1<cLine:=DS (Nat.add_le_add_left (by decide:1<=64) _) hr.units
def bQ {n:Nat}(h:n<=1000):n<Av:=DS h (by decide)
section
variable {X:Cx}
def pv (i:Nat)(hN:X.N[i]?=some x:=by rfl)(hv:Vis X.env.scope x:=by first|exact Or.inl rfl|exact Or.inr (Or.inl rfl)|exact Or.inr (Or.inr rfl))(hd:(x==("__debug__":Str))=false:=by decide)(hcd:(x==("__classdict__":Str))=false:=by decide):PE X (.Name x pos) (tVar i):=aD0 hN hv hd hcd
end
def iteF {A B:Prop}(h:B):if false=true then A else B:=by
 rw [if_neg AC];exact h
def iteT {A B:Prop}(h:A):if true=true then A else B:=by
 rw [if_pos rfl];exact h
def ite2 {c A B:Prop}[Decidable c](h1:c->A)(h2:¬ c->B):if c then A else B:=by
 by_cases h:c
 ·rw [if_pos h]
  exact h1 h
 ·rw [if_neg h]
  exact h2 h
def Same (H H':Hp):Prop:=∀ b o,H b=some o->H' b=some o
def Same.refl (H:Hp):Same H H:=λ_ _ h=>h
theorem Same.trans (a:Same H H1)(b:Same H1 H2):Same H H2:=λc o h=>b c o (a c o h)
def Same.seq {K:Ab}{H H':Hp}{a:Gj}{xs:Gq}(e:Same H H')(h:SqL K H a xs):SqL K H' a xs:=by
 rcases h with (h|⟨o,h⟩)|h
 ·exact .inl (.inl (e _ _ h))
 ·exact .inl (.inr ⟨o,e _ _ h⟩)
 ·exact .inr h
end L2
namespace GM
def G (a b:Int):Int:=(Int.gcd a b:Int)
theorem aEv {a:Int}(h:0<=a):G a 0=a:=by
 unfold G;rw [Int.gcd_zero_right];lia
theorem aJ3 (a b:Int):G b (a%b)=G a b:=by
 unfold G
 congr 1
 have e:a%b=a-b*(a/b):=by
  have:=Int.emod_add_mul_ediv a b;lia
 rw [e,Int.gcd_sub_mul_left_right,Int.gcd_comm]
def rH {a b:Int}(h:0<b):0<G a b:=by
 unfold G;have:0<Int.gcd a b:=Int.gcd_pos_of_ne_zero_right a (by lia);lia
def aBf (a b:Int):G a b∣a:=Int.gcd_dvd_left a b
def rJ (a b:Int):G a b∣b:=Int.gcd_dvd_right a b
def aBe {a b:Int}(h:0<b):G a b<=b:=Int.le_of_dvd h (rJ a b)
structure Amt (t b:Int):Prop where
 t0:0<=t
 b1:1<=b
 g:G t b=1
def iF {t b:Int}(h0:0<=t)(h1:1<=b):Amt (t/G t b) (b/G t b):=by
 have gp:=rH (a:=t) (b:=b) (by lia);refine ⟨Int.ediv_nonneg h0 (by lia),Int.ediv_pos_of_pos_of_dvd (by lia) (by lia) (rJ t b),?_⟩;unfold G at *
 have:=Int.gcd_ediv_gcd_ediv_gcd (i:=t) (j:=b) (by lia);lia
def aJf (t b:Int):t/G t b*G t b=t:=Int.ediv_mul_cancel (aBf t b)
def aJe (t b:Int):b/G t b*G t b=b:=Int.ediv_mul_cancel (rJ t b)
def aAn {t b x:Int}(h:Amt t b)(d:b∣t*x):b∣x:=by
 have g1:Int.gcd b t=1:=by have:=h.g;unfold G at this;rw [Int.gcd_comm];lia
 have:=Int.dvd_gcd_mul_iff_dvd_mul.mpr d;rw [g1] at this
 simpa using this
def vU {t b t' b':Int}(h:Amt t b)(h':Amt t' b')(e:t*b'=t'*b):t=t'/\b=b':=by
 have d1:b∣b':=aAn h ⟨t',by rw [e,BK]⟩;have d2:b'∣b:=aAn h' ⟨t,by rw [<- e,BK]⟩;have p:=h.b1;have p':=h'.b1;have eb:b=b':=Int.dvd_antisymm (by lia) (by lia) d1 d2;subst eb;exact ⟨BM (by lia) e,rfl⟩
def fO (t b:Int):t/G t b*b=t*(b/G t b):=by
 have e1:=aJf t b;have e2:=aJe t b
 calc t/G t b*b=t/G t b*(b/G t b*G t b):=by rw [e2]
  _=t/G t b*G t b*(b/G t b):=by rw [BK (b/G t b),BX]
  _=t*(b/G t b):=by rw [e1]
def aBa {t:Int}(h:0<=t):Amt t 1:=by
 refine ⟨h,by lia,?_⟩;unfold G;rw [Int.gcd_one_right];rfl
def iE {t b x y:Int}(h0:0<=t)(h1:1<=b)(h:Amt x y)(e:x*b=t*y):t/G t b=x/\b/G t b=y:=by
 have a:=iF h0 h1;refine vU a h ?_;have c:=fO t b;have gp:=rH (a:=t) (b:=b) (by lia);have e1:=aJf t b;have e2:=aJe t b;refine BM (a:=G t b) (by lia) ?_
 calc t/G t b*y*G t b=t/G t b*G t b*y:=by rw [BX,BK y,<- BX]
  _=x*b:=by rw [e1,e]
  _=x*(b/G t b)*G t b:=by rw [BX,e2]
end GM
namespace L2
inductive Isi (K:Ab)(H:Hp):V->String->Bool->Prop where
 |int_int {n}:Isi K H (.int n) "int" true
 |int_bool {n}:Isi K H (.int n) "bool" false
 |int_tuple {n}:Isi K H (.int n) "tuple" false
 |int_str {n}:Isi K H (.int n) "str" false
 |int_list {n}:Isi K H (.int n) "list" false
 |bl_int {b}:Isi K H (.bl b) "int" true
 |bl_bool {b}:Isi K H (.bl b) "bool" true
 |bl_tuple {b}:Isi K H (.bl b) "tuple" false
 |bl_str {b}:Isi K H (.bl b) "str" false
 |str_int {x}:Isi K H (.str x) "int" false
 |str_bool {x}:Isi K H (.str x) "bool" false
 |str_tuple {x}:Isi K H (.str x) "tuple" false
 |str_str {x}:Isi K H (.str x) "str" true
 |non_int:Isi K H .non "int" false
 |non_str:Isi K H .non "str" false
 |non_tuple:Isi K H .non "tuple" false
 |tup_tuple {a xs}:SqT K H a xs->Isi K H (.ref a) "tuple" true
 |tup_int {a xs}:SqT K H a xs->Isi K H (.ref a) "int" false
 |tup_str {a xs}:SqT K H a xs->Isi K H (.ref a) "str" false
 |tup_list {a xs}:SqT K H a xs->Isi K H (.ref a) "list" false
 |lst_tuple {a xs}:SqL K H a xs->Isi K H (.ref a) "tuple" false
 |lst_int {a xs}:SqL K H a xs->Isi K H (.ref a) "int" false
 |lst_str {a xs}:SqL K H a xs->Isi K H (.ref a) "str" false
 |lst_list {a xs}:SqL K H a xs->Isi K H (.ref a) "list" true
section
variable {X:Cx}
inductive rIsi (K:Ab)(xs:Gq)(H:Hp)(Q:VK):Prop
 |mk (x:V) (T:String) (b:Bool) (e:xs=[x,.ty T]) (q:Isi K H x T b) (h:Q (.bl b) H)
def eX:fA X (.builtin "isinstance") (rIsi X.K):=by
 intro Z s σ H xs us Q I r h;obtain ⟨x,T,b,rfl,hi,q⟩:=h;obtain ⟨u,w',rfl,rx,ry⟩:=vals2 r;cases ry;have f1:EP X Z σ Q (.bool b) s:=⟨.bl b,H,I,rfl,q⟩;have f2:EP X Z σ Q (.bool b) { s with toks:=s.toks+1 }:=⟨.bl b,H,I.tok _,rfl,q⟩;cases hi with
 |int_int=>obtain ⟨t,rfl⟩:=rx;exact IsiPair.int_int f1
 |int_bool=>obtain ⟨t,rfl⟩:=rx;exact IsiPair.int_bool f2
 |int_tuple=>obtain ⟨t,rfl⟩:=rx;exact IsiPair.int_tuple f2
 |int_str=>obtain ⟨t,rfl⟩:=rx;exact IsiPair.int_str f2
 |int_list=>obtain ⟨t,rfl⟩:=rx;exact IsiPair.int_list f2
 |bl_int=>cases rx;exact IsiPair.bool_int f1
 |bl_bool=>cases rx;exact IsiPair.bool_bool f1
 |bl_tuple=>cases rx;exact IsiPair.bool_tuple f2
 |bl_str=>cases rx;exact IsiPair.bool_str f2
 |str_int=>obtain ⟨t,rfl⟩:=rx;exact IsiPair.str_int f2
 |str_bool=>obtain ⟨t,rfl⟩:=rx;exact IsiPair.str_bool f2
 |str_tuple=>obtain ⟨t,rfl⟩:=rx;exact IsiPair.str_tuple f2
 |str_str=>obtain ⟨t,rfl⟩:=rx;exact IsiPair.str_str f1
 |non_int=>cases rx;exact IsiPair.NoneType_int f2
 |non_str=>cases rx;exact IsiPair.NoneType_str f2
 |non_tuple=>cases rx;exact IsiPair.NoneType_tuple f2
 |tup_tuple hq=>cases rx;obtain ⟨its,_,⟨o,e,c,_⟩,_⟩:=I.tuple hq;exact IsiPair.tuple_tuple e c f1
 |tup_int hq=>cases rx;obtain ⟨its,_,⟨o,e,c,_⟩,_⟩:=I.tuple hq;exact IsiPair.tuple_int e c f2
 |tup_str hq=>cases rx;obtain ⟨its,_,⟨o,e,c,_⟩,_⟩:=I.tuple hq;exact IsiPair.tuple_str e c f2
 |tup_list hq=>cases rx;obtain ⟨its,_,⟨o,e,c,_⟩,_⟩:=I.tuple hq;exact IsiPair.tuple_list e c f2
 |lst_tuple hq=>cases rx;obtain ⟨its,_,⟨o,n,e,c,_⟩,_⟩:=I.list hq;exact IsiPair.list_tuple e c f2
 |lst_int hq=>cases rx;obtain ⟨its,_,⟨o,n,e,c,_⟩,_⟩:=I.list hq;exact IsiPair.list_int e c f2
 |lst_str hq=>cases rx;obtain ⟨its,_,⟨o,n,e,c,_⟩,_⟩:=I.list hq;exact IsiPair.list_str e c f2
 |lst_list hq=>cases rx;obtain ⟨its,_,⟨o,n,e,c,_⟩,_⟩:=I.list hq;exact IsiPair.list_list e c f1
inductive DEq (K:Ab)(H:Hp):Nat->V->V->Bool->Prop where
 |flat {n x y}:eC x=true->eC y=true->DEq K H n x y (eqV x y)
 |same {n a}:DEq K H n (.ref a) (.ref a) true
 |tup {n a b xs ys} {e:Nat->Bool}:a≠b->SqT K H a xs->SqT K H b ys->(∀ (j:Nat) x y,xs[j]?=some x->ys[j]?=some y->DEq K H n x y (e j)) ->
   DEq K H (n+1) (.ref a) (.ref b) ((Bf (min xs.length ys.length)).all e&&xs.length==ys.length)
 |lst {n a b xs ys} {e:Nat->Bool}:a≠b->SqL K H a xs->SqL K H b ys->(∀ (j:Nat) x y,xs[j]?=some x->ys[j]?=some y->DEq K H n x y (e j)) ->
   DEq K H (n+1) (.ref a) (.ref b) ((Bf (min xs.length ys.length)).all e&&xs.length==ys.length)
def wD {σ:St}(I:Inv X Z σ H s)(hx:SqT X.K H a xs)(hy:SqT X.K H b ys)(hu:A.units<cLine)(hd:∀ (j:Nat) x y u v,xs[j]?=some x->ys[j]?=some y->RelV x u->RelV y v->Bz A.in1 s u v (e j)) :
  SeqAt.RcAt A s (.ref a) (.ref b) ((Bf (min xs.length ys.length)).all e&&xs.length==ys.length):=by
 obtain ⟨its,r,tx,_⟩:=I.tuple hx;obtain ⟨its',r',ty,_⟩:=I.tuple hy;have l1:=r.length;have l2:=r'.length;have q:=SeqAt.RcAt.tuples (A:=A) (e:=e) tx ty hu (λj h1 h2=>?_)
 ·rw [An,An,<- l1,<- l2] at q
  exact q
 ·rw [An] at h1 h2
  obtain ⟨x,hxj⟩:∃ x,xs[j]?=some x:=⟨_,Ae (by lia)⟩;obtain ⟨y,hyj⟩:∃ y,ys[j]?=some y:=⟨_,Ae (by lia)⟩;obtain ⟨u1,hu1,ru1⟩:=r.get hxj;obtain ⟨u2,hu2,ru2⟩:=r'.get hyj;have e1:its.toArray[j]=u1:=by
   have:=(Ac.mp hu1).2
   simpa using this
  have e2:its'.toArray[j]=u2:=by
   have:=(Ac.mp hu2).2
   simpa using this
  rw [e1,e2];exact hd j x y u1 u2 hxj hyj ru1 ru2
def cQ (p:PlainL h a its):h.IsList a its:=by
 obtain ⟨o,n,e,c,_,d⟩:=p;exact ⟨o,e,c,n,d⟩
def zF {σ:St}(I:Inv X Z σ H s)(hx:SqL X.K H a xs)(hy:SqL X.K H b ys)(hu:A.units<cLine)(hd:∀ (j:Nat) x y u v,xs[j]?=some x->ys[j]?=some y->RelV x u->RelV y v->Bz A.in1 s u v (e j)) :
  SeqAt.RcAt A s (.ref a) (.ref b) ((Bf (min xs.length ys.length)).all e&&xs.length==ys.length):=by
 obtain ⟨its,r,tx,_⟩:=I.list hx;obtain ⟨its',r',ty,_⟩:=I.list hy;have l1:=r.length;have l2:=r'.length
 by_cases hl:xs.length=ys.length
 ·have q:=SeqAt.RcAt.lists (A:=A) (e:=e) (cQ tx) (cQ ty) (by rw [An,An];lia) hu (λj h1 h2=>?_)
  ·rw [An,<- l1] at q
   have e1:((Bf (min xs.length ys.length)).all e&&xs.length==ys.length)=(Bf xs.length).all e:=by
    rw [<- hl,Nat.min_self,beq_self_eq_true,Bool.and_true]
   rw [e1];exact q
  ·rw [An] at h1 h2
   obtain ⟨x,hxj⟩:∃ x,xs[j]?=some x:=⟨_,Ae (by lia)⟩;obtain ⟨y,hyj⟩:∃ y,ys[j]?=some y:=⟨_,Ae (by lia)⟩;obtain ⟨u1,hu1,ru1⟩:=r.get hxj;obtain ⟨u2,hu2,ru2⟩:=r'.get hyj;have e1:its.toArray[j]=u1:=by
    have:=(Ac.mp hu1).2
    simpa using this
   have e2:its'.toArray[j]=u2:=by
    have:=(Ac.mp hu2).2
    simpa using this
   rw [e1,e2];exact hd j x y u1 u2 hxj hyj ru1 ru2
 ·have q:=SeqAt.RcAt.lists_lengths (A:=A) (cQ tx) (cQ ty) (by rw [An,An,<- l1,<- l2,bne_iff_ne];exact hl) hu
  have e1:((Bf (min xs.length ys.length)).all e&&xs.length==ys.length)=false:=by
   rw [beq_eq_false_iff_ne.mpr hl,Bool.and_false]
  rw [e1];exact q
theorem DEq.at {σ:St}(I:Inv X Z σ H s){n:Nat}{k:Bool}(d:DEq X.K H n x y k):∀ {A:Around} {u v:Gk},A.units+n<cLine->RelV x u->RelV y v->Bz A s u v k:=by
 induction d with
 |flat fx fy=>intro A u v _ rx ry;exact aEg rx ry fx fy
 |same=>intro A u v _ rx ry;cases rx;cases ry;exact Bz.same _
 |@tup n a b xs ys e hne hx hy hd ih=>
  intro A u v hu rx ry;cases rx;cases ry;exact Bz.of_refs hne (wD I hx hy (by lia) λj x y u v h1 h2 r1 r2=>ih j x y h1 h2 (by show A.units+1+n<cLine;lia) r1 r2)
 |@lst n a b xs ys e hne hx hy hd ih=>
  intro A u v hu rx ry;cases rx;cases ry;exact Bz.of_refs hne (zF I hx hy (by lia) λj x y u v h1 h2 r1 r2=>ih j x y h1 h2 (by show A.units+1+n<cLine;lia) r1 r2)
def rEqT (K:Ab):R2:=λx y H Q=>∃ a b xs ys,∃ e:Nat->Bool,x=.ref a/\y=.ref b/\SqT K H a xs/\SqT K H b ys/\(∀ (j:Nat) x y,xs[j]?=some x->ys[j]?=some y->DEq K H 40 x y (e j)) /\
 Q (.bl ((Bf (min xs.length ys.length)).all e&&xs.length==ys.length)) H
def rNeT (K:Ab):R2:=λx y H Q=>∃ a b xs ys,∃ e:Nat->Bool,x=.ref a/\y=.ref b/\SqT K H a xs/\SqT K H b ys/\(∀ (j:Nat) x y,xs[j]?=some x->ys[j]?=some y->DEq K H 40 x y (e j)) /\
 Q (.bl (!((Bf (min xs.length ys.length)).all e&&xs.length==ys.length))) H
def yE (hu:X.A.units+64<cLine):OpR X (BW .Eq) (rEqT X.K):=by
 intro Z s σ H x y v u Q I rx ry h;obtain ⟨a,b,xs,ys,e,rfl,rfl,hx,hy,hd,q⟩:=h;cases rx;cases ry;exact wD I hx hy (by lia) (λj x y u v h1 h2 r1 r2=>(hd j x y h1 h2).at I (by show X.A.units+1+40<cLine;lia) r1 r2) X.prog X.w X.xe _ ⟨.bl _,H,I,rfl,q⟩
end
def iN {w:World}(I:Nat->Gm->Prop)(turn:∀ n s,I n s->wpAny (model prog w) A (pyNext it) (λr s₁=>match r with
   |none=>R (.ok .next) s₁
   |some v=>wpAny (model prog w) A (FE target it v) (λ_ s₁'=>wpAny (model prog w) A (assign target env v) (λ_ s₂=>
     wpAny (model prog w) A (forIn ifs true λc r=>if r=true then do let ok <- isTrue c env (eval c env);pure (Dx ok) else pure (Dx r)) (λok s₃=>
      if ok=true then wpAny (model prog w) A (eval elt env) (λx s₄=>
       wpAny (model prog w) A (call (.builtin "list.append") [acc,x]) (λ_ s₅=>∃ m,m<n/\I m s₅) (λ_ _=>False) s₄) (λ_ _=>False) s₃
      else ∃ m,m<n/\I m s₃) (λ_ _=>False) s₂) (λ_ _=>False) s₁') (λ_ _=>False) s₁) (λ_ _=>False) s)(n:Nat)(h:I n s):Eu (model prog w) A (.compLoop (.ListComp elt [⟨target,iter,ifs,0⟩] scope pos) 0 it acc env) R s:=by
 refine codeAny_loop rfl I (λn s hI=>?_) n h;show wpAny _ A ((compTurn (.ListComp elt [⟨target,iter,ifs,0⟩] scope pos) 0 it acc env).onRaise (λx=>do noteFrame x env;theTreesLotGoes x)) _ _ s;refine wpAny_noted ?_;rw [compTurn_list];refine Aa (Fy (Aa (Cy (turn n s hI) (λr s₁ h₁=>?_) λ_ _ z=>z.elim)));cases r with
 |none=>exact Af h₁
 |some v=>
  refine Aa (Cy h₁ (λ_ s₁' h₁'=>?_) λ_ _ z=>z.elim);refine Aa (Cy h₁' (λ_ s₂ h₂=>Aa (Cy h₂ (λok s₃ h₃=>?_) λ_ _ z=>z.elim)) λ_ _ z=>z.elim);cases ok with
  |false=>exact Af ⟨rfl,h₃⟩
  |true=>
   exact Aa (Aa (Cy h₃ (λx s₄ h₄=>Aa (Cy h₄ (λ_ s₅ h₅=>Af (Af ⟨rfl,h₅⟩)) λ_ _ z=>z.elim)) λ_ _ z=>z.elim))
def blk (X:Cx)(N':Gh)(scope:Scope)(cl:List (Str×Gj))(C:Gj)(s₀:Gm)(H₀:Hp)(ex:List Gj)(pn:Ge):Cx where
 prog:=X.prog
 w:=X.w
 K:=X.K
 mg:=X.mg
 base:=X.base
 A:=X.A
 N:=N'
 s₀:=s₀
 H₀:=H₀
 env:=compEnvC scope cl C X.env
 outer:=X.stack
 stack:=X.stack
 ex:=ex
 fn:=λ_=>false
 calm:=X.calm
 pn:=pn
 xe:=λ_ _=>False
structure ClOk (X:Cx)(scope:Scope)(cl:List (Str×Gj)):Prop where
 run:closureFor scope X.env=pure cl
 sub:∀ x c,cl.lookup x=some c->X.env.cells.lookup x=some c
 has:∀ x,((relabel scope X.env).names.lookup x=some .cell\/(relabel scope X.env).names.lookup x=some .free)->∃ c,cl.lookup x=some c
structure BlkN (X:Cx)(N':Gh)(scope:Scope)(cl:List (Str×Gj))(σ σ':St):Prop where
 len:σ'.length=N'.length
 from':∀ (i:Nat) (x:Str) (v:V),N'[i]?=some x->σ'[i]?=some (some v)->∃ j:Nat,X.N[j]?=some x/\σ[j]?=some (some v)/\Vis X.env.scope x/\X.env.kindOf x≠some .local /\
  ((relabel scope X.env).names.lookup x=some .cell\/(relabel scope X.env).names.lookup x=some .free)
section
variable {X:Cx}{Z:Ge}{σ σ':St}{H:Hp}{s:Gm}
def oX {t':Nat}(I:Inv X Z σ H s)(hkind:scope.kind=.function)(hcl:ClOk X scope cl)(hN:BlkN X N' scope cl σ σ')(hf:∀ b∈fp,FpOk X Z H b)(hfo:∀ b∈fp,b<s.heap.objs.size)(hns:h₁.Ns s.heap.objs.size (λ_=>none))(hk:∀ b o,s.heap.get? b=some o->h₁.get? b=some o) :
  Inv (blk X N' scope cl s.heap.objs.size s H fp (X.pn++Z)) [] σ' H { s with heap:=h₁,toks:=t' }:=by
 have hfs:∀ b,b∉(X.env.locals::X.fs)->b∉frs X.stack:=λb hb z=>hb (I.stkSub b z);refine ⟨⟨I.ok.mod,hkind,I.ok.glob,I.ok.blt,Aj _,?_,hcl.has,λ_ _ h=>absurd h (by intro z;cases z),I.ok.hd,I.ok.frames,.inl rfl,?_,I.bs,Bj I.ok.bsz I.sz,?_,?_,I.stack,I.stkFree⟩,
  rfl,I.bare,Un.kept hk,⟨_,hns,?_⟩,?_,I.hok.fresh (Aj _),λx c e=>I.freeC x c (hcl.sub x c e),?_,I.hok.kept hk,hN.len⟩
 ·intro x y c h1 h2
  exact I.ok.inj x y c (hcl.sub x c h1) (hcl.sub y c h2)
 ·intro b hb
  exact ⟨Au (hfo b hb),λx c e=>(hf b hb).2.2.2.2.1 x c (hcl.sub x c e)⟩
 ·intro b o e hb
  rcases (hf b hb).2.2.2.1 with q|q
  ·exact I.ok.noex b o e q
  ·exact absurd (AZ (Ar e) (Bj I.ok.bsz q)) (CN _)
 ·intro b hb
  refine hfs b λz=>?_
  rcases AB.mp z with z|z
  ·exact (hf b hb).2.1 z
  ·exact (hf b hb).2.2.1 z
 ·intro i x v h1 h2 _
  obtain ⟨j,hj,hσ,hv,hnl,hk'⟩:=hN.from' i x v h1 h2;obtain ⟨m,hn,hl⟩:=I.loc;obtain ⟨u,r,l⟩:=hl j x v hj hσ hv;refine ⟨u,r,.inr ⟨hk',?_⟩⟩;obtain ⟨c,hc⟩:=hcl.has x hk'
  rcases l with ⟨hloc,_⟩|⟨_,c',hc',hcell⟩
  ·exact absurd hloc hnl
  ·have e:=hcl.sub x c hc
   rw [hc'] at e;cases e;obtain ⟨o,ho,hd⟩:=hcell;exact ⟨_,hc,o,hk _ _ ho,hd⟩
 ·intro x c e
  obtain ⟨v,o,ho,hd⟩:=I.cell x c (hcl.sub x c e);exact ⟨v,o,hk _ _ ho,hd⟩
 ·intro p hp
  rw [show (blk X N' scope cl s.heap.objs.size s H fp (X.pn++Z)).pn=X.pn++Z from rfl,Cc] at hp;obtain ⟨a1,a2,a3,a4,a5⟩:=I.pin p hp;refine ⟨hk _ _ a1,a2,Au (Ar a1),hfs _ λz=>?_,a5⟩
  rcases AB.mp z with z|z
  ·exact a3 z
  ·exact a4 z
def aA8 (I:Inv X Z σ H s)(hf:∀ b∈fp,FpOk X Z H b)(J:Inv (blk X N' scope cl s.heap.objs.size s H fp (X.pn++Z)) pl σ' H' s')(hs:Cv s.heap.objs.size s'.heap h''):Inv X Z σ H' { s' with heap:=h'' }:=by
 have hne:∀ b o,s.heap.get? b=some o->b≠s.heap.objs.size:=λb o e=>Au (Ar e);have hC:H' s.heap.objs.size=none:=J.free;have ub:Un (frs X.stack) fp H H' s.heap s'.heap:=J.base;have u:Un (frs X.stack) fp H H' s.heap h'':={
  keep:=λb o e n hb hx=>hs.extBut b o (hne b o e) (ub.keep b o e n hb hx)
  slot:=λb o e n hb hx=>by
   obtain ⟨sl,q⟩:=ub.slot b o e n hb hx;exact ⟨sl,hs.extBut b _ (hne b o e) q⟩
  free:=ub.free
  there:=λb o e hx=>by
   obtain ⟨o',q⟩:=ub.there b o e hx;exact ⟨o',hs.extBut b _ (hne b o e) q⟩
  tups:=ub.tups
  frzs:=ub.frzs
  tbls:=ub.tbls }
 have hok:HOk X.prog X.w H' h'':=λa o e=>(J.hok a o e).stay (λb ob hb q=>hs.extBut b ob (λz=>by
  rw [z] at hb
  rcases hb with hb|hb
  ·rw [<- hb,hC] at e;cases e
  ·rw [hC] at hb;cases hb) q) (λ_ h=>h) (λ_ _ h=>h)
 exact I.call' (s':={ s' with heap:=h'' }) J.os u hok J.bare λb hb=>by
  obtain ⟨f0,f1,f2,f3,f4,f5⟩:=hf b hb;exact ⟨f3,f1,f4,f5⟩
end
def PIfs (X:Cx)(ifs:List Expr)(t:TT):Prop:=
 ∀ (Z:Ge) (s:Gm) (σ:St) (H:Hp) (Q:Bool->Hp->Prop),Inv X Z σ H s->t σ H Q ->
  wpAny (model X.prog X.w) X.A (forIn ifs true λc r=>if r=true then do let ok <- isTrue c X.env (eval c X.env);pure (Dx ok) else pure (Dx r)) (TP X Z σ Q) X.xe s
def aBn:TT:=λ_ H Q=>Q true H
def eR :PIfs X [] aBn:=λ_ _ _ H _ I h=>wpAny_tests_nil ⟨H,I,h⟩
def aB7 (h:PT X c t):PIfs X [c] t:=λZ s σ H Q I hw=>wpAny_tests_one (h Z s σ H Q I hw)
structure Keep (σa σb:St):Prop where
 len:σb.length=σa.length
 at':∀ (i:Nat) (v:V),σa[i]?=some (some v)->σb[i]?=some (some v)
def Keep.refl (σ:St):Keep σ σ:=⟨rfl,λ_ _ h=>h⟩
theorem Keep.set {σa σb:St}{i:Nat}(k:Keep σa σb)(h:σa[i]?=some none):Keep σa (σb.set i (some v)):=by
 refine ⟨by rw [BB];exact k.len,λj u e=>?_⟩;have hj:i≠j:=by
  rintro rfl
  rw [h] at e;cases e
 rw [AU hj];exact k.at' j u e
def aBp (σf:St->St)(wi:TI)(g:TG)(tt:TT)(te:TE):TE:=λσ H Q=>wi σ H λJ H1=>∀ D,H1 D=none->∃ W:Nat->Nat->Gq->Hp->Prop,(∃ m,W 0 m [] (upd H1 D (.lst []))) /\
 ∀ i m ys H,W i m ys H->H D=some (.lst ys)/\ys.length<Av /\
  ((J.stop i H/\Q (.ref D) H)\/(J.go i H/\∀ x H',J.yld i H x H'->g x (σf σ) H' λσ2 H2=>Keep (σf σ) σ2/\tt σ2 H2 λb H3=>
   if b=true then te σ2 H3 λy H4=>H4 D=some (.lst ys)/\∃ m',m'<m/\W (i+1) m' (ys++[y]) (upd H4 D (.lst (ys++[y]))) else ∃ m',m'<m/\W (i+1) m' ys H3))
def qH (σf:St->St)(hc:X.calm=true)(hkind:scope.kind=.function)(hcell:∀ y∈scope.names,y.2≠.cell)(hnames:∀ y∈scope.names,y.2=.local->scope.names.lookup y.1=some .local)(hcl:ClOk X scope cl)(hN:∀ σ:St,σ.length=X.N.length->BlkN X N' scope cl σ (σf σ))(hi:PI X tg iter wi)(hg:∀ C s₀ H₀ ex pn,PG (blk X N' scope cl C s₀ H₀ ex pn) tg g)(ht:∀ C s₀ H₀ ex pn,PIfs (blk X N' scope cl C s₀ H₀ ex pn) ifs tt)(he:∀ C s₀ H₀ ex pn,PE (blk X N' scope cl C s₀ H₀ ex pn) elt te)(hs:∀ x,Fe iter X.env x=pure x:=by intro _;rfl):PE X (.ListComp elt [⟨tg,iter,ifs,0⟩] scope pos) (aBp σf wi g tt te):=by
 intro Z s σ H Q I h;rw [eval_ListComp];refine wpAny_comprehension_free (use:=none) rfl hs hcl.run hkind hnames (thn (hi Z s σ H _ I h) λv s1 h1=>thn h1 λitv s2 h2=>?_);obtain ⟨it,fp,tn,J,H2,rfl,I2,T,st2,f2,q⟩:=h2;refine Be (wpAny_newFunctionEnv hcell (by intro y hy;simp at hy) (λh₁ hns₁ hsb₁=>?_) hkind);dsimp only at hns₁ hsb₁ ⊢;have hfo:∀ b∈fp,b<s2.heap.objs.size:=λb hb=>by
  obtain ⟨o,e,_⟩:=T.obj _ _ st2 b hb;exact Ar e
 have hDf:H2 s2.heap.objs.size=none:=I2.hok.fresh (Aj _);obtain ⟨W,⟨m0,w0⟩,turn⟩:=q s2.heap.objs.size hDf;have I3:Inv X Z σ (upd H2 s2.heap.objs.size (.lst [])) { s2 with heap:=s2.heap.push { cls:=.type "list",data:=.seq ([]:Gi).toArray } }:=I2.lnew (its:=[]) (t':=s2.toks) .nil (BF _);have f3:∀ b∈fp,FpOk X Z (upd H2 s2.heap.objs.size (.lst [])) b:=λb hb=>⟨by rw [aJ (Au (hfo b hb))];exact (f2 b hb).1,(f2 b hb).2⟩;generalize hD:s2.heap.objs.size=D at *
 generalize hs3:({ s2 with heap:=s2.heap.push { cls:=.type "list",data:=.seq ([]:Gi).toArray } }:Gm)=s3 at *
 have hh3:s3.heap=s2.heap.push { cls:=.type "list",data:=.seq ([]:Gi).toArray }:=by rw [<- hs3]
 have hsz3:s2.heap.objs.size<s3.heap.objs.size:=by rw [hh3,BP];exact Cg _
 have e3:∀ h t,({ s2 with heap:=h,toks:=t }:Gm)={ s3 with heap:=h,toks:=t }:=λh t=>by rw [<- hs3]
 rw [<- hh3] at hns₁ hsb₁ ⊢;have hk3:∀ b o,s3.heap.get? b=some o->h₁.get? b=some o:=λb o e=>hsb₁.extBut b o (Au (Ar e)) (Ad _ e);have I4:=oX (t':=s3.toks) I3 hkind hcl (hN σ I.len) f3 (λb hb=>Ey (hfo b hb) (hD▸hsz3)) (hns:=by simpa using hns₁) hk3;generalize hB:blk X N' scope cl s3.heap.objs.size s3 (upd H2 D (.lst [])) fp (X.pn++Z)=B at *
 have hBp:B.prog=X.prog:=by rw [<- hB];rfl
 have hBw:B.w=X.w:=by rw [<- hB];rfl
 have hBK:B.K=X.K:=by rw [<- hB];rfl
 have hBA:B.A=X.A:=by rw [<- hB];rfl
 have hBc:B.calm=true:=by rw [<- hB];exact hc
 have hBe:B.env=compEnvC scope cl s3.heap.objs.size X.env:=by rw [<- hB];rfl
 have hBx:B.xe=λ_ _=>False:=by rw [<- hB];rfl
 have hGB:PG B tg g:=hB▸hg _ _ _ _ _;have hTB:PIfs B ifs tt:=hB▸ht _ _ _ _ _;have hEB:PE B elt te:=hB▸he _ _ _ _ _;have stat:∀ {H':Hp},(∀ b∈fp,H' b=none)->∀ b∈fp,FpOk B [] H' b:=λ{H'} hn b hb=>by
  obtain ⟨f0,f1,f2',f3',f4,f5⟩:=f3 b hb;rw [<- hB];refine ⟨hn b hb,Au (Ey (hfo b hb) (hD▸hsz3)),λz=>?_,.inl hb,λx c e=>f4 x c (hcl.sub x c e),λp hp=>?_⟩
  ·rcases AB.mp (I.stkSub b z) with z|z
   ·exact f1 z
   ·exact f2' z
  ·rw [show (blk X N' scope cl s3.heap.objs.size s3 (upd H2 D (.lst [])) fp (X.pn++Z)).pn=X.pn++Z from rfl,Cc] at hp
   exact f5 p hp
 have loop:∀ s4:Gm,Inv B [] (σf σ) (upd H2 D (.lst [])) s4->tn 0 s4.heap ->
   Eu (model X.prog X.w) X.A (.compLoop (.ListComp elt [⟨tg,iter,ifs,0⟩] scope pos) 0 (.ref it) (.ref D) (compEnvC scope cl s3.heap.objs.size X.env)) (compPost (model X.prog X.w) X.A X.xe none (EP X Z σ Q) (.ref D) s3.heap.objs.size) s4:=by
  intro s4 I4 st4;refine iN (I:=λn s'=>∃ i ys H',Inv B [] (σf σ) H' s'/\tn i s'.heap/\(∀ b∈fp,H' b=none)/\W i n ys H') ?_ m0 ⟨0,[],_,I4,st4,λb hb=>(f3 b hb).1,w0⟩
  rintro n s5 ⟨i,ys,H5,I5,st5,fr5,w5⟩
  obtain ⟨hD5,hlen5,alt⟩:=turn i n ys H5 w5
  rcases alt with ⟨stop,qn⟩|⟨go,step⟩
  ·have z:=T.done B hBp hBw hBK hBc i [] s5 (σf σ) H5 (λ_ _=>False) I5 (stat fr5) st5 stop
   rw [hBA] at z;refine thn z λr s6 ⟨hr,I6⟩=>?_;subst hr;obtain ⟨m6,hn6,_⟩:=I6.loc;rw [hBe] at hn6;refine ⟨m6,hn6,λh' hs'=>?_⟩;subst hB;exact ⟨.ref D,H5,aA8 I3 f3 I6 hs',rfl,qn⟩
  ·have z:=T.item B hBp hBw hBK hBc i [] s5 (σf σ) H5 (λ_ _=>False) I5 (stat fr5) st5 go
   rw [hBA] at z;refine thn z λr s6 ⟨u,hr,h6⟩=>?_;subst hr;refine thn h6 λ_ s7 ⟨x,H7,I7,r7,y7,st7,fr7⟩=>?_;have I7':=I7.pinned (stat fr7) (T.obj _ _ st7);have z8:=hGB _ s7 (σf σ) H7 x u _ I7' r7 (step x H7 y7);rw [hBp,hBw,hBA,hBe,hBx] at z8;refine thn z8 λ_ s8 ⟨σ8,H8,I8,k8,q8⟩=>?_;have z9:=hTB _ s8 σ8 H8 _ I8 q8;rw [hBp,hBw,hBA,hBe,hBx] at z9;refine thn z9 λok s9 ⟨H9,I9,q9⟩=>?_;have again:∀ {ys':Gq} {H':Hp} {s':Gm},Inv B ([]++lD fp s7.heap) σ8 H' s'->(∃ m',m'<n/\W (i+1) m' ys' H')->∃ m,m<n/\∃ i ys H',Inv B [] (σf σ) H' s'/\tn i s'.heap/\(∀ b∈fp,H' b=none)/\W i m ys H':=λ{ys' H' s'} J ⟨m',hm,w'⟩=>by
    refine ⟨m',hm,i+1,ys',H',J.unpinned.weak k8.len.symm k8.at',T.keep _ _ _ st7 λb hb o e=>(J.pin (b,o) (AO _ (AO _ (dO hb e)))).1,λb hb=>?_,w'⟩;obtain ⟨o,e,d⟩:=T.obj _ _ st7 b hb;exact (J.pin (b,o) (AO _ (AO _ (dO hb e)))).2.1
   cases ok with
   |false=>exact again I9 q9
   |true=>
    have z10:=hEB _ s9 σ8 H9 _ I9 q9;rw [hBp,hBw,hBA,hBe,hBx] at z10;refine thn z10 λy10 s10 ⟨y,H10,I10,r10,hD10,q10⟩=>?_;have z11:=bO (X:=B) _ s10 σ8 H10 (.ref D) [y] (.ref D) [y10] (λ_ H'=>∃ m',m'<n/\W (i+1) m' (ys++[y]) H') I10 rfl (.cons r10 .nil) ⟨D,ys,y,rfl,rfl,hD10,hlen5,q10⟩;rw [hBp,hBw,hBA,hBx] at z11;refine thn z11 λ_ s11 ⟨_,H11,I11,_,q11⟩=>again I11 q11
 have st4:tn 0 ({ s3 with heap:=h₁,toks:=s3.toks }:Gm).heap:=T.keep _ _ _ st2 λb hb o e=>hk3 b o (by rw [hh3];exact Ad _ e);have L4:=loop _ I4 st4;subst hs3;exact codeAny_compStart_list L4 (T.self _ 0 _ _ _ st4 L4)
def Bt (n:Nat)(x:Int):Prop:=x.natAbs<2^n
def Bt.bits {n:Nat}{x:Int}(h:Bt n x):ET x<=n:=intBits_le_iff.mpr h
def Bt.of_bits {n:Nat}{x:Int}(h:ET x<=n):Bt n x:=intBits_le_iff.mp h
def Bt.mono {m n:Nat}{x:Int}(h:Bt m x)(hn:m<=n:=by decide):Bt n x:=AZ h (Nat.pow_le_pow_right (by decide) hn)
theorem Bt.mul {m n:Nat}{x y:Int}(h:Bt m x)(h':Bt n y):Bt (m+n) (x*y):=.of_bits (intBits_mul_le h.bits h'.bits)
theorem Bt.add {m:Nat}{x y:Int}(h:Bt m x)(h':Bt m y):Bt (m+1) (x+y):=.of_bits (by have:=intBits_add_le h.bits h'.bits;rwa [Nat.max_self] at this)
def Bt.le {m:Nat}{x y:Int}(h:Bt m y)(h0:0<=x)(hy:x<=y):Bt m x:=by
 unfold Bt at *
 lia
def aJg {n:Nat}{x:Int}(h:Bt n x)(hp:0<x)(hn:n<=9000):x.natAbs.log2<9000:=by
 have:x.natAbs.log2<n:=(Nat.log2_lt (by lia)).mpr h;lia
def aLn (i j:Int):Prop:=Bt 1000000 i/\Bt 1000000 j
def aLo (_i j:Int):Prop:=0<j/\Bt 9000 j
def aLm (i j:Int):Prop:=0<=j/\j<=1000/\Bt 1000 i
section
variable {X:Cx}
def bJ:OpR X (Ep .Mult) (rI aLn λi j=>.int (i*j)):=opI λ_ _ _ _ _ _ _ hc q=>mul_int q (.of_bits (Bj hc.1.bits (by decide)) (Bj hc.2.bits (by decide)))
def bK:OpR X (Ep .FloorDiv) (rI aLo λi j=>.int (i/j)):=opI λi j _ _ _ _ _ hc q=>by
 have h1:(0:Int)<j:=hc.1;rw [<- Int.fdiv_eq_ediv_of_nonneg i (EX h1)] at q;exact floordiv_int (by lia) q (.inl (PyProof.noPylong_of_log2 (aJg hc.2 h1 (Aj _))))
def xV:OpR X (Ep .Pow) (rI aLm λi j=>.int (i^j.toNat)):=opI λi j _ _ _ _ _ hc q=>by
 obtain ⟨h0,h1,h2⟩:=hc;refine PyProof.Rows.pow_int h0 ?_ q;have b:=h2.bits;have e:(2:Int)^27=134217728:=by decide
 have:=EU (show (ET i:Int)<=1000 by lia) h1 h0 (by decide);lia
def uC {K:Ab}{H:Hp}{n:Nat}(ns ms:List Int):∀ (j:Nat) x y,(ns.map V.int)[j]?=some x->(ms.map V.int)[j]?=some y->DEq K H n x y (ns[j]?==ms[j]?):=by
 intro j x y h1 h2;rw [Aq] at h1 h2;cases e1:ns[j]? with
 |none=>rw [e1] at h1;cases h1
 |some a=>
  cases e2:ms[j]? with
  |none=>rw [e2] at h2;cases h2
  |some b=>
   rw [e1] at h1;rw [e2] at h2;cases h1;cases h2;have:(some a==some b)=eqV (V.int a) (V.int b):=by
    show (a==b)=(a==b);rfl
   rw [this];exact DEq.flat rfl rfl
theorem all_ints:∀ (ns ms:List Int),((Bf (min ns.length ms.length)).all (λj=>ns[j]?==ms[j]?)&&ns.length==ms.length)=decide (ns=ms):=by
 intro ns ms;rw [DV];simp only [Cf,CT,CL,beq_iff_eq,decide_eq_true_eq];constructor
 ·rintro ⟨h,hl⟩
  refine EJ λi=>?_
  by_cases hi:i<ns.length
  ·exact h i (by lia)
  ·rw [Bs (by lia),Bs (by lia)]
 ·rintro rfl
  exact ⟨λ_ _=>rfl,rfl⟩
def rEqI (K:Ab):R2:=λx y H Q=>∃ a b,∃ ns ms:List Int,x=.ref a/\y=.ref b/\SqT K H a (ns.map V.int)/\SqT K H b (ms.map V.int)/\Q (.bl (decide (ns=ms))) H
def rNeI (K:Ab):R2:=λx y H Q=>∃ a b,∃ ns ms:List Int,x=.ref a/\y=.ref b/\SqT K H a (ns.map V.int)/\SqT K H b (ms.map V.int)/\Q (.bl (!decide (ns=ms))) H
def aI0 (hu:X.A.units+64<cLine):OpR X (BW .Eq) (rEqI X.K):=by
 intro Z s σ H x y v u Q I rx ry h;obtain ⟨a,b,ns,ms,rfl,rfl,hx,hy,q⟩:=h;refine yE hu Z s σ H _ _ v u Q I rx ry ⟨a,b,_,_,λj=>ns[j]?==ms[j]?,rfl,rfl,hx,hy,uC ns ms,?_⟩;rw [Ag,Ag,all_ints];exact q
def aJa {σ:St}(I:Inv X Z σ H s)(hx:SqT X.K H a xs)(hy:SqT X.K H b ys)(hu:A.units<cLine)(hd:∀ (j:Nat) x y u v,xs[j]?=some x->ys[j]?=some y->RelV x u->RelV y v->Bz A.in1 s u v (e j)) :
  SeqAt.RcNeAt A s (.ref a) (.ref b) (!((Bf (min xs.length ys.length)).all e&&xs.length==ys.length)):=by
 obtain ⟨its,r,tx,_⟩:=I.tuple hx;obtain ⟨its',r',ty,_⟩:=I.tuple hy;have l1:=r.length;have l2:=r'.length;have q:=SeqAt.RcNeAt.tuples (A:=A) (e:=e) tx ty hu (λj h1 h2=>?_)
 ·rw [An,An,<- l1,<- l2] at q
  exact q
 ·rw [An] at h1 h2
  obtain ⟨x,hxj⟩:∃ x,xs[j]?=some x:=⟨_,Ae (by lia)⟩;obtain ⟨y,hyj⟩:∃ y,ys[j]?=some y:=⟨_,Ae (by lia)⟩;obtain ⟨u1,hu1,ru1⟩:=r.get hxj;obtain ⟨u2,hu2,ru2⟩:=r'.get hyj;have e1:its.toArray[j]=u1:=by
   have:=(Ac.mp hu1).2
   simpa using this
  have e2:its'.toArray[j]=u2:=by
   have:=(Ac.mp hu2).2
   simpa using this
  rw [e1,e2];exact hd j x y u1 u2 hxj hyj ru1 ru2
def aD2 (hu:X.A.units+64<cLine):OpR X (BW .NotEq) (rNeT X.K):=by
 intro Z s σ H x y v u Q I rx ry h;obtain ⟨a,b,xs,ys,e,rfl,rfl,hx,hy,hd,q⟩:=h;cases rx;cases ry;exact aJa I hx hy (by lia) (λj x y u v h1 h2 r1 r2=>(hd j x y h1 h2).at I (by show X.A.units+1+40<cLine;lia) r1 r2) X.prog X.w X.xe _ ⟨.bl _,H,I,rfl,q⟩
def xY (hu:X.A.units+64<cLine):OpR X (BW .NotEq) (rNeI X.K):=by
 intro Z s σ H x y v u Q I rx ry h;obtain ⟨a,b,ns,ms,rfl,rfl,hx,hy,q⟩:=h;refine aD2 hu Z s σ H _ _ v u Q I rx ry ⟨a,b,_,_,λj=>ns[j]?==ms[j]?,rfl,rfl,hx,hy,uC ns ms,?_⟩;rw [Ag,Ag,all_ints];exact q
end
section
variable {X:Cx}
inductive tIt (K:Ab)(i k:Nat)(σ:L2.St)(H:Hp)(Q:VK):Prop
 |mk (p:Gj) (xs:Gq) (v:V) (e:σ[i]?=some (some (.ref p))) (q:SqT K H p xs) (a:xs[k]?=some v) (h:Q v H)
def pit (i k:Nat){p q:Pos}{j:Nat}(hN:X.N[i]?=some x:=by rfl)(hv:Vis X.env.scope x:=by first|exact Or.inl rfl|exact Or.inr (Or.inl rfl)|exact Or.inr (Or.inr rfl))(hd:(x==("__debug__":Str))=false:=by decide)(hcd:(x==("__classdict__":Str))=false:=by decide):PE X (.Subscript (.Name x p) (.Constant (.int (k:Int)) j q) pos) (tIt X.K i k):=by
 intro Z s σ H Q I h;obtain ⟨a,xs,v,e,hs,hk,q⟩:=h;exact aZ dB (aD0 hN hv hd hcd) aH (λ_ _=>rfl) Z s σ H Q I ⟨_,e,a,xs,(k:Int),v,rfl,rfl,hs,aU hk,q⟩
structure Cal (P:Aw)(w:World)(K:Ab)(mg:Gb)(base:Heap)(CX:CXT)(k:Nat)(x:Str)(ps:Gh)(sp:Sp):Prop where
 ex:∃ (f:Gj) (fd:Ay),mg x=some (.ref f)/\CW K (.ref f)=true/\Binds K fd ps []/\FnOk P w K mg base CX k f fd ps sp
def lE {k:Nat}{p pos:Pos}(C:Cal X.prog X.w X.K X.mg X.base CX k x ps sp)(hr:Room k X.A)(hg:Gl X x)(hx:hU CX X E)(ha:PA X (e::es) t)(hdb:(x==("__debug__":Str))=false:=by decide)(he:AR (e::es) X.env=(false,eval e X.env)::AR es X.env:=by rfl)(hpl:(backTo pos (AR es X.env)).any (·.1)=false:=by rfl) :
  PE X (.Call (.Name x p) (e::es) [] pos) (aE3 sp [] E t):=by
 obtain ⟨f,fd,hm,hk,hb,F⟩:=C.ex;exact aF2 F hr hg hm hk hb .nil hx ha hdb he hpl
def aI {k:Nat}{p pos:Pos}(C:Cal X.prog X.w X.K X.mg X.base CX0 k x ps sp)(hr:Room k X.A)(ha:PA X (e::es) t)(hg:Gl X x:=by rfl)(hdb:(x==("__debug__":Str))=false:=by decide)(he:AR (e::es) X.env=(false,eval e X.env)::AR es X.env:=by rfl)(hpl:(backTo pos (AR es X.env)).any (·.1)=false:=by rfl):PE X (.Call (.Name x p) (e::es) [] pos) (aE3 sp [] E0 t):=lE C hr hg uW ha hdb he hpl
def Cal.mono {P:Aw}{w:World}{K:Ab}{mg:Gb}{base:Heap}{CX:CXT}{j k:Nat}{x:Str}{ps:Gh}{sp:Sp}(C:Cal P w K mg base CX j x ps sp)(h:j<=k:=by decide):Cal P w K mg base CX k x ps sp:=by
 obtain ⟨f,fd,hm,hk,hb,F⟩:=C.ex;exact ⟨f,fd,hm,hk,hb,F.mono h⟩
end
def Same.tup {K:Ab}{H H':Hp}{a:Gj}{xs:Gq}(e:Same H H')(h:SqT K H a xs):SqT K H' a xs:=by
 rcases h with (h|⟨o,h⟩)|h
 ·exact .inl (.inl (e _ _ h))
 ·exact .inl (.inr ⟨o,e _ _ h⟩)
 ·exact .inr h
theorem Same.upd (h:H a=none):Same H (upd H a o):=λb u e=>by
 rw [aJ (aW e h)];exact e
theorem Gu (h:H a=none):Same H (upd H a o):=Same.upd h
def updX (n:H a=none):∃ H1,upd H a o=H1/\Same H H1/\H1 a=some o:=⟨_,rfl,Gu n,aD⟩
def RetT (H:Hp)(Q:VK)(ns:List Int):Prop:=∀ p H',Same H H'->H' p=some (.tup (ns.map V.int))->Q (.ref p) H'
def rEqL (K:Ab):R2:=λx y H Q=>∃ a b xs ys,∃ e:Nat->Bool,x=.ref a/\y=.ref b/\SqL K H a xs/\SqL K H b ys/\(∀ (j:Nat) x y,xs[j]?=some x->ys[j]?=some y->DEq K H 40 x y (e j)) /\
 Q (.bl ((Bf (min xs.length ys.length)).all e&&xs.length==ys.length)) H
def rNeL (K:Ab):R2:=λx y H Q=>∃ a b xs ys,∃ e:Nat->Bool,x=.ref a/\y=.ref b/\SqL K H a xs/\SqL K H b ys/\(∀ (j:Nat) x y,xs[j]?=some x->ys[j]?=some y->DEq K H 40 x y (e j)) /\
 Q (.bl (!((Bf (min xs.length ys.length)).all e&&xs.length==ys.length))) H
section
variable {X:Cx}
def aIz (hu:X.A.units+64<cLine):OpR X (BW .Eq) (rEqL X.K):=by
 intro Z s σ H x y v u Q I rx ry h;obtain ⟨a,b,xs,ys,e,rfl,rfl,hx,hy,hd,q⟩:=h;cases rx;cases ry;exact zF I hx hy (by lia) (λj x y u v h1 h2 r1 r2=>(hd j x y h1 h2).at I (by show X.A.units+1+40<cLine;lia) r1 r2) X.prog X.w X.xe _ ⟨.bl _,H,I,rfl,q⟩
def aGn {σ:St}(I:Inv X Z σ H s)(hx:SqL X.K H a xs)(hy:SqL X.K H b ys)(hu:A.units<cLine)(hd:∀ (j:Nat) x y u v,xs[j]?=some x->ys[j]?=some y->RelV x u->RelV y v->Bz A.in1 s u v (e j)) :
  SeqAt.RcNeAt A s (.ref a) (.ref b) (!((Bf (min xs.length ys.length)).all e&&xs.length==ys.length)):=by
 obtain ⟨its,r,tx,_⟩:=I.list hx;obtain ⟨its',r',ty,_⟩:=I.list hy;have l1:=r.length;have l2:=r'.length
 by_cases hl:xs.length=ys.length
 ·have q:=SeqAt.RcNeAt.lists (A:=A) (e:=e) (cQ tx) (cQ ty) (by rw [An,An];lia) hu (λj h1 h2=>?_)
  ·rw [An,<- l1] at q
   have e1:((Bf (min xs.length ys.length)).all e&&xs.length==ys.length)=(Bf xs.length).all e:=by
    rw [<- hl,Nat.min_self,beq_self_eq_true,Bool.and_true]
   rw [e1];exact q
  ·rw [An] at h1 h2
   obtain ⟨x,hxj⟩:∃ x,xs[j]?=some x:=⟨_,Ae (by lia)⟩;obtain ⟨y,hyj⟩:∃ y,ys[j]?=some y:=⟨_,Ae (by lia)⟩;obtain ⟨u1,hu1,ru1⟩:=r.get hxj;obtain ⟨u2,hu2,ru2⟩:=r'.get hyj;have e1:its.toArray[j]=u1:=by
    have:=(Ac.mp hu1).2
    simpa using this
   have e2:its'.toArray[j]=u2:=by
    have:=(Ac.mp hu2).2
    simpa using this
   rw [e1,e2];exact hd j x y u1 u2 hxj hyj ru1 ru2
 ·have q:=SeqAt.RcNeAt.lists_lengths (A:=A) (cQ tx) (cQ ty) (by rw [An,An,<- l1,<- l2,bne_iff_ne];exact hl) hu
  have e1:((Bf (min xs.length ys.length)).all e&&xs.length==ys.length)=false:=by
   rw [beq_eq_false_iff_ne.mpr hl,Bool.and_false]
  rw [e1];exact q
def aIw (hu:X.A.units+64<cLine):OpR X (BW .NotEq) (rNeL X.K):=by
 intro Z s σ H x y v u Q I rx ry h;obtain ⟨a,b,xs,ys,e,rfl,rfl,hx,hy,hd,q⟩:=h;cases rx;cases ry;exact aGn I hx hy (by lia) (λj x y u v h1 h2 r1 r2=>(hd j x y h1 h2).at I (by show X.A.units+1+40<cLine;lia) r1 r2) X.prog X.w X.xe _ ⟨.bl _,H,I,rfl,q⟩
end
def Sf (v:V):Prop:=eC v=true\/∃ a,v=.ref a
theorem aC9 (h:eC v=true):eqV v v=true:=by
 cases v<;>simp_all [eC,eqV]
def DEq.self {K:Ab}{H:Hp}{n:Nat}{v:V}(h:Sf v):DEq K H n v v true:=by
 rcases h with h|⟨a,rfl⟩
 ·have:=DEq.flat (K:=K) (H:=H) (n:=n) h h
  rwa [aC9 h] at this
 ·exact .same
theorem all_true (n:Nat)(m:Nat)(h:n=m):((Bf (min n m)).all (λ_=>true)&&n==m)=true:=by
 subst h;rw [beq_self_eq_true,Bool.and_true,CT];exact λ_ _=>rfl
def rNeLs (K:Ab):R2:=λx y H Q=>∃ a b xs,x=.ref a/\y=.ref b/\SqL K H a xs/\SqL K H b xs/\(∀ v∈xs,Sf v)/\Q (.bl false) H
def dS:Cr "list" = some (.type "list"):=by decide +kernel
def Tk (H H':Hp):Prop:=∀ b ys,H b=some (.tup ys)->H' b=some (.tup ys)
def Same.tk (s:Same H H'):Tk H H':=λb ys e=>s b _ e
theorem Tk.lst {l:Gj}(h:H l=some (.lst xs)):Tk H (upd H l o):=λb ys e=>by
 have ne:b≠l:=λz=>by rw [z,h] at e;cases e
 rw [aJ ne];exact e
def bP {n:Nat}(h:n<=1000):n<=Av:=Bj h (by decide)
def rS:Expr->Bool
 |.Starred ..=>false
 |_=>true
def wK (h:rS e=true):AR (e::es) env=(false,eval e env)::AR es env:=by
 cases e<;>first|rfl|cases h
def pa_c (h:PE X e te)(hr:PA X es t)(hf:rS e=true:=by rfl):PA X (e::es) (aBo te t):=aA h hr (wK hf)
inductive Dt where
 |i (n:Int)
 |s (x:Str)
 |b (k:Bool)
 |n
 |t (l:List Dt)
def SqZ (K:Ab)(H:Hp)(a:Gj)(xs:Gq):Prop:=H a=some (.tup xs)\/∃ (o:Obj) (its:Array Gk) (n:Nat),K.lookup a=some o/\o.cls=.type "tuple" /\ o.data=.seq its n/\its.size<=Av/\Vals xs its.toList
def SqZ.of {K:Ab}{H:Hp}{a:Gj}{xs:Gq}(h:H a=some (.tup xs)):SqZ K H a xs:=.inl h
def SqZ.sq {K:Ab}{H:Hp}{a:Gj}{xs:Gq}(h:SqZ K H a xs):SqT K H a xs:=by
 rcases h with h|h
 ·exact .inl (.inl h)
 ·exact .inr h
inductive Dv (K:Ab)(H:Hp):Nat->V->Dt->Prop where
 |i {n m}:Dv K H n (.int m) (.i m)
 |s {n x}:Dv K H n (.str x) (.s x)
 |b {n k}:Dv K H n (.bl k) (.b k)
 |n {n}:Dv K H n .non .n
 |t {n a xs ds}:SqZ K H a xs->xs.length=ds.length->(∀ (j:Nat) x d,xs[j]?=some x->ds[j]?=some d->Dv K H n x d)->Dv K H (n+1) (.ref a) (.t ds)
def Dv.up {K:Ab}{H:Hp}{n:Nat}{v:V}{d:Dt}(h:Dv K H n v d):Dv K H (n+1) v d:=by
 induction h with
 |i=>exact .i
 |s=>exact .s
 |b=>exact .b
 |n=>exact .n
 |t h1 h2 _ ih=>exact .t h1 h2 ih
def Dv.mono {K:Ab}{H:Hp}{n m:Nat}{v:V}{d:Dt}(h:Dv K H n v d)(hm:n<=m:=by decide):Dv K H m v d:=by
 induction hm with
 |refl=>exact h
 |step _ ih=>exact ih.up
theorem Dv.eq {K:Ab}{H:Hp}{n:Nat}{x:V}{d:Dt}(h:Dv K H n x d):∀ {m:Nat} {y:V},Dv K H m y d->DEq K H n x y true:=by
 induction h with
 |i=>intro m y k;cases k;exact DEq.self (.inl rfl)
 |s=>intro m y k;cases k;exact DEq.self (.inl rfl)
 |b=>intro m y k;cases k;exact DEq.self (.inl rfl)
 |n=>intro m y k;cases k;exact DEq.self (.inl rfl)
 |@t n a xs ds h1 h2 h3 ih=>
  intro m y k;cases k with
  |@t m b ys _ k1 k2 k3=>
   by_cases e:a=b
   ·subst e
    exact .same
   ·have q:=DEq.tup (n:=n) (e:=λ_=>true) e h1.sq k1.sq λj x y hx hy=>?_
    ·rwa [all_true _ _ (h2.trans k2.symm)] at q
    ·obtain ⟨d,hd⟩:∃ d,ds[j]?=some d:=⟨_,Ae (by have:=(Ac.mp hx).1;lia)⟩
     exact ih j x d hx hd (k3 j y d hy hd)
def DL (K:Ab)(H:Hp)(n:Nat)(xs:Gq)(ds:List Dt):Prop:=xs.length=ds.length/\∀ (j:Nat) x d,xs[j]?=some x->ds[j]?=some d->Dv K H n x d
def DL.nil {K:Ab}{H:Hp}{n:Nat}:DL K H n [] []:=⟨rfl,λj x d h=>by simp at h⟩
def DL.cons {K:Ab}{H:Hp}{n:Nat}{x:V}{d:Dt}{xs:Gq}{ds:List Dt}(h:Dv K H n x d)(k:DL K H n xs ds):DL K H n (x::xs) (d::ds):=by
 refine ⟨by rw [AS,AS,k.1],λj y e hy he=>?_⟩;cases j with
 |zero=>
  simp at hy he;subst hy he;exact h
 |succ j=>exact k.2 j y e (by simpa using hy) (by simpa using he)
def Dv.tup {K:Ab}{H:Hp}{n:Nat}{a:Gj}{xs:Gq}{ds:List Dt}(h:SqZ K H a xs)(k:DL K H n xs ds):Dv K H (n+1) (.ref a) (.t ds):=.t h k.1 k.2
def Dv.two {K:Ab}{H:Hp}{n:Nat}{a:Gj}{x y:V}{d e:Dt}(h:SqZ K H a [x,y])(h1:Dv K H n x d)(h2:Dv K H n y e):Dv K H (n+1) (.ref a) (.t [d,e]):=.tup h (.cons h1 (.cons h2 .nil))
def aKu (K:Ab):R2:=λx y H Q=>∃ a b xs ys ds,x=.ref a/\y=.ref b/\SqL K H a xs/\SqL K H b ys/\DL K H 40 xs ds/\DL K H 40 ys ds/\Q (.bl true) H
def aKt (K:Ab):R2:=λx y H Q=>∃ a b xs ys ds,x=.ref a/\y=.ref b/\SqL K H a xs/\SqL K H b ys/\DL K H 40 xs ds/\DL K H 40 ys ds/\Q (.bl false) H
def rEqDT (K:Ab):R2:=λx y H Q=>∃ a b xs ys ds,x=.ref a/\y=.ref b/\SqT K H a xs/\SqT K H b ys/\DL K H 40 xs ds/\DL K H 40 ys ds/\Q (.bl true) H
def rNeDT (K:Ab):R2:=λx y H Q=>∃ a b xs ys ds,x=.ref a/\y=.ref b/\SqT K H a xs/\SqT K H b ys/\DL K H 40 xs ds/\DL K H 40 ys ds/\Q (.bl false) H
def DL.deq {K:Ab}{H:Hp}{n m:Nat}{xs ys:Gq}{ds:List Dt}(h:DL K H n xs ds)(k:DL K H m ys ds):∀ (j:Nat) x y,xs[j]?=some x->ys[j]?=some y->DEq K H n x y true:=λj x y hx hy=>by
 obtain ⟨d,hd⟩:∃ d,ds[j]?=some d:=⟨_,Ae (by have:=(Ac.mp hx).1;have:=h.1;lia)⟩;exact (h.2 j x d hx hd).eq (k.2 j y d hy hd)
section
variable {X:Cx}
def aF5 (hu:X.A.units+64<cLine):OpR X (BW .Eq) (aKu X.K):=by
 intro Z s σ H x y v u Q I rx ry h;obtain ⟨a,b,xs,ys,ds,rfl,rfl,hx,hy,k1,k2,q⟩:=h;refine aIz hu Z s σ H _ _ v u Q I rx ry ⟨a,b,xs,ys,λ_=>true,rfl,rfl,hx,hy,k1.deq k2,?_⟩;rw [all_true _ _ (k1.1.trans k2.1.symm)];exact q
def xZ (hu:X.A.units+64<cLine):OpR X (BW .NotEq) (aKt X.K):=by
 intro Z s σ H x y v u Q I rx ry h;obtain ⟨a,b,xs,ys,ds,rfl,rfl,hx,hy,k1,k2,q⟩:=h;refine aIw hu Z s σ H _ _ v u Q I rx ry ⟨a,b,xs,ys,λ_=>true,rfl,rfl,hx,hy,k1.deq k2,?_⟩;rw [all_true _ _ (k1.1.trans k2.1.symm)];exact q
end
theorem iJ :∀ (names:List (Str×Bq)) (acc:List (Str×Gj)),(∀ y∈names,y.2=Bc->∃ c,env.cells.lookup y.1=some c)->(∀ x c,acc.lookup x=some c->env.cells.lookup x=some c) ->
  ∃ cl,(forIn (m:=Sem) names acc (λx r=>do if (x.2==Bc)=true then do let c <- cellOf env x.1;pure (Dx ((x.1,c)::r)) else pure (Dx r)))=pure cl /\
   (∀ x c,cl.lookup x=some c->env.cells.lookup x=some c)/\(∀ y∈names,y.2=Bc->∃ c,cl.lookup y.1=some c)/\∀ x,(∃ c,acc.lookup x=some c)->∃ c,cl.lookup x=some c
 |[],acc,_,h2=>⟨acc,rfl,h2,(λy hy=>by simp at hy),λ_ h=>h⟩
 |y::r,acc,h1,h2=>by
  by_cases e:y.2=Bc
  ·obtain ⟨c,hc⟩:=h1 y Al e
   obtain ⟨cl,e1,e2,e3,e4⟩:=iJ r ((y.1,c)::acc) (λz hz=>h1 z (Ah _ hz)) (λx d hx=>by
    rw [Dq] at hx;split at hx
    ·rename_i hb
     have:x=y.1:=EA hb;rw [this,hc];exact hx
    ·exact h2 x d hx)
   refine ⟨cl,?_,e2,λz hz ez=>?_,λx hx=>e4 x ?_⟩
   ·rw [List.forIn_cons,if_pos (by rw [e];rfl)]
    unfold cellOf;rw [hc];simp only [pure_bind];exact e1
   ·rcases AB.mp hz with rfl|hz
    ·exact e4 z.1 ⟨c,by rw [Dq,beq_self_eq_true]⟩
    ·exact e3 z hz ez
   ·obtain ⟨d,hd⟩:=hx
    rw [Dq];split
    ·exact ⟨c,rfl⟩
    ·exact ⟨d,hd⟩
  ·obtain ⟨cl,e1,e2,e3,e4⟩:=iJ r acc (λz hz=>h1 z (Ah _ hz)) h2
   refine ⟨cl,?_,e2,λz hz ez=>?_,e4⟩
   ·rw [List.forIn_cons,if_neg (by intro z;exact e (EA z))]
    simp only [pure_bind];exact e1
   ·rcases AB.mp hz with rfl|hz
    ·exact absurd ez e
    ·exact e3 z hz ez
def vP (h:∀ y∈scope.names,y.2=Bc->∃ c,env.cells.lookup y.1=some c) :
  ∃ cl,closureFor scope env=pure cl/\(∀ x c,cl.lookup x=some c->env.cells.lookup x=some c)/\∀ y∈scope.names,y.2=Bc->∃ c,cl.lookup y.1=some c:=by
 obtain ⟨cl,e1,e2,e3,_⟩:=iJ (env:=env) scope.names [] h (λx c e=>by simp at e);refine ⟨cl,?_,e2,e3⟩;simp only [closureFor];rw [show (forIn (m:=Sem) scope.names [] λx r=>if (x.2==Bc)=true then (do let c <- cellOf env x.1;pure (Dx ((x.1,c)::r))) else pure (Dx r))=pure cl from e1];rfl
def nR (hc:∀ y∈scope.names,y.2≠CS)(h:(relabel scope env).names.lookup x=some .cell\/(relabel scope env).names.lookup x=some .free):∃ y∈scope.names,y.1=x/\y.2=Bc:=by
 have e':∃ k,(k=CS\/k=Bc)/\(relabel scope env).names.lookup x=some k:=by
  rcases h with e|e
  ·exact ⟨_,.inl rfl,e⟩
  ·exact ⟨_,.inr rfl,e⟩
 obtain ⟨k,hk,e⟩:=e';have hm:=De e;obtain ⟨y,hy,hy2⟩:=AK.mp hm;obtain ⟨n,kk⟩:=y;have hn:=hc _ hy;simp only at hy2 hn;split at hy2
 ·rename_i hf
  injection hy2 with a1 a2;subst a1;simp only [Cf] at hf;exact ⟨(n,kk),hy,rfl,EA hf.1.1⟩
 ·injection hy2 with a1 a2
  subst a1 a2
  rcases hk with rfl|rfl
  ·exact absurd rfl hn
  ·exact ⟨_,hy,rfl,rfl⟩
def aA1 (ok:X.Ok)(hc:∀ y∈scope.names,y.2≠CS)(h:∀ y∈scope.names,y.2=Bc->X.env.kindOf y.1=some .cell\/X.env.kindOf y.1=some .free):∃ cl,ClOk X scope cl:=by
 obtain ⟨cl,e1,e2,e3⟩:=vP (scope:=scope) (env:=X.env) λy hy ey=>ok.has y.1 (h y hy ey);refine ⟨cl,e1,e2,λx hx=>?_⟩;obtain ⟨y,hy,rfl,ey⟩:=nR hc hx;exact e3 y hy ey
def iY (σf:St->St)(hc:X.calm=true)(hkind:scope.kind=.function)(hcell:∀ y∈scope.names,y.2≠.cell)(hnames:∀ y∈scope.names,y.2=.local->scope.names.lookup y.1=some .local)(hk:∀ y∈scope.names,y.2=Bc->X.env.kindOf y.1=some .cell\/X.env.kindOf y.1=some .free)(hN:∀ cl (σ:St),σ.length=X.N.length->BlkN X N' scope cl σ (σf σ))(hi:PI X tg iter wi)(hg:∀ cl C s₀ H₀ ex pn,PG (blk X N' scope cl C s₀ H₀ ex pn) tg g)(ht:∀ cl C s₀ H₀ ex pn,PIfs (blk X N' scope cl C s₀ H₀ ex pn) ifs tt)(he:∀ cl C s₀ H₀ ex pn,PE (blk X N' scope cl C s₀ H₀ ex pn) elt te)(hs:∀ x,Fe iter X.env x=pure x:=by intro _;rfl):PE X (.ListComp elt [⟨tg,iter,ifs,0⟩] scope pos) (aBp σf wi g tt te):=by
 intro Z s σ H Q I h;obtain ⟨cl,hcl⟩:=aA1 I.ok hcell hk;exact qH σf hc hkind hcell hnames hcl (hN cl) hi (hg cl) (ht cl) (he cl) hs Z s σ H Q I h
def vG {X:Cx}{scope sc:Scope}(hs:X.env.scope=sc)(h:(scope.names.all λy=>y.2 != Bc||sc.names.lookup y.1==some CS||sc.names.lookup y.1==some Bc)=true) :
  ∀ y∈scope.names,y.2=Bc->X.env.kindOf y.1=some .cell\/X.env.kindOf y.1=some .free:=λy hy ey=>by
 have q:=CT.mp h y hy;unfold Env.kindOf;rw [hs];rw [ey] at q;simp only [bne_self_eq_false,Bool.false_or,Bool.or_eq_true] at q
 rcases q with q|q
 ·exact .inl (EA q)
 ·exact .inr (EA q)
theorem dZ {env:Env}{x:Str}(hk:env.scope.kind=.function)(hx:env.kindOf x=some .cell):∀ {names:List (Str×Bq)},names.lookup x=some .free ->
    (names.map λ(n,k)=>if (k==Bc&&env.scope.kind==.function&&env.kindOf n==some .cell) then (n,CS) else (n,k)).lookup x=some .cell
  |[],h=>by simp at h
  |(n,k)::r,h=>by
    rw [Ak];rw [Dq] at h
    by_cases e:(x==n)=true
    . rw [e] at h;have e':x=n:=EA e;subst e';have hf:k=Bc:=AA h;subst hf;have c:(Bc==Bc&&env.scope.kind==.function&&env.kindOf x==some .cell)=true:=by rw [hk,hx];rfl
      rw [show (match ((x,Bc):Str×Bq) with|(n,k)=>if (k==Bc&&env.scope.kind==.function&&env.kindOf n==some .cell)=true then (n,CS) else (n,k))=(x,CS) from if_pos c];rw [Dq,beq_self_eq_true]
    . have e0:(x==n)=false:=by simpa using e
      rw [e0] at h;have ih:=dZ hk hx h;have en:∀ q:Str×Bq,q.1=n->(q::(r.map λ(n,k)=>if (k==Bc&&env.scope.kind==.function&&env.kindOf n==some .cell) then (n,CS) else (n,k))).lookup x=some .cell:=λq hq=>by
        obtain ⟨q1,q2⟩:=q;simp only at hq;subst hq;rw [Dq,e0];exact ih
      refine en _ ?_;show (if _ then (n,CS) else (n,k)).1=n;split<;>rfl
def iK {X:Cx}{N' N:Gh}{scope sc:Scope}{cl:List (Str×Gj)}{σ:St}(ts:List (Option Nat))(hN:X.N=N)(hsc:X.env.scope=sc)(hl:ts.length=N'.length)(hk:sc.kind=.function)
  (h:((ts.zip N').all λp=>match p.1 with|none=>true|some j=>N[j]?==some p.2&&sc.names.lookup p.2==some CS&&scope.names.lookup p.2==some Bc)=true) :
  BlkN X N' scope cl σ (ts.map λt=>t.bind λj=>(σ[j]?).join):=by
 refine ⟨by rw [Ag,hl],λi x v h1 h2=>?_⟩;rw [Aq] at h2;cases ht:ts[i]? with
 |none=>rw [ht] at h2;cases h2
 |some t=>
  rw [ht] at h2;have h2':(t.bind λj=>(σ[j]?).join)=some v:=AA h2;cases t with
  |none=>cases h2'
  |some j=>
   have hm:(some j,x)∈ts.zip N':=Ao (by rw [FD];exact ⟨ht,h1⟩:(ts.zip N')[i]?=some (some j,x));have q:=CT.mp h _ hm;simp only [Cf] at q;obtain ⟨⟨q1,q2⟩,q3⟩:=q;have q1':=EA q1;have q2':=EA q2;have q3':=EA q3;have kd:X.env.kindOf x=some .cell:=by
    unfold Env.kindOf;rw [hsc];exact q2'
   refine ⟨j,by rw [hN];exact q1',?_,by rw [hsc];exact .inr (.inl q2'),(by rw [kd];decide),.inl (dZ (by rw [hsc];exact hk) kd q3')⟩;have h3:(σ[j]?).join=some v:=h2';cases hj:σ[j]? with
   |none=>rw [hj] at h3;cases h3
   |some o=>rw [hj] at h3;cases o with
    |none=>cases h3
    |some u=>cases h3;rfl
def aFx {iy:Nat}(σf:St->St)(hc:X.calm=true)(hkind:scope.kind=.function)(hcell:∀ y∈scope.names,y.2≠.cell)(hnames:∀ y∈scope.names,y.2=.local->scope.names.lookup y.1=some .local)(hcl:ClOk X scope cl)(hN:∀ σ:St,σ.length=X.N.length->BlkN X N' scope cl σ (σf σ))(hi:PI X tg iter wi)(hg:∀ C s₀ H₀ ex pn,PG (blk X N' scope cl C s₀ H₀ ex pn) tg g)(ht:∀ C s₀ H₀ ex pn,PIfs (blk X N' scope cl C s₀ H₀ ex pn) ifs tt)(he:∀ C s₀ H₀ ex pn,PE (blk X N' scope cl C s₀ H₀ ex pn) elt te)(hnd:X.N.Nodup)(hiy:X.N[iy]?=some y)(hy:Loc X.env.scope y)(hfy:X.fn y=true\/X.env.scope.names.lookup y=some .local)(hsw:swapsWith (.ListComp elt [⟨tg,iter,ifs,0⟩] scope pos) (some (.Name y py)) spos.line X.env=pure true)(hs:∀ x,Fe iter X.env x=pure x:=by intro _;rfl):PS X (.Assign [.Name y py] (.ListComp elt [⟨tg,iter,ifs,0⟩] scope pos) spos) (tAsg (aBp σf wi g tt te) (gName iy)):=by
 intro Z s σ H Dn I h;rw [exec_Assign_Name_used _ _ _ _ hsw];refine Aa (Fy (Aa ?_));show wpAny _ X.A (do let _ <- comprehension (.ListComp elt [⟨tg,iter,ifs,0⟩] scope pos) scope X.env _ (newList []) false (eval iter X.env) (some (assign (.Name y py) X.env))) _ _ s;refine Aa (Cy (wpAny_comprehension_free (use:=some (assign (.Name y py) X.env)) (Q:=λ_ s'=>SP X Z Dn .next s') rfl hs hcl.run hkind hnames
  (thn (hi Z s σ H _ I h) λv s1 h1=>thn h1 λitv s2 h2=>?_)) (λ_ s' hq=>Af (Af hq)) λ_ _ e=>e)
 obtain ⟨it,fp,tn,J,H2,rfl,I2,T,st2,f2,q⟩:=h2;refine Be (wpAny_newFunctionEnv hcell (by intro y hy;simp at hy) (λh₁ hns₁ hsb₁=>?_) hkind);dsimp only at hns₁ hsb₁ ⊢;have hfo:∀ b∈fp,b<s2.heap.objs.size:=λb hb=>by
  obtain ⟨o,e,_⟩:=T.obj _ _ st2 b hb;exact Ar e
 have hDf:H2 s2.heap.objs.size=none:=I2.hok.fresh (Aj _);obtain ⟨W,⟨m0,w0⟩,turn⟩:=q s2.heap.objs.size hDf;have I3:Inv X Z σ (upd H2 s2.heap.objs.size (.lst [])) { s2 with heap:=s2.heap.push { cls:=.type "list",data:=.seq ([]:Gi).toArray } }:=I2.lnew (its:=[]) (t':=s2.toks) .nil (BF _);have f3:∀ b∈fp,FpOk X Z (upd H2 s2.heap.objs.size (.lst [])) b:=λb hb=>⟨by rw [aJ (Au (hfo b hb))];exact (f2 b hb).1,(f2 b hb).2⟩;generalize hD:s2.heap.objs.size=D at *
 generalize hs3:({ s2 with heap:=s2.heap.push { cls:=.type "list",data:=.seq ([]:Gi).toArray } }:Gm)=s3 at *
 have hh3:s3.heap=s2.heap.push { cls:=.type "list",data:=.seq ([]:Gi).toArray }:=by rw [<- hs3]
 have hsz3:s2.heap.objs.size<s3.heap.objs.size:=by rw [hh3,BP];exact Cg _
 have e3:∀ h t,({ s2 with heap:=h,toks:=t }:Gm)={ s3 with heap:=h,toks:=t }:=λh t=>by rw [<- hs3]
 rw [<- hh3] at hns₁ hsb₁ ⊢;have hk3:∀ b o,s3.heap.get? b=some o->h₁.get? b=some o:=λb o e=>hsb₁.extBut b o (Au (Ar e)) (Ad _ e);have I4:=oX (t':=s3.toks) I3 hkind hcl (hN σ I.len) f3 (λb hb=>Ey (hfo b hb) (hD▸hsz3)) (hns:=by simpa using hns₁) hk3;generalize hB:blk X N' scope cl s3.heap.objs.size s3 (upd H2 D (.lst [])) fp (X.pn++Z)=B at *
 have hBp:B.prog=X.prog:=by rw [<- hB];rfl
 have hBw:B.w=X.w:=by rw [<- hB];rfl
 have hBK:B.K=X.K:=by rw [<- hB];rfl
 have hBA:B.A=X.A:=by rw [<- hB];rfl
 have hBc:B.calm=true:=by rw [<- hB];exact hc
 have hBe:B.env=compEnvC scope cl s3.heap.objs.size X.env:=by rw [<- hB];rfl
 have hBx:B.xe=λ_ _=>False:=by rw [<- hB];rfl
 have hGB:PG B tg g:=hB▸hg _ _ _ _ _;have hTB:PIfs B ifs tt:=hB▸ht _ _ _ _ _;have hEB:PE B elt te:=hB▸he _ _ _ _ _;have stat:∀ {H':Hp},(∀ b∈fp,H' b=none)->∀ b∈fp,FpOk B [] H' b:=λ{H'} hn b hb=>by
  obtain ⟨f0,f1,f2',f3',f4,f5⟩:=f3 b hb;rw [<- hB];refine ⟨hn b hb,Au (Ey (hfo b hb) (hD▸hsz3)),λz=>?_,.inl hb,λx c e=>f4 x c (hcl.sub x c e),λp hp=>?_⟩
  ·rcases AB.mp (I.stkSub b z) with z|z
   ·exact f1 z
   ·exact f2' z
  ·rw [show (blk X N' scope cl s3.heap.objs.size s3 (upd H2 D (.lst [])) fp (X.pn++Z)).pn=X.pn++Z from rfl,Cc] at hp
   exact f5 p hp
 have loop:∀ s4:Gm,Inv B [] (σf σ) (upd H2 D (.lst [])) s4->tn 0 s4.heap ->
   Eu (model X.prog X.w) X.A (.compLoop (.ListComp elt [⟨tg,iter,ifs,0⟩] scope pos) 0 (.ref it) (.ref D) (compEnvC scope cl s3.heap.objs.size X.env)) (compPost (model X.prog X.w) X.A X.xe (some (assign (.Name y py) X.env)) (λ_ s'=>SP X Z Dn .next s') (.ref D) s3.heap.objs.size) s4:=by
  intro s4 I4 st4;refine iN (I:=λn s'=>∃ i ys H',Inv B [] (σf σ) H' s'/\tn i s'.heap/\(∀ b∈fp,H' b=none)/\W i n ys H') ?_ m0 ⟨0,[],_,I4,st4,λb hb=>(f3 b hb).1,w0⟩
  rintro n s5 ⟨i,ys,H5,I5,st5,fr5,w5⟩
  obtain ⟨hD5,hlen5,alt⟩:=turn i n ys H5 w5
  rcases alt with ⟨stop,qn⟩|⟨go,step⟩
  ·have z:=T.done B hBp hBw hBK hBc i [] s5 (σf σ) H5 (λ_ _=>False) I5 (stat fr5) st5 stop
   rw [hBA] at z;refine thn z λr s6 ⟨hr,I6⟩=>?_;subst hr;obtain ⟨m6,hn6,_⟩:=I6.loc;rw [hBe] at hn6;subst hB;have I6x:Inv X Z σ H5 s6:=aA8 I3 f3 I6 (h'':=s6.heap) ⟨rfl,λ_ _=>rfl⟩;have fC:FpOk X Z H5 s3.heap.objs.size:=I3.fpOk (Aj _) I6.free;obtain ⟨g0,g1,g2,g3,g4,g5⟩:=id fC;obtain ⟨oC,es,ep,hoC,hdC,rest⟩:=hn6;have I6p:=I6x.pinned (fp:=[s3.heap.objs.size]) (λb hb=>by rw [Az.mp hb];exact fC) (λb hb=>⟨oC,by rw [Az.mp hb];exact hoC,λv e=>by rw [hdC] at e;cases e⟩);show wpAny (model X.prog X.w) X.A (assign (.Name y py) X.env (.ref D)) _ X.xe s6;refine thn (gD (i:=iy) (pos:=py) hnd hiy hy hfy _ s6 σ H5 (.ref D) (.ref D) (λσ' H'=>Dn.nx σ' H') I6p rfl qn) λ_ s7 ⟨σ7,H7,I7,q7⟩=>?_;have pc:=I7.pin (s3.heap.objs.size,oC) (AO _ (AO _ (dO (by simp) hoC)));refine ⟨m6,⟨oC,es,ep,pc.1,hdC,rest⟩,λh' hs'=>⟨σ7,H7,?_,q7⟩⟩;exact I7.unpinned.turned (t':=s7.toks) (λb o hb e=>hs'.extBut b o hb e) pc.2.1 g1 g3 g4 g5
  ·have z:=T.item B hBp hBw hBK hBc i [] s5 (σf σ) H5 (λ_ _=>False) I5 (stat fr5) st5 go
   rw [hBA] at z;refine thn z λr s6 ⟨u,hr,h6⟩=>?_;subst hr;refine thn h6 λ_ s7 ⟨x,H7,I7,r7,y7,st7,fr7⟩=>?_;have I7':=I7.pinned (stat fr7) (T.obj _ _ st7);have z8:=hGB _ s7 (σf σ) H7 x u _ I7' r7 (step x H7 y7);rw [hBp,hBw,hBA,hBe,hBx] at z8;refine thn z8 λ_ s8 ⟨σ8,H8,I8,k8,q8⟩=>?_;have z9:=hTB _ s8 σ8 H8 _ I8 q8;rw [hBp,hBw,hBA,hBe,hBx] at z9;refine thn z9 λok s9 ⟨H9,I9,q9⟩=>?_;have again:∀ {ys':Gq} {H':Hp} {s':Gm},Inv B ([]++lD fp s7.heap) σ8 H' s'->(∃ m',m'<n/\W (i+1) m' ys' H')->∃ m,m<n/\∃ i ys H',Inv B [] (σf σ) H' s'/\tn i s'.heap/\(∀ b∈fp,H' b=none)/\W i m ys H':=λ{ys' H' s'} J ⟨m',hm,w'⟩=>by
    refine ⟨m',hm,i+1,ys',H',J.unpinned.weak k8.len.symm k8.at',T.keep _ _ _ st7 λb hb o e=>(J.pin (b,o) (AO _ (AO _ (dO hb e)))).1,λb hb=>?_,w'⟩;obtain ⟨o,e,d⟩:=T.obj _ _ st7 b hb;exact (J.pin (b,o) (AO _ (AO _ (dO hb e)))).2.1
   cases ok with
   |false=>exact again I9 q9
   |true=>
    have z10:=hEB _ s9 σ8 H9 _ I9 q9;rw [hBp,hBw,hBA,hBe,hBx] at z10;refine thn z10 λy10 s10 ⟨y,H10,I10,r10,hD10,q10⟩=>?_;have z11:=bO (X:=B) _ s10 σ8 H10 (.ref D) [y] (.ref D) [y10] (λ_ H'=>∃ m',m'<n/\W (i+1) m' (ys++[y]) H') I10 rfl (.cons r10 .nil) ⟨D,ys,y,rfl,rfl,hD10,hlen5,q10⟩;rw [hBp,hBw,hBA,hBx] at z11;refine thn z11 λ_ s11 ⟨_,H11,I11,_,q11⟩=>again I11 q11
 have st4:tn 0 ({ s3 with heap:=h₁,toks:=s3.toks }:Gm).heap:=T.keep _ _ _ st2 λb hb o e=>hk3 b o (by rw [hh3];exact Ad _ e);have L4:=loop _ I4 st4;subst hs3;exact codeAny_compStart_list L4 (T.self _ 0 _ _ _ st4 L4)
def sL {iy:Nat}(σf:St->St)(hc:X.calm=true)(hkind:scope.kind=.function)(hcell:∀ y∈scope.names,y.2≠.cell)(hnames:∀ y∈scope.names,y.2=.local->scope.names.lookup y.1=some .local)(hk:∀ y∈scope.names,y.2=Bc->X.env.kindOf y.1=some .cell\/X.env.kindOf y.1=some .free)(hN:∀ cl (σ:St),σ.length=X.N.length->BlkN X N' scope cl σ (σf σ))(hi:PI X tg iter wi)(hg:∀ cl C s₀ H₀ ex pn,PG (blk X N' scope cl C s₀ H₀ ex pn) tg g)(ht:∀ cl C s₀ H₀ ex pn,PIfs (blk X N' scope cl C s₀ H₀ ex pn) ifs tt)(he:∀ cl C s₀ H₀ ex pn,PE (blk X N' scope cl C s₀ H₀ ex pn) elt te)(hnd:X.N.Nodup)(hiy:X.N[iy]?=some y)(hy:Loc X.env.scope y)(hfy:X.fn y=true\/X.env.scope.names.lookup y=some .local)(hsw:swapsWith (.ListComp elt [⟨tg,iter,ifs,0⟩] scope pos) (some (.Name y py)) spos.line X.env=pure true)(hs:∀ x,Fe iter X.env x=pure x:=by intro _;rfl):PS X (.Assign [.Name y py] (.ListComp elt [⟨tg,iter,ifs,0⟩] scope pos) spos) (tAsg (aBp σf wi g tt te) (gName iy)):=by
 intro Z s σ H D I h;obtain ⟨cl,hcl⟩:=aA1 I.ok hcell hk;exact aFx σf hc hkind hcell hnames hcl (hN cl) hi (hg cl) (ht cl) (he cl) hnd hiy hy hfy hsw hs Z s σ H D I h
structure Ys (J:It)(xs:Gq)(H1:Hp):Prop where
 go:∀ i H,Same H1 H->i<xs.length->J.go i H
 yld:∀ i H x H',Same H1 H->i<xs.length->J.yld i H x H'->H'=H/\xs[i]?=some x
 stop:∀ i H,Same H1 H->xs.length<=i->J.stop i H
def Ys.list {K:Ab}{a:Gj}{xs:Gq}{H1:Hp}(h:SqL K H1 a xs):Ys (Itl K a) xs H1 where
 go:=λi H s hi=>⟨xs,xs[i],s.seq h,Ae hi⟩
 yld:=λi H x H' s _ y=>⟨y.1,y.2 xs (s.seq h)⟩
 stop:=λi H s hi=>⟨xs,s.seq h,hi⟩
def Ys.tup {K:Ab}{a:Gj}{xs:Gq}{H1:Hp}(h:SqT K H1 a xs):Ys (Itt K a) xs H1 where
 go:=λi H s hi=>⟨xs,xs[i],s.tup h,Ae hi⟩
 yld:=λi H x H' s _ y=>⟨y.1,y.2 xs (s.tup h)⟩
 stop:=λi H s hi=>⟨xs,s.tup h,hi⟩
def rngV (lo:Int)(n:Nat):Gq:=(Bf n).map λ(i:Nat)=>V.int (lo+(i:Int))
theorem gP (lo:Int)(n:Nat):(rngV lo n).length=n:=by unfold rngV;rw [Ag,List.length_range]
def aB4 {lo:Int}{n i:Nat}(h:(rngV lo n)[i]?=some x):i<n/\x=.int (lo+i):=by
 have hi:i<n:=by rw [<- gP lo n];exact (Ac.mp h).1
 unfold rngV at h;rw [Aq,List.getElem?_range hi] at h;exact ⟨hi,(AA h).symm⟩
def Ys.rng {lo:Int}{n:Nat}:Ys (Itr lo n) (rngV lo n) H1 where
 go:=λi H _ hi=>by rw [gP] at hi;exact hi
 yld:=λi H x H' _ hi y=>⟨y.1,by
  obtain ⟨_,rfl⟩:=y;rw [gP] at hi;unfold rngV;rw [Aq,List.getElem?_range hi];rfl⟩
 stop:=λi H _ hi=>by rw [gP] at hi;exact hi
def iU {α:Type}{ys:List α}{y z:α}{j:Nat}(h:(ys++[y])[j]?=some z):(j<ys.length/\ys[j]?=some z)\/(j=ys.length/\z=y):=by
 by_cases hj:j<ys.length
 ·rw [AG hj] at h
  exact .inl ⟨hj,h⟩
 ·rw [AH (by lia)] at h
  have e0:j-ys.length=0:=by
   cases hz:j-ys.length with
   |zero=>rfl
   |succ n=>rw [hz] at h;simp at h
  rw [e0] at h;exact .inr ⟨by lia,by simpa using h.symm⟩
def hJ {J:It}{xs:Gq}{D:Gj}{g:TG}{te:TE}{σ0:St}{QD:Hp->Prop}{H1:Hp}(Y:Ys J xs H1)(Pr:Nat->V->V->Hp->Prop)(hP:∀ i x y H H',Pr i x y H->Tk H H'->Pr i x y H')(hD:H1 D=none)(hl:xs.length<=1000)
  (hs:∀ i x H' (R:VK),xs[i]?=some x->Same H1 H'->(∀ y H4,Same H' H4->Pr i x y H4->R y H4)->g x σ0 H' λσ2 H2=>Keep σ0 σ2/\te σ2 H2 R)
  (hd:∀ ys H',Same H1 H'->H' D=some (.lst ys)->ys.length=xs.length->(∀ i x y,xs[i]?=some x->ys[i]?=some y->Pr i x y H')->QD H') :
  ∃ W:Nat->Nat->Gq->Hp->Prop,(∃ m,W 0 m [] (upd H1 D (.lst [])))/\∀ i m ys H,W i m ys H->H D=some (.lst ys)/\ys.length<Av /\
   ((J.stop i H/\QD H)\/(J.go i H/\∀ x H',J.yld i H x H'->g x σ0 H' λσ2 H2=>Keep σ0 σ2/\aBn σ2 H2 λb H3=>
    if b=true then te σ2 H3 λy H4=>H4 D=some (.lst ys)/\∃ m',m'<m/\W (i+1) m' (ys++[y]) (upd H4 D (.lst (ys++[y]))) else ∃ m',m'<m/\W (i+1) m' ys H3)):=by
 refine ⟨λi m ys H=>m=xs.length-i/\i<=xs.length/\Same H1 H/\H D=some (.lst ys)/\ys.length=i/\∀ j x y,xs[j]?=some x->ys[j]?=some y->Pr j x y H,
  ⟨_,rfl,BF _,Gu hD,aD,rfl,λj x y _ h=>by simp at h⟩,?_⟩
 rintro i m ys H ⟨rfl,hi,sm,hDH,yl,pr⟩
 refine ⟨hDH,bQ (by lia),?_⟩
 by_cases hlt:i<xs.length
 ·refine .inr ⟨Y.go i H sm hlt,λx H' y=>?_⟩
  obtain ⟨rfl,hx⟩:=Y.yld i H x H' sm hlt y;refine hs i x H' _ hx sm λy H4 s4 py=>?_;have hD4:=s4 _ _ hDH;have tk:Tk H4 (upd H4 D (.lst (ys++[y]))):=Tk.lst hD4;refine ⟨hD4,xs.length-(i+1),by lia,rfl,hlt,λb o hb=>?_,aD,by rw [As,yl];rfl,λj x' y' hx' hy'=>?_⟩
  ·rw [aJ (aW hb hD)]
   exact s4 _ _ (sm _ _ hb)
  ·rcases iU hy' with ⟨_,hy'⟩|⟨e,e'⟩
   ·exact hP _ _ _ _ _ (hP _ _ _ _ _ (pr j x' y' hx' hy') (Same.tk s4)) tk
   ·subst e'
    have:j=i:=by lia
    subst this;rw [hx] at hx';cases hx';exact hP _ _ _ _ _ py tk
 ·have e:i=xs.length:=by lia
  subst e;exact .inl ⟨Y.stop _ H sm (Aj _),hd ys H sm hDH yl pr⟩
def aAz {J:It}{xs:Gq}{D:Gj}{g:TG}{tt:TT}{te:TE}{σ0:St}{QD:Hp->Prop}{H1:Hp}(Y:Ys J xs H1)(p:V->Bool)(Pr:V->V->Hp->Prop)(hP:∀ x y H H',Pr x y H->Tk H H'->Pr x y H')(hD:H1 D=none)(hl:xs.length<=1000)
  (hs:∀ (i:Nat) x H' (R1:VK) (R2:Hp->Prop),xs[i]?=some x->Same H1 H'->(p x=true->∀ y H4,Same H' H4->Pr x y H4->R1 y H4)->(p x=false->∀ H4,Same H' H4->R2 H4)->g x σ0 H' λσ2 H2=>Keep σ0 σ2/\tt σ2 H2 λb H3=>if b=true then te σ2 H3 R1 else R2 H3)
  (hd:∀ ys H',Same H1 H'->H' D=some (.lst ys)->ys.length=(xs.filter p).length->(∀ (i:Nat) x y,(xs.filter p)[i]?=some x->ys[i]?=some y->Pr x y H')->QD H') :
  ∃ W:Nat->Nat->Gq->Hp->Prop,(∃ m,W 0 m [] (upd H1 D (.lst [])))/\∀ i m ys H,W i m ys H->H D=some (.lst ys)/\ys.length<Av /\
   ((J.stop i H/\QD H)\/(J.go i H/\∀ x H',J.yld i H x H'->g x σ0 H' λσ2 H2=>Keep σ0 σ2/\tt σ2 H2 λb H3=>
    if b=true then te σ2 H3 λy H4=>H4 D=some (.lst ys)/\∃ m',m'<m/\W (i+1) m' (ys++[y]) (upd H4 D (.lst (ys++[y]))) else ∃ m',m'<m/\W (i+1) m' ys H3)):=by
 refine ⟨λi m ys H=>m=xs.length-i/\i<=xs.length/\Same H1 H/\H D=some (.lst ys)/\ys.length=((xs.take i).filter p).length/\∀ (j:Nat) x y,((xs.take i).filter p)[j]?=some x->ys[j]?=some y->Pr x y H,
  ⟨_,rfl,BF _,Gu hD,aD,rfl,λj x y _ h=>by simp at h⟩,?_⟩
 rintro i m ys H ⟨rfl,hi,sm,hDH,yl,pr⟩
 have yl':ys.length<=xs.length:=by
  rw [yl];exact Bj (List.length_filter_le _ _) (by rw [Dr];lia)
 refine ⟨hDH,bQ (by lia),?_⟩
 by_cases hlt:i<xs.length
 ·refine .inr ⟨Y.go i H sm hlt,λx H' y=>?_⟩
  obtain ⟨rfl,hx⟩:=Y.yld i H x H' sm hlt y;have et:xs.take (i+1)=xs.take i++[x]:=by rw [Dd,hx];rfl
  refine hs i x H' _ _ hx sm (λpx y H4 s4 py=>?_) (λpx H4 s4=>?_)
  ·have hD4:=s4 _ _ hDH
   have tk:Tk H4 (upd H4 D (.lst (ys++[y]))):=Tk.lst hD4;refine ⟨hD4,xs.length-(i+1),by lia,rfl,hlt,λb o hb=>?_,aD,?_,λj x' y' hx' hy'=>?_⟩
   ·rw [aJ (aW hb hD)]
    exact s4 _ _ (sm _ _ hb)
   ·rw [et,CQ,As,As,yl,ED px]
    rfl
   ·rw [et,CQ,ED px] at hx'
    rcases iU hx' with ⟨h1,hx'⟩|⟨h1,hx'⟩
    ·rcases iU hy' with ⟨_,hy'⟩|⟨e,_⟩
     ·exact hP _ _ _ _ (hP _ _ _ _ (pr j x' y' hx' hy') (Same.tk s4)) tk
     ·lia
    ·rcases iU hy' with ⟨h2,_⟩|⟨_,hy'⟩
     ·lia
     ·subst hx' hy'
      exact hP _ _ _ _ py tk
  ·refine ⟨xs.length-(i+1),by lia,rfl,hlt,sm.trans s4,s4 _ _ hDH,?_,λj x' y' hx' hy'=>?_⟩
   ·rw [et,CQ,EE (by rw [px];exact AC),List.filter_nil,Cc,yl]
   ·rw [et,CQ,EE (by rw [px];exact AC),List.filter_nil,Cc] at hx'
    exact hP _ _ _ _ (pr j x' y' hx' hy') (Same.tk s4)
 ·have e:i=xs.length:=by lia
  subst e;rw [AN] at yl pr;exact .inl ⟨Y.stop _ H sm (Aj _),hd ys H sm hDH yl pr⟩
end L2
namespace L2
open PySem.W
structure ExK (K:Frag)(C:Gj):Prop where
 ga:findIn K (.ref C) "__getattribute__" = some (some (.builtin "BaseException.__getattribute__"))
 gt:findIn K (.ref C) "__getattr__" = some none
 cl:findIn K (.ref C) "__class__" = some (some (.builtin "object.__class__"))
 sb:subIn K (.ref C) (.type "BaseException")=some true
 so:subIn K (.ref C) (.type "object")=some true
 ci:(clsIn K C).isSome=true
structure ExAt (h:Heap)(a:Gj)(o:Obj)(C:Gj):Prop where
 at_:h.get? a=some o
 cls:o.cls=.ref C
def ExAt.type (I:ExAt h a o C):Looks M h (typeOf (.ref a)) (.ref C):=by
 rw [<- I.cls];exact (Looks.ld I.at_).andThen .now
section
variable {prog:Aw}{w:World}{A:Around}{E:Ga}{h:Heap}{g:Array GenState}{d:Drawn}{t:Nat}{os:OsState}{a C:Gj}{o:Obj}{K:Frag}
end
def excO (a C:Gj):HO:=.ext λh=>∃ o,ExAt h a o C
section
variable {X:Cx}
end
def aAp (o:Obj)(f:Array Gk->Array Gk):(Ee f o).dict=o.dict:=by
 unfold Ee;split<;>rfl
def TrD (h base:Heap)(e:Gj)(cls:Gk)(dd:Option Gj)(fl:Gk):Prop:=
 ∃ (ob tb:Obj) (us ts:Array Gk) (T:Gj),(h.get? e=some ob/\ob.data=.fields us/\ob.cls=cls/\ob.dict=dd)/\us[1]?=some (.ref T)/\(base.get? T=none/\T≠e)/\h.get? T=some tb/\tb.data=.fields ts/\ts[3]?=some fl
structure FlyD (base:Heap)(l:List Env)(e:Gj)(cls:Gk)(dd:Option Gj)(fl:Gk)(h:Heap):Prop where
 st:base.StaysIn h
 no:base.get? e=none
 fr:h.FunFrames base l
 tr:TrD h base e cls dd fl
section
variable {M:Model}{A:Around}{E:Ga}{s:Gm}{base:Heap}{env:Env}{outer:List Env}{L e:Gj}{Q:Unit->Gm->Prop}{cls:Gk}{dd:Option Gj}
def aEi {had:Bool}(frs:A.frames=some (env::outer))(ff:s.heap.FunFrames base (env::outer))(fL:env.frame=some L)(ge:s.heap.get? e=some ob)(st:base.StaysIn s.heap)(no:base.get? e=none)(du:ob.data=.fields us)(sz:1<us.size)(k:∀ h',FlyD base (env::outer) e ob.cls ob.dict (rawInt L) h'->s.heap.UpToSlots h'->Q () { s with heap:=h' }) :
  wpAny M A (do let fo <- frameOf env;let pl <- entryPlaceOf L had;let row <- EntryCells.newEntry head fo .none (rawInt L) .none pl;setField (.ref e) 1 row) Q E s:=by
 have eNot:e∉(env::outer).filterMap (·.frame):=λmem=>by
  obtain ⟨_,o',g',nf⟩:=ff.mem mem;cases ge.symm.trans g';exact nf us du
 refine Aa (wpAny_frameOf_fun frs ff fL λh1 only=>Aa (wpAny_entryPlaceOf λpl plOk=>?_));unfold EntryCells.newEntry newFields;refine Aa (Be ?_ (plOk.sizeOk5 _ _ _ _ _));have g1:h1.get? e=some ob:=(only.2.1 e eNot).trans ge;have st1:base.StaysIn h1:=λb o q=>(only.2.1 b λmem=>by
  rw [(ff.mem mem).1] at q;cases q).trans (st b o q)
 generalize hrow:({ cls:=.type "traceback",dict:=none,data:=.fields ([head,.ref L,.none,rawInt L,.none]++(if pl.isEmpty then Cz 6 BN else pl)).toArray }:Obj)=row;have g2:(h1.push row).get? e=some ob:=Ad row g1;have Tne:h1.objs.size≠e:=DH (Ar g1);have du':=EH du (·.setIfInBounds 1 (AD h1.objs.size));have gT:(h1.push row).get? h1.objs.size=some row:=Ai h1 (by rw [<- hrow];rfl);have old:∀ b o,b≠e->h1.get? b=some o->((h1.push row).update e (Ee (·.setIfInBounds 1 (AD h1.objs.size)))).get? b=some o:=λb o nb q=>by
  rw [Bh _ _ (Bi nb)];exact Ad row q
 have nofld:∀ b o,s.heap.get? b=some o->(∀ vs,o.data≠.fields vs)->b≠e:=λb o q nf z=>by
  subst z;cases ge.symm.trans q;exact nf us du
 refine Fi g2 du sz (k _ ⟨λb o q=>old b o ?_ (st1 b o q),no,ff.of_keeps λb o q nf=>?_,?_⟩ λb o q nf=>?_)
 ·rintro rfl
  rw [no] at q;cases q
 ·obtain ⟨sl,z⟩:=only.2.2 b o q
  exact ⟨_,old b _ (nofld b o q nf) z,rfl⟩
 ·refine ⟨_,row,_,([head,.ref L,.none,rawInt L,.none]++(if pl.isEmpty then Cz 6 BN else pl)).toArray,h1.objs.size,⟨Cd _ g2 (EV du'),du',Obj.cls_mapFields _ _,aAp _ _⟩,by simp [sz],⟨?_,Tne⟩,?_,by rw [<- hrow],by simp⟩
  ·cases z:base.get? h1.objs.size with
   |none=>rfl
   |some o=>exact absurd (Ar (st1 _ _ z)) (CN _)
  ·rw [Bh _ _ (Bi Tne)]
   exact gT
 ·obtain ⟨sl,z⟩:=only.2.2 b o q
  exact ⟨sl,old b _ (nofld b o q nf) z⟩
def aAh {l:List Env}(F:FlyD base l e cls dd fl s.heap)(k:∀ h',FlyD base l e cls dd .none h'->s.heap.UpToSlots h'->Q () { s with heap:=h' }):wpAny M A (setFlight (.ref e) none) Q E s:=by
 obtain ⟨st,no,ff,ob,tb,us,ts,T,⟨ge,du,cc,cd⟩,u1,⟨nT,Tne⟩,gT,dt,t3⟩:=F;unfold setFlight;refine Aa (BG ge du u1 ?_);rw [if_pos (show (AD T != BN)=true from rfl)];have z3:3<ts.size:=(CB.mp t3).1;have dt':=EH dt (·.setIfInBounds 3 ((none:Option Gj).elim BN λf=>rawInt f));have old:∀ b,b≠T->(s.heap.update T (Ee (·.setIfInBounds 3 ((none:Option Gj).elim BN λf=>rawInt f)))).get? b=s.heap.get? b:=λb nb=>Bh _ _ (Bi nb);have nofld:∀ b o,s.heap.get? b=some o->(∀ vs,o.data≠.fields vs)->b≠T:=λb o q nf z=>by
  subst z;cases gT.symm.trans q;exact nf ts dt
 refine Fi gT dt z3 (k _ ⟨λb o q=>?_,no,ff.of_keeps λb o q nf=>⟨o,(old b (nofld b o q nf)).trans q,rfl⟩,?_⟩ λb o q nf=>⟨o.slots,(old b (nofld b o q nf)).trans q⟩)
 ·refine (old b ?_).trans (st b o q)
  rintro rfl
  rw [nT] at q;cases q
 ·exact ⟨ob,_,us,_,T,⟨(old e (Bi Tne)).trans ge,du,cc,cd⟩,u1,⟨nT,Tne⟩,Cd _ gT (EV dt'),dt',by simp [z3]⟩
def aI9 (frs:A.frames=some (env::outer))(ff:s.heap.FunFrames base (env::outer))(fL:env.frame=some L)(ge:s.heap.get? e=some ob)(st:base.StaysIn s.heap)(no:base.get? e=none)(du:ob.data=.fields us)(u1:us[1]?=some .none)(k:∀ h',FlyD base (env::outer) e ob.cls ob.dict (rawInt L) h'->s.heap.UpToSlots h'->Q () { s with heap:=h' }):wpAny M A (noteFrame (.ref e) env) Q E s:=by
 unfold noteFrame;simp only [fL];refine Aa (BG ge du u1 ?_);rw [if_neg (by decide)];exact aEi frs ff fL ge st no du (CB.mp u1).1 k
def aK3 (frs:A.frames=some (env::outer))(fL:env.frame=some L)(F:FlyD base (env::outer) e cls dd .none s.heap)
  (k:∀ h',FlyD base (env::outer) e cls dd (rawInt L) h'->s.heap.UpToSlots h'->Q () { s with heap:=h' }):wpAny M A (noteFrame (.ref e) env) Q E s:=by
 obtain ⟨st,no,ff,ob,tb,us,ts,T,⟨ge,du,cc,cd⟩,u1,⟨nT,Tne⟩,gT,dt,t3⟩:=F;subst cc cd;unfold noteFrame;simp only [fL];refine Aa (BG ge du u1 ?_);rw [if_pos (show (AD T != BN)=true from rfl)];refine Aa (BG gT dt t3 ?_);rw [if_neg (show ¬ ((BN==rawInt L)=true) from by simp [rawInt])];have z3:3<ts.size:=(CB.mp t3).1;have old:∀ b,b≠T->(s.heap.update T (Ee (·.setIfInBounds 3 BN))).get? b=s.heap.get? b:=λb nb=>Bh _ _ (Bi nb);have nofld:∀ b o,s.heap.get? b=some o->(∀ vs,o.data≠.fields vs)->b≠T:=λb o q nf z=>by
  subst z;cases gT.symm.trans q;exact nf ts dt
 refine Aa (Fi gT dt z3 ?_);refine aEi frs (ff.of_keeps λb o q nf=>⟨o,(old b (nofld b o q nf)).trans q,rfl⟩) fL ((old e (Bi Tne)).trans ge) (λb o q=>?_) no du (CB.mp u1).1 λh' F' up=>k h' F' λb o q nf=>up b o ((old b (nofld b o q nf)).trans q) nf;refine (old b ?_).trans (st b o q)
 rintro rfl
 rw [nT] at q;cases q
def FlyD.tail (F:FlyD base (env::outer) e cls dd fl h):FlyD base outer e cls dd fl h:=⟨F.st,F.no,F.fr.2.2,F.tr⟩
def aGt (frs:A.frames=some (env::outer))(ff:s.heap.FunFrames base (env::outer))(fL:env.frame=some L)(ge:s.heap.get? e=some ob)(st:base.StaysIn s.heap)(no:base.get? e=none)(du:ob.data=.fields us)(u1:us[1]?=some .none)(k:∀ h',FlyD base outer e ob.cls ob.dict .none h'->s.heap.UpToSlots h'->Q () { s with heap:=h' }):wpAny M A (leaving env (.ref e)) Q E s:=by
 unfold leaving;exact Aa (aI9 frs ff fL ge st no du u1 λh' F' up=>aAh F' λh'' F'' up'=>k h'' F''.tail (up.trans up'))
def aJh (frs:A.frames=some (env::outer))(fL:env.frame=some L)(F:FlyD base (env::outer) e cls dd .none s.heap)
  (k:∀ h',FlyD base outer e cls dd .none h'->s.heap.UpToSlots h'->Q () { s with heap:=h' }):wpAny M A (leaving env (.ref e)) Q E s:=by
 unfold leaving;exact Aa (aK3 frs fL F λh' F' up=>aAh F' λh'' F'' up'=>k h'' F''.tail (up.trans up'))
end
structure Flx (P:Aw)(w:World)(outer:List Env)(H:Hp)(s:Gm)(H':Hp)(ea:Gj)(cls:Gk)(dd:Option Gj)(s':Gm):Prop where
 os:s'.os=s.os
 bare:AllBare s'.gens
 un:Un (frs outer) [] H H' s.heap s'.heap
 fl:∃ B:Heap,HOk P w H' B/\FlyD B outer ea cls dd .none s'.heap/\(∀ b o,s.heap.get? b=some o->H b=none->b∉frs outer->B.get? b=some o)/\(∀ b o,s.heap.get? b=some o->b∉frs outer->∃ o',B.get? b=some o')
def CXg (P:Aw)(w:World):CXT:=λouter H s E e s'=>∃ (ea C:Gj) (dd:Option Gj) (H':Hp),e=.ref ea/\Flx P w outer H s H' ea (.ref C) dd s'/\E (.ref C) dd H'
structure OwnF (X:Cx):Prop where
 stk:X.stack=X.env::X.outer
 fr:X.env.frame=some X.env.locals
 ex:X.ex=[]
section
variable {X:Cx}{Z:Ge}{σ:St}{H H':Hp}{s s':Gm}
def tD (O:OwnF X)(I:Inv X Z σ H s)(e:X.s₀.heap.get? b=some o)(hb:b∉frs X.outer):b∉frs X.stack:=by
 rw [O.stk];intro z;unfold frs at z hb;rw [Dh,O.fr] at z
 rcases AB.mp z with z|z
 ·exact absurd (AZ (Ar e) I.ok.above) (by rw [z];exact CN _)
 ·exact hb z
def aK8 (O:OwnF X)(hb:b∈frs X.outer):b∈frs X.stack:=by
 rw [O.stk];unfold frs at *
 rw [Dh,O.fr];exact Ah _ hb
def aHi (O:OwnF X)(I:Inv X Z σ H s){B h':Heap}(u:Un (frs X.stack) [] H H' s.heap s'.heap)(bk:∀ b o,X.s₀.heap.get? b=some o->X.H₀ b=none->b∉frs X.outer->B.get? b=some o)
  (th:∀ b o,X.s₀.heap.get? b=some o->b∉frs X.outer->∃ o',B.get? b=some o') (st:B.StaysIn h') (up:s'.heap.UpToSlots h'):Un (frs X.outer) [] X.H₀ H' X.s₀.heap h':=by
 have noex:∀ b:Gj,b∉X.ex:=λb z=>by rw [O.ex] at z;cases z
 have slot:∀ b o,X.s₀.heap.get? b=some o->X.H₀ b=none->b∈frs X.outer->∃ sl,h'.get? b=some { o with slots:=sl }:=λb o e n hb=>by
  obtain ⟨sl,e1⟩:=I.base.slot b o e n hb (noex b);have n1:=I.base.free b o e n (noex b);obtain ⟨sl2,e2⟩:=u.slot b _ e1 n1 (aK8 O hb) (by simp);obtain ⟨_,o',ho',hnf⟩:=I.ok.funs.mem hb;rw [e] at ho';cases ho';obtain ⟨sl3,e3⟩:=up b _ e2 (λvs q=>hnf vs q);exact ⟨sl3,e3⟩
 refine ⟨λb o e n hb _=>st b o (bk b o e n hb),λb o e n hb _=>slot b o e n hb,λb o e n _=>?_,λb o e _=>?_,λb xs e=>u.tups _ _ (I.base.tups _ _ e),λb o x e=>u.frzs _ _ _ (I.base.frzs _ _ _ e),λb ps e=>?_⟩
 ·obtain ⟨o1,e1⟩:=I.base.there b o e (noex b)
  exact u.free b o1 e1 (I.base.free b o e n (noex b)) (by simp)
 ·by_cases hb:b∈frs X.outer
  ·obtain ⟨sl,q⟩:=slot b o e (I.ok.frf b hb) hb
   exact ⟨_,q⟩
  ·obtain ⟨o2,e2⟩:=th b o e hb
   exact ⟨o2,st b o2 e2⟩
 ·obtain ⟨m1,e1⟩:=I.base.tbls b ps e
  obtain ⟨m2,e2⟩:=u.tbls _ _ e1;exact ⟨m1++m2,by rw [e2,Array.append_assoc]⟩
def aLf (I:Inv X Z σ H s)(hea:H ea=none):HOk X.prog X.w H (hideAll s.heap (ea::frs X.stack)):=λa o e=>(I.hok a o e).stay (λb u hb q=>hideAll_get _ q λz=>by
 have n:H b=none:=by
  rcases AB.mp z with z|z
  ·rw [z];exact hea
  ·exact I.stkFree b z
 rcases hb with hb|hb
 ·rw [<- hb] at e;rw [e] at n;cases n
 ·rw [hb] at n;cases n) (λ_ h=>h) (λ_ _ h=>h)
def aAg (O:OwnF X)(I:Inv X Z σ H s){ea C:Gj}{dd:Option Gj}{ob:Obj}{us:Array Gk}{E':Ga}{Q:Unit->Gm->Prop}(hea:H ea=none)(n0:X.s₀.heap.get? ea=none)(ge:s.heap.get? ea=some ob)
  (hc:ob.cls=.ref C) (hdd:ob.dict=dd) (du:ob.data=.fields us) (u1:us[1]?=some .none)
  (k:∀ h',Flx X.prog X.w X.outer X.H₀ X.s₀ H ea (.ref C) dd { s with heap:=h' }->Q () { s with heap:=h' }):wpAny (model X.prog X.w) X.A (leaving X.env (.ref ea)) Q E' s:=by
 have nfr:ea∉frs X.stack:=λz=>by
  obtain ⟨_,o',ho',hnf⟩:=I.stack.mem z;rw [ge] at ho';cases ho';exact hnf us du
 have hin:∀ env∈X.stack,∀ b,env.frame=some b->b∈ea::frs X.stack:=λenv he b hb=>Ah _ (List.mem_filterMap.mpr ⟨env,he,hb⟩);have hfr:X.A.frames=some (X.env::X.outer):=by rw [<- O.stk];exact I.ok.frames
 have hl:s.heap.FunFrames (hideAll s.heap (ea::frs X.stack)) (X.env::X.outer):=by rw [<- O.stk];exact funFrames_hide I.stack hin
 have nB:(hideAll s.heap (ea::frs X.stack)).get? ea=none:=hideAll_none _ (Al ..);have bk:∀ b o,X.s₀.heap.get? b=some o->X.H₀ b=none->b∉frs X.outer->(hideAll s.heap (ea::frs X.stack)).get? b=some o:=λb o e n hb=>by
  refine hideAll_get _ (I.base.keep b o e n hb (by rw [O.ex];simp)) λz=>?_
  rcases AB.mp z with z|z
  ·rw [z,n0] at e;cases e
  ·exact tD O I e hb z
 have th:∀ b o,X.s₀.heap.get? b=some o->b∉frs X.outer->∃ o',(hideAll s.heap (ea::frs X.stack)).get? b=some o':=λb o e hb=>by
  obtain ⟨o1,e1⟩:=I.base.there b o e (by rw [O.ex];simp);refine ⟨o1,hideAll_get _ e1 λz=>?_⟩
  rcases AB.mp z with z|z
  ·rw [z,n0] at e;cases e
  ·exact tD O I e hb z
 refine aGt (base:=hideAll s.heap (ea::frs X.stack)) hfr hl O.fr ge (λb o q=>of_hideAll _ q) nB du u1 λh' F' up=>k h' ⟨I.os,I.bare,?_,hideAll s.heap (ea::frs X.stack),aLf I hea,by rw [<- hc,<- hdd];exact F',bk,th⟩;exact aHi (s':=s) O I Un.refl bk th F'.st up
def aJs (O:OwnF X)(I:Inv X Z σ H s){ea C:Gj}{dd:Option Gj}{E':Ga}{Q:Unit->Gm->Prop}(F:Flx X.prog X.w X.stack H s H' ea (.ref C) dd s')
  (k:∀ h',Flx X.prog X.w X.outer X.H₀ X.s₀ H' ea (.ref C) dd { s' with heap:=h' }->Q () { s' with heap:=h' }):wpAny (model X.prog X.w) X.A (leaving X.env (.ref ea)) Q E' s':=by
 obtain ⟨B,hok,fl,bk,th⟩:=F.fl;have hfr:X.A.frames=some (X.env::X.outer):=by rw [<- O.stk];exact I.ok.frames
 have fl':FlyD B (X.env::X.outer) ea (.ref C) dd .none s'.heap:=by rw [<- O.stk];exact fl
 have bk0:∀ b o,X.s₀.heap.get? b=some o->X.H₀ b=none->b∉frs X.outer->B.get? b=some o:=λb o e n hb=>
  bk b o (I.base.keep b o e n hb (by rw [O.ex];simp)) (I.base.free b o e n (by rw [O.ex];simp)) (tD O I e hb)
 have th0:∀ b o,X.s₀.heap.get? b=some o->b∉frs X.outer->∃ o',B.get? b=some o':=λb o e hb=>by
  obtain ⟨o1,e1⟩:=I.base.there b o e (by rw [O.ex];simp);exact th b o1 e1 (tD O I e hb)
 exact aJh hfr O.fr fl' λh' F' up=>k h' ⟨F.os.trans I.os,F.bare,aHi O I F.un bk0 th0 F'.st up,B,hok,F',bk0,th0⟩
end
abbrev cxF (P:Aw)(w:World)(K:Frag)(mg:Gb)(base:Heap)(N:Gh)(qual:Str)(scope:Scope)(f:Gj)(cd:Gk)(A:Around)(outer:List Env)(s:Gm)(H:Hp)(E:XK):Cx:=cxOf (CXg P w) P w K mg base N qual scope f cd A outer s H E
section
variable {P:Aw}{w:World}{K:Frag}{mg:Gb}{base:Heap}{N:Gh}{qual:Str}{scope:Scope}{f:Gj}{cd:Gk}{A:Around}{outer:List Env}{s:Gm}{H:Hp}{E:XK}
def xU:OwnF (cxF P w K mg base N qual scope f cd A outer s H E):=⟨rfl,rfl,rfl⟩
def oA:hU (CXg P w) (cxF P w K mg base N qual scope f cd A outer s H E) E:=by
 intro Z σ Hc sc e s' I h;obtain ⟨ea,C,dd,H',rfl,F,hE⟩:=h;exact aJs (X:=cxF P w K mg base N qual scope f cd A outer s H E) xU I F λh' F'=>⟨ea,C,dd,H',rfl,F',hE⟩
def XeOk (X:Cx)(E:XK):Prop:=∀ (Z:Ge) (σ:St) (H:Hp) (s:Gm) (ea C:Gj) (ob:Obj) (us:Array Gk),Inv X Z σ H s->H ea=none->X.s₀.heap.get? ea=none->s.heap.get? ea=some ob->ob.cls=.ref C->ob.data=.fields us->us[1]?=some .none->E (.ref C) ob.dict H->X.xe (.ref ea) s
def xe_f:XeOk (cxF P w K mg base N qual scope f cd A outer s H E) E:=by
 intro Z σ Hc sc ea C ob us I hea n0 ge hc du u1 hE;exact aAg (X:=cxF P w K mg base N qual scope f cd A outer s H E) xU I hea n0 ge hc rfl du u1 λh'' F'=>⟨ea,C,ob.dict,Hc,rfl,F',hE⟩
def Fun.okF {x:Str}{st:Stmt}{fd:Ay}{ps:Gh}{k:Nat}{sp:Sp}(F:Fun K x qual st f fd)(S:FnScope N ps (aG st))(len:∀ vs H Q E,sp vs H Q E->vs.length=ps.length)
  (hbody:∀ (cdv:Gk) (A:Around) (outer:List Env) (s:Gm) (H:Hp) (vs:Gq) (Q:VK) (E:XK),Room k (A.deeper (envOfC qual (aG st) s.heap.objs.size f cdv))->sp vs H Q E ->
   ∃ t,PSs (cxF P w K mg base N qual (aG st) f cdv A outer s H E) (dQ st) t/\t { nx:=λ_ H'=>Q .non H',rt:=Q } (start N vs) H):FnOk P w K mg base (CXg P w) (k+1) f fd ps sp:=by
 obtain ⟨oc,od,kV,doc,pm,an,cdv,ct,osl,rfl,lk,hcd⟩:=F.ex;exact aJr lk hcd S len λA outer s H vs Q E hr hsp=>hbody cdv A outer s H vs Q E hr hsp
def Fun.okFA {x:Str}{st:Stmt}{fd:Ay}{ps:Gh}{k:Nat}{sp:Sp}(F:Fun K x qual st f fd)(S:FnScope N ps (aG st))
    (hbody:∀ (cdv:Gk) (A:Around) (outer:List Env) (s:Gm) (H:Hp) (vs:Gq) (Q:VK) (E:XK),Room k (A.deeper (envOfC qual (aG st) s.heap.objs.size f cdv))->sp vs H Q E ->
      ∃ t,PSs (cxF P w K mg base N qual (aG st) f cdv A outer s H E) (dQ st) t/\t { nx:=λ_ H'=>Q .non H',rt:=Q } (start N vs) H) (len:∀ vs H Q E,sp vs H Q E->vs.length=ps.length:=by intro _ _ _ _ h;first|(cases h;subst_vars;rfl)|(repeat (first|(obtain ⟨rfl,_⟩:=h;rfl)|(obtain ⟨_,h⟩:=h)))):FnOk P w K mg base (CXg P w) (k+1) f fd ps sp:=F.okF S len hbody
end
structure CtK (K:Frag)(D:Gj):Prop where
 ty:typeIn K (.ref D)=some (.type "type")
 ci:(clsIn K D).isSome=true
 sb:subIn K (.ref D) (.type "BaseException")=some true
abbrev bmV:Gi:=[.type "ValueError",.type "Exception",.type "BaseException",.type "object"]
structure ClsObj (h:Heap)(C:Gj)(bmB:Gi)(newId:String):Prop where
 ex:∃ (nm q:Str) (N:Gj) (bs bm:Gi) (hdct:Bool) (sn:Gh) (sub:Gi) (ab:Bool) (col:Option Bool) (dd:Option Gj) (k0 k1 k2 k3 k5:Option Gk) (mN:Gb),
  h.get? C=some (excClassObj nm q C N bs bm hdct sn sub ab col dd k0 k1 k2 k3 k5 newId)/\h.Ns N mN/\mN "__init__" = none/\OwnTail h bmB bm
def excD (a C:Gj)(dd:Option Gj):HO:=.ext λh=>∃ o,ExAt h a o C/\o.dict=dd/\∃ us,o.data=.fields us
def Inv.absent0 {σ:St}(I:Inv X Z σ H s)(hex:X.ex=[])(n:s.heap.get? e=none):X.s₀.heap.get? e=none:=by
 cases q:X.s₀.heap.get? e with
 |none=>rfl
 |some o=>
  obtain ⟨ob,z⟩:=I.base.there e o q (by rw [hex];simp);rw [n] at z;cases z
def tRaise (C:Gj)(E:XK)(t:TA):TS:=λ_ σ H=>t σ H λvs H1=>vs.length<=Av/\E (.ref C) none H1
section
variable {X:Cx}
inductive rIsiY (K:Ab)(xs:Gq)(H:Hp)(Q:VK):Prop
 |mk (a C:Gj) (dd:Option Gj) (c:Gk) (v:V) (b:Bool) (e:xs=[.ref a,v]) (i:H a=some (excD a C dd)) (x:ExK K C) (r:RelV v c) (k:kitOne K (.ref C) c=some b) (h:Q (.bl b) H)
end
abbrev Cx.within (X:Cx)(v:Gk):Cx:={ X with A:=X.A.mark (some v),calm:=false,xe:=λ_ _=>False }
abbrev Cx.trying (X:Cx)(Z:Ge)(E:Ga):Cx:={ X with pn:=X.pn++Z,xe:=E }
section
variable {X:Cx}{Z:Ge}{σ:St}{H H':Hp}{s s':Gm}
def Inv.track (I:Inv X Z σ H s)(hn:H a=none)(h0:X.s₀.heap.get? a=none)(hL:a≠X.env.locals)(hc:∀ x c,X.env.cells.lookup x=some c->c≠a)(hp:∀ p∈X.pn++Z,p.1≠a)(ok:ObjOk X.prog X.w (upd H a u) s.heap a u):Inv X Z σ (upd H a u) s:=by
 have old:∀ b o,X.s₀.heap.get? b=some o->b≠a:=λb o e z=>by rw [z,h0] at e;cases e
 have trk:∀ b o,H b=some o->b≠a:=λb o e=>aW e hn;refine ⟨I.ok,I.os,I.bare,⟨I.base.keep,I.base.slot,λb o e n hx=>?_,I.base.there,λb xs e=>?_,λb o x e=>?_,λb ps e=>?_⟩,I.loc,I.cell,?_,λx c e=>?_,λp q=>?_,λb o e=>?_,I.len⟩
 ·rw [aJ (old b o e)]
  exact I.base.free b o e n hx
 ·have z:=I.base.tups b xs e
  rw [aJ (trk _ _ z)];exact z
 ·have z:=I.base.frzs b o x e
  rw [aJ (trk _ _ z)];exact z
 ·obtain ⟨m,z⟩:=I.base.tbls b ps e
  exact ⟨m,by rw [aJ (trk _ _ z)];exact z⟩
 ·rw [aJ (Bi hL)]
  exact I.free
 ·rw [aJ (hc x c e)]
  exact I.freeC x c e
 ·obtain ⟨a1,a2,a3⟩:=I.pin p q
  exact ⟨a1,by rw [aJ (hp p q)];exact a2,a3⟩
 ·by_cases hb:b=a
  ·subst hb
   rw [aD] at e;cases e;exact ok
  ·rw [aJ hb] at e
   exact (I.hok b o e).stay (λ_ _ _ q=>q) (λc q=>by rw [aJ (trk _ _ q)];exact q) (λc xs q=>by rw [aJ (trk _ _ q)];exact q)
def tTry (K:Frag)(N j:Nat)(Dc:Gj)(tb:XK->TS):TS:=λD σ H=>tb (λcls dd H'=>∃ C,cls=.ref C/\ExK K C/\subIn K (.ref C) (.ref Dc)=some true/\∀ a,H' a=none->D.nx ((Cz N none).set j (some (.ref a))) (upd H' a (excD a C dd))) D σ H
end
def xiIn (K:Frag)(C P f:Gj):Bool:=match K.lookup C with
 |some ⟨.type "type",_,.cls cd,sl⟩=>(match cd.mro,sl.toList with
  |.ref C'::.ref P'::bm,[_,_,_,_,some (.builtin n),_]=>C'==C&&P'==P&&n == "ValueError.__new__" && !cd.hasDel&&cd.hasDict&&tailIn K bmV (.ref P'::bm)&&nsOkIn K cd.ns&&nsIn K cd.ns "__init__" == some (some (.ref f))&&bm==bmV
  |_,_=>false)
 |_=>false
structure ClsI (h:Heap)(C P f:Gj):Prop where
 ex:∃ (nm q:Str) (N:Gj) (bs:Gi) (sn:Gh) (sub:Gi) (ab:Bool) (col:Option Bool) (dd:Option Gj) (k0 k1 k2 k3 k5:Option Gk) (mN:Gb),
  h.get? C=some (excClassObj nm q C N bs (.ref P::bmV) true sn sub ab col dd k0 k1 k2 k3 k5 "ValueError.__new__")/\h.Ns N mN/\mN "__init__" = some (.ref f)/\OwnTail h bmV (.ref P::bmV)
def iQ {K:Frag}{h:Heap}{N:Gj}{x:Str}{v:Gk}(X:K.In h)(hok:nsOkIn K N=true)(e:nsIn K N x=some (some v)):h.nsMap N x=some v:=by
 have G:h.Ns N (h.nsMap N):=.of_isNs (isNs_of_in X hok);obtain ⟨o,es,ep,ho,hd,_,hf⟩:=G;unfold nsIn at e;split at e
 ·rename_i c d es' n' sl q
  have z:=X _ _ q;rw [ho] at z;cases z;cases hd;split at e
  ·rename_i en he
   cases e;rw [<- hf];unfold nsFind findBy;rw [<- Array.find?_toList,he];rfl
  ·split at e<;>cases e
 ·cases e
def mX {K:Frag}{h:Heap}{C P f:Gj}(X:K.In h)(q:xiIn K C P f=true):ClsI h C P f:=by
 unfold xiIn at q;split at q
 case h_2=>cases q
 case h_1 dd cd sl ho=>
  split at q
  case h_2=>cases q
  case h_1 C' P' bm k0 k1 k2 k3 n k5 hm hs=>
   simp only [Cf,beq_iff_eq,Bool.not_eq_true'] at q;obtain ⟨⟨⟨⟨⟨⟨⟨⟨e1,e0⟩,e2⟩,hdel⟩,hdi⟩,ht⟩,hok⟩,hni⟩,e3⟩:=q;cases e1;cases e0;cases e2;cases e3;obtain ⟨nm,bs,mro,ns,qn,hd,sn,sub,ab,col,del⟩:=cd;obtain ⟨sl⟩:=sl;dsimp only at hm hdel hok hni hs hdi;subst hm hdel hs hdi;exact ⟨nm,qn,ns,bs,sn,sub,ab,col,dd,k0,k1,k2,k3,k5,_,X _ _ ho,.of_isNs (isNs_of_in X hok),iQ X hok hni,tail_of_in X ht⟩
section
variable {prog:Aw}{w:World}{A:Around}{E:Ga}{h:Heap}{g:Array GenState}{d:Drawn}{t:Nat}{os:OsState}{K:Frag}{C P f:Gj}
abbrev gZ (h:Heap)(C:Gj)(rest:Gi):Heap:=(h.push { cls:=.type "tuple",data:=.seq rest.toArray }).push { cls:=.ref C,data:=.fields #[.ref h.objs.size,.none,.none,.none,.bool false,.none] }
def mU {rest:Gi}{Q:Fin->Gm->Prop}(X:K.In h)(I:ClsI h C P f)(hf:typeIn K (.ref f)=some (.type "function"))(hrest:rest.length<=Av)
  (hq:Eu (model prog w) A (.call (.ref f) ⟨.ref (h.objs.size+1)::rest,[]⟩) (λr s'=>match r with
   |.ok (.ret v)=>v=.none/\Q (.done (.ret (.ref (h.objs.size+1)))) s'
   |.ok _=>False
   |.error e=>E e s') ⟨gZ h C rest,g,d,t,os⟩) :
  wpAny (model prog w) A (AE.«type.__call__» ⟨.ref C::rest,[]⟩) Q E ⟨h,g,d,t,os⟩:=by
 obtain ⟨nm,q,N,bs,sn,sub,ab,col,dd,k0,k1,k2,k3,k5,mN,hC,hn,hni,T⟩:=I.ex;have F:=PySem.F.excBase_ValueError
 repeat (first|with_reducible refine CO hC ?_|with_reducible refine wpAny_madeBy_exc hC ?_|wp_step)
 refine codeAny_call_builtin_code (EF _ F.quiet) (wpAny_check_new_subU F F.hasB T hC ?_);refine codeAny_exc_new_subU F F.hasB F T hC ?_ hrest;show wpAny _ _ _ _ _ _;have keep:∀ b o,h.get? b=some o->(gZ h C rest).get? b=some o:=λb o e=>Ad _ (Ad _ e);have hC1:=keep _ _ hC;have hn1:(gZ h C rest).Ns N mN:=hn.keeps keep;have hget:(gZ h C rest).get? (h.objs.size+1)=some { cls:=.ref C,data:=.fields #[.ref h.objs.size,.none,.none,.none,.bool false,.none] }:=by unfold gZ;heap_get
 have hcC:(AD C::AD P::bmV).contains (.ref C)=true:=by simp
 have T1:=T.keeps keep;have B1:=bind_fn (M:=model prog w) (X.keeps keep) (.ref (h.objs.size+1)) hf;unfold isInstance
 repeat (first|with_reducible refine CO hget ?_|(with_reducible refine wpAny_isSubtype_exc hC1 ?_;rw [hcC])|wp_step)
 show wpAny _ _ (typeLookup (.ref C) _) _ _ _;refine wpAny_typeLookup_tail hC1 hn1 T1 F.mroIs F.init.lookup ?_;rw [hni];refine BD (Aa (B1.at ?_));refine Aa (Fc (CI hq λr s' z=>?_));cases r with
 |error e=>exact z
 |ok fl=>
  cases fl with
  |ret v=>
   obtain ⟨rfl,z⟩:=z;exact Af (Af z)
  |next=>exact z.elim
  |brk=>exact z.elim
  |cont=>exact z.elim
def aC8 {rest:Gi}(X:K.In h)(I:ClsI h C P f)(hf:typeIn K (.ref f)=some (.type "function"))(hrest:rest.length<=Av)(hq:Eu (model prog w) (A.under (.builtin "type.__call__" ⟨.ref C::rest,[]⟩)) (.call (.ref f) ⟨.ref (h.objs.size+1)::rest,[]⟩) (InitBack (h.objs.size+1) R) ⟨gZ h C rest,g,d,t,os⟩) :
  Eu (model prog w) A (.call (.ref C) ⟨rest,[]⟩) R ⟨h,g,d,t,os⟩:=by
 obtain ⟨nm,q,N,bs,sn,sub,ab,col,dd,k0,k1,k2,k3,k5,mN,hC,hn,hni,T⟩:=id I.ex;have f1:=tc_lookup;have f2:=tc_bind (.ref C);have hT:(⟨h,g,d,t,os⟩:Gm).TypeIs (.ref C) "type":=⟨_,hC,rfl⟩;refine EO ?_;show wpAny _ _ (callAny (.ref C) _) _ _ _
 repeat (any_goals (first|assumption|with_reducible refine CO hC ?_|wp_step))
 refine ⟨rfl,?_⟩;refine codeAny_call_builtin_at (EF _ (by decide +kernel)) entry_typeCall (wpAny_check_type_call_sub hC (mU X I hf hrest (CI hq λr s' z=>?_)));cases r with
 |error e=>exact z
 |ok fl=>
  cases fl with
  |ret v=>exact z
  |next=>exact z.elim
  |brk=>exact z.elim
  |cont=>exact z.elim
end
def exN (a C:Gj)(dd:Option Gj):HO:=.ext λh=>∃ o t,(h.get? a=some o/\o.cls=.ref C/\o.dict=dd)/\o.data=.fields #[t,.none,.none,.none,.bool false,.none]
def rem (H:Hp)(a:Gj):Hp:=λb=>if b=a then none else H b
theorem nQ (h:b≠a):rem H a b=H b:=by unfold rem;rw [if_neg h]
theorem mD :rem H a a=none:=by unfold rem;rw [if_pos rfl]
section
variable {X:Cx}{Z:Ge}{σ:St}{H:Hp}{s:Gm}
def Inv.drop (I:Inv X Z σ H s){φ:Heap->Prop}(ha:H a=some (.ext φ)):Inv X Z σ (rem H a) s:=by
 have nn:∀ b,H b=none->rem H a b=none:=λb h=>by
  by_cases z:b=a
  ·rw [z];exact mD
  ·rw [nQ z];exact h
 have oo:∀ b o,H b=some o->(∀ ψ,o≠.ext ψ)->rem H a b=some o:=λb o h n=>by
  by_cases z:b=a
  ·subst z;rw [h] at ha;cases ha;exact absurd rfl (n φ)
  ·rw [nQ z];exact h
 refine ⟨I.ok,I.os,I.bare,⟨I.base.keep,I.base.slot,λb o e n hx=>nn b (I.base.free b o e n hx),I.base.there,λb xs e=>oo b _ (I.base.tups b xs e) (λ_ z=>by cases z),λb o x e=>oo b _ (I.base.frzs b o x e) (λ_ z=>by cases z),λb ps e=>?_⟩,I.loc,I.cell,nn _ I.free,λx c e=>nn _ (I.freeC x c e),λp hp=>?_,λb o e=>?_,I.len⟩
 ·obtain ⟨m,z⟩:=I.base.tbls b ps e
  exact ⟨m,oo b _ z (λ_ q=>by cases q)⟩
 ·obtain ⟨a1,a2,a3⟩:=I.pin p hp
  exact ⟨a1,nn _ a2,a3⟩
 ·by_cases z:b=a
  ·rw [z,mD] at e;cases e
  ·rw [nQ z] at e
   exact (I.hok b o e).stay (λ_ _ _ q=>q) (λc q=>oo c _ q (λ_ z=>by cases z)) (λc xs q=>oo c _ q (λ_ z=>by cases z))
def Inv.exnew (I:Inv X Z σ H s)(C:Gj)(us:Gi):Inv X Z σ (upd H (s.heap.objs.size+1) (exN (s.heap.objs.size+1) C none)) { s with heap:=gZ s.heap C us }:=by
 refine I.laid (a:=s.heap.objs.size+1) (t':=s.toks) (λb u e=>Ad _ (Ad _ e)) (CU _) ?_;have hget:(gZ s.heap C us).get? (s.heap.objs.size+1)=some { cls:=.ref C,data:=.fields #[.ref s.heap.objs.size,.none,.none,.none,.bool false,.none] }:=by unfold gZ;heap_get
 exact ⟨⟨_,_,⟨hget,rfl,rfl⟩,rfl⟩,⟨_,hget⟩,λh1 h2 ⟨o,t,⟨e1,e2,e3⟩,e4⟩ k=>⟨o,t,⟨k o e1,e2,e3⟩,e4⟩⟩
def uU {M:Model}{A:Around}{E:Ga}{env:Env}{x:Sem Gk}{C:Gj}{K:Frag}{s:Gm}{Q:Flow->Gm->Prop}(hh:A.handled=none)(F:ExK K C)(hk:∃ oC,K.lookup C=some oC/\oC.cls=.type "type")
  (h:wpAny M A x (λv s₁=>K.In s₁.heap/\∃ e ob us,v=.ref e/\s₁.heap.get? e=some ob/\ob.cls=.ref C/\ob.data=.fields us/\us[1]?=some .none/\E (.ref e) s₁) E s):wpAny M A (raiseStmt env (some x) none) Q E s:=by
 unfold raiseStmt;refine Aa (Cy h (λv s₁ h₁=>?_) λ_ _ x=>x);obtain ⟨KX,e,ob,us,rfl,he,hc,hd,h1,hE⟩:=h₁;obtain ⟨hp,g,d,tk,os⟩:=s₁;have L1:=looks_subIn (M:=M) KX F.sb;obtain ⟨⟨cC,dC,tC,sC⟩,hkC,hkc⟩:=hk;have hC:=KX _ _ hkC;dsimp only at hkc;subst hkc;obtain ⟨oc,od,odt,osl⟩:=ob;dsimp only at hc hd;subst hc hd;have h1':=h1
 repeat (first|with_reducible refine CO he ?_|with_reducible refine CO hC ?_|with_reducible refine L1.at ?_|wp_step)
 rw [h1];refine Af ?_;rw [if_neg (by decide)];exact Af (wpAny_raiseNew_none hh hE)
end
def aBi {K:Frag}{C P f:Gj}(q:xiIn K C P f=true):∃ oC,K.lookup C=some oC/\oC.cls=.type "type":=by
 unfold xiIn at q;split at q
 ·rename_i ho
  exact ⟨_,ho,rfl⟩
 ·cases q
structure ExI (K:Frag)(C P f:Gj):Prop where
 xi:xiIn K C P f=true
 fn:typeIn K (.ref f)=some (.type "function")
 kp:keepIn K (.ref C)=true
 k:ExK K C
def aE1 (C:Gj)(sp:Sp)(E:XK)(t:TA):TS:=λ_ σ H=>t σ H λvs H1=>vs.length<=Av/\∀ e,H1 e=none ->
 sp (.ref e::vs) (upd H1 e (exN e C none)) (λv H2=>v=.non/\∃ dd,H2 e=some (exN e C dd)/\E (.ref C) dd (rem H2 e)) E0
section
variable {X:Cx}
def fI {x:Str}{C P f:Gj}{fd:Ay}{ps:Gh}{sp:Sp}{k:Nat}{e₀:Expr}{es:List Expr}{t:TA}{E:XK}{np cpos pos:Pos}(hex:X.ex=[])(hX:XeOk X E)(hc:X.calm=true)(hr:Room (k+1) X.A)(hg:Gl X x)(hm:X.mg x=some (.ref C))(hei:ExI X.K C P f)
  (F:FnOk X.prog X.w X.K X.mg X.base CX0 k f fd ps sp) (hb:Binds X.K fd ps []) (ha:PA X (e₀::es) t)
  (hdb:(x==("__debug__":Str))=false:=by decide) (he:AR (e₀::es) X.env=(false,eval e₀ X.env)::AR es X.env:=by rfl) (hpl:(backTo cpos (AR es X.env)).any (·.1)=false:=by rfl) :
  PS X (.Raise (some (.Call (.Name x np) (e₀::es) [] cpos)) none pos) (aE1 C sp E t):=by
 intro Z s σ H D I h;rw [arm_exec_Raise];refine Aa (Fy (uU (C:=C) (K:=X.K) (I.ok.hd hc) hei.k (aBi hei.xi) ?_));refine Aa (thn (Q:=λv s₁=>X.K.In s₁.heap/\∃ e ob us,v=AD e/\s₁.heap.get? e=some ob/\ob.cls=.ref C/\ob.data=.fields us/\us[1]?=some .none/\X.xe (.ref e) s₁) ?_ λv s1 q=>Aa (Fy (Af q)));refine DY (iG I hg hm ?_ hdb);refine Fo (h₀:=X.base) I.ok.mod.kin hei.kp (thn (ha cpos Z s σ H _ I h) λus s1 ⟨vs,H1,I1,r,hl,q⟩=>⟨I1.kIn,?_⟩) he hpl;have hn:H1 (s1.heap.objs.size+1)=none:=I1.hok.fresh (CU _);have hq:=q (s1.heap.objs.size+1) hn;have I2:=I1.exnew C us;have r2:Vals (V.ref (s1.heap.objs.size+1)::vs) (AD (s1.heap.objs.size+1)::us):=.cons rfl r;have hlen:(AD (s1.heap.objs.size+1)::us++[]).length=ps.length:=by
  have e:=r2.length;rw [F.len _ _ _ _ hq] at e;rw [Cc];exact e.symm
 have n0:X.s₀.heap.get? (s1.heap.objs.size+1)=none:=I1.absent0 hex (Heap.get?_none_of_le (CU _));obtain ⟨hh,g,d,tk,os⟩:=s1;refine Fc (aC8 (f:=f) (P:=P) I1.kIn (mX I1.kIn hei.xi) hei.fn (by show us.length<=Av;rw [<- r.length];exact hl) (CI (F.run _ X.stack _ _ ⟨AD (hh.objs.size+1)::us,[]⟩ (AD (hh.objs.size+1)::us) _ _ E0 (hr.make C us [])
  (I2.env0.make C us []) (by have z:=hb _ (AD (hh.objs.size+1)::us) I2.kIn hlen;rw [Cc] at z;exact z) r2 hq) λr s' hq'=>?_))
 cases r with
 |error e=>exact hq'.elim
 |ok fl=>
  cases fl with
  |ret u=>
   obtain ⟨v,H',I3,rv,ev,dd,hd,hE⟩:=I2.after hq';subst ev;refine ⟨rv,?_⟩;obtain ⟨⟨o,t',⟨o1,o2,o3⟩,o4⟩,_⟩:=I3.hok _ _ hd;exact ⟨I3.kIn,_,o,_,rfl,o1,o2,o4,rfl,hX Z σ _ s' _ C o _ (I3.drop hd) mD n0 o1 o2 o4 rfl (by rw [o3];exact hE)⟩
  |next=>exact hq'.elim
  |brk=>exact hq'.elim
  |cont=>exact hq'.elim
end
end L2
namespace L2
open PySem.W PySem.Builtin PySem.Builtin.ObjectAttr
theorem uT (self:Gk):refuseLoop self "__setattr__" bmV=pure ():=by
 kernel_rfl
section
variable {prog:Aw}{w:World}{A:Around}{E:Ga}{h:Heap}{g:Array GenState}{d:Drawn}{t:Nat}{os:OsState}{K:Frag}{C P f a:Gj}{o:Obj}{name:Str}{v:Gk}
def iM {Q:Unit->Gm->Prop}(X:K.In h)(I:ClsI h C P f)(F:ExK K C)(sa:findIn K (.ref C) "__setattr__" = some (some (.builtin "object.__setattr__")))(nn:findIn K (.ref C) name=some none)(O:ExAt h a o C)
  (hq:∀ A' tk,wpAny (model prog w) A' (storeInOwnDict (.ref a) (.ref C) (.str name tk) name v false) (λfin s'=>∃ u,fin=.done (.ret u)/\Q () s') (λ_ _=>False) ⟨h,g,d,t+1,os⟩) :
  wpAny (model prog w) A (setAttr (.ref a) name v) Q E ⟨h,g,d,t,os⟩:=by
 obtain ⟨nm,q,N,bs,sn,sub,ab,col,dd,k0,k1,k2,k3,k5,mN,hC,hn,hni,T⟩:=I.ex;have SF:=PySem.F.store_object;have L1:=O.type (M:=model prog w);have L2':=looks_findIn (M:=model prog w) X sa;have L3:=looks_findIn (M:=model prog w) X nn;have L4:Looks (model prog w) h (isInstance (.ref a) (.type "object")) true:=L1.andThen (looks_subIn X F.so);refine Aa (wpAny_mkText (Aa (Aa (Aa (L1 _ _ _ _ (λ_ _ e=>e) (L2' _ _ _ _ (λ_ _ e=>e) (BD ?_)))))));rw [SF.slot.bind];refine Aa (Af (Aa (Fc ?_)));refine Et SF.slot.plain SF.entry (@check_slot (model prog w) _ _ _ "object.__setattr__" "object" "__setattr__" (.ref a) [.str name t,v] [] _ SF.kind SF.split L4 (SF.args (.ref a) (.str name t) v) ?_);show wpAny _ _ (AE.«object.__setattr__» ⟨[.ref a,.str name t,v],[]⟩) _ _ _;rw [osa_eq,refuse_eq];refine Aa (Aa (L1.here (Aa (wpAny_mroOf_exc hC ?_))));rw [refuseLoop_ref,refuseLoop_ref,uT];refine Af (Aa (L1.here (Aa (L3.here (Aa (Af ?_))))));refine Cy (hq _ t) (λfin s' z=>?_) λ_ _ z=>z.elim;obtain ⟨u,rfl,z⟩:=z;exact Af (Af z)
def zU {Q:Option Gj->Gm->Prop}(I:ClsI h C P f)(O:ExAt h a o C)(hd:o.dict=none)(hf:o.data=.fields us)(hq:Q (some h.objs.size) ⟨(h.push { cls:=.type "dict",data:=.dict #[] }).update a λob=>{ ob with dict:=some h.objs.size },g,d,t,os⟩):wpAny (model prog w) A (instanceDict a true) Q E ⟨h,g,d,t,os⟩:=by
 obtain ⟨nm,q,N,bs,sn,sub,ab,col,dd,k0,k1,k2,k3,k5,mN,hC,hn,hni,T⟩:=I.ex;have hx:=O.at_;obtain ⟨oc,od,odt,osl⟩:=o;have hc:=O.cls;dsimp only at hd hf hc;subst hd hf hc;have hx1:(h.push { cls:=.type "dict",data:=.dict #[] }).get? a=some ⟨.ref C,none,.fields us,osl⟩:=Ad _ hx;unfold instanceDict
 repeat (first|with_reducible refine CO hx ?_|with_reducible refine CO hC ?_|wp_step)
 exact hq
def zT {Q:Option Gj->Gm->Prop}(I:ClsI h C P f)(O:ExAt h a o C)(hd:o.dict=some dx)(hq:Q (some dx) ⟨h,g,d,t,os⟩)(b:Bool):wpAny (model prog w) A (instanceDict a b) Q E ⟨h,g,d,t,os⟩:=by
 obtain ⟨nm,q,N,bs,sn,sub,ab,col,dd,k0,k1,k2,k3,k5,mN,hC,hn,hni,T⟩:=I.ex;have hx:=O.at_;obtain ⟨oc,od,odt,osl⟩:=o;have hc:=O.cls;dsimp only at hd hc;subst hd hc;unfold instanceDict
 repeat (first|with_reducible refine CO hx ?_|with_reducible refine CO hC ?_|wp_step)
 exact hq
def rR {Q:Fin->Gm->Prop}{tk:Tok}(hn:h.Ns1 dx mA)(hw:Within mA ns)(hz:ns.length<=100)(hq:∀ h' tk',h'.Ns1 dx (λy=>if y=name then some v else mA y)->(∀ b ob,b≠dx->h.get? b=some ob->h'.get? b=some ob)->Q (.done (.ret .none)) ⟨h',g,d,tk',os⟩) :
  wpAny (model prog w) A (storeInDict dx (.str name tk) name v) Q E ⟨h,g,d,t,os⟩:=by
 unfold storeInDict newKeyGuard;refine Aa (Af (Aa (wpAny_nsSet1 hn λh' hn' hs=>?_)));obtain ⟨oD,esD,epD,hoD,hdD,hcD⟩:=hn'.count (Within.cons name v hw);refine Aa (wpAny_lookBehind hoD (by rw [hdD];exact pastItsLine_dict (Bj hcD (by rw [AS,sizeLine_eq];lia))) ?_);exact Af (hq h' _ hn' λb ob nb q=>(hs.2 b nb).trans q)
def qY {Q:Unit->Gm->Prop}(X:K.In h)(I:ClsI h C P f)(F:ExK K C)(sa:findIn K (.ref C) "__setattr__" = some (some (.builtin "object.__setattr__")))(nn:findIn K (.ref C) name=some none)(O:ExAt h a o C)(hd:o.dict=none)(hf:o.data=.fields us)(hq:∀ h' tk,h'.Ns1 h.objs.size (λy=>if y=name then some v else none)->h'.get? a=some { o with dict:=some h.objs.size }->(∀ b ob,b≠a->h.get? b=some ob->h'.get? b=some ob)->Q () ⟨h',g,d,tk,os⟩) :
  wpAny (model prog w) A (setAttr (.ref a) name v) Q E ⟨h,g,d,t,os⟩:=by
 refine iM X I F sa nn O λA' tk=>?_;have hx:=O.at_;have ne:a≠h.objs.size:=Au (Ar hx);have hx1:(h.push { cls:=.type "dict",data:=.dict #[] }).get? a=some o:=Ad _ hx;unfold storeInOwnDict;refine Aa (Af ?_);show wpAny _ _ (ownDictForStores (.ref a) >>= _) _ _ _;refine Aa (zU I O hd hf ?_);have hgd:((h.push { cls:=.type "dict",data:=.dict #[] }).update a λob=>{ ob with dict:=some h.objs.size }).get? h.objs.size=some { cls:=.type "dict",data:=.dict #[] }:=
  (Bh _ _ ne).trans (Heap.get?_push_at rfl rfl)
 have hga:((h.push { cls:=.type "dict",data:=.dict #[] }).update a λob=>{ ob with dict:=some h.objs.size }).get? a=some { o with dict:=some h.objs.size }:=by
  refine Cd _ hx1 ?_;obtain ⟨oc,od,odt,osl⟩:=o;dsimp only at hf;subst hf;rfl
 have hnd:((h.push { cls:=.type "dict",data:=.dict #[] }).update a λob=>{ ob with dict:=some h.objs.size }).Ns h.objs.size (λ_=>none):=⟨_,#[],_,hgd,rfl,λe he=>absurd he (by simp),λ_=>rfl⟩;refine rR (Heap.Ns1.of_empty hnd) (ns:=[]) Within.nil (by decide) λh' tk' hn' hk=>⟨_,rfl,hq h' tk' hn' (hk a _ ne hga) λb ob nb q=>hk b ob (Au (Ar q)) ?_⟩;exact (Bh _ _ (Bi nb)).trans (Ad _ q)
def oO {Q:Unit->Gm->Prop}(X:K.In h)(I:ClsI h C P f)(F:ExK K C)(sa:findIn K (.ref C) "__setattr__" = some (some (.builtin "object.__setattr__")))(nn:findIn K (.ref C) name=some none)(O:ExAt h a o C)(hd:o.dict=some dx)(hn:h.Ns1 dx mA)(hw:Within mA ns)(hz:ns.length<=100)(hq:∀ h' tk,h'.Ns1 dx (λy=>if y=name then some v else mA y)->(∀ b ob,b≠dx->h.get? b=some ob->h'.get? b=some ob)->Q () ⟨h',g,d,tk,os⟩) :
  wpAny (model prog w) A (setAttr (.ref a) name v) Q E ⟨h,g,d,t,os⟩:=by
 refine iM X I F sa nn O λA' tk=>?_;unfold storeInOwnDict;refine Aa (Af ?_);show wpAny _ _ (ownDictForStores (.ref a) >>= _) _ _ _;refine Aa (zT I O hd ?_ true);exact rR hn hw hz λh' tk' hn' hk=>⟨_,rfl,hq h' tk' hn' hk⟩
end
structure ExF (K:Frag)(C P f:Gj)(x:Str):Prop where
 i:ExI K C P f
 sa:findIn K (.ref C) "__setattr__" = some (some (.builtin "object.__setattr__"))
 nn:findIn K (.ref C) x=some none
def xdE (a:Gj)(fs:Gn):HO:=.ext λh=>∃ mA,h.Ns1 a mA/\(∀ g,RelO (fs.lookup g) (mA g))/\Within mA (fs.map (·.1))
def aDh {w:World}{fs:Gn}(n:h.Ns1 a mA)(r:∀ g,RelO (fs.lookup g) (mA g))(wi:Within mA (fs.map (·.1))):ObjOk P w H h a (xdE a fs):=by
 obtain ⟨o,es,ep,e,q⟩:=id n;exact ⟨⟨mA,n,r,wi⟩,⟨o,e⟩,λh1 h2 ⟨m,n1,r1,w1⟩ k=>⟨m,n1.at k,r1,w1⟩⟩
def aEe {w:World}{dd:Option Gj}(e:h.get? a=some o)(c:o.cls=.ref C)(dq:o.dict=dd)(fd:o.data=.fields #[t,.none,.none,.none,.bool false,.none]):ObjOk P w H h a (exN a C dd):=
 ⟨⟨o,t,⟨e,c,dq⟩,fd⟩,⟨o,e⟩,λh1 h2 ⟨o,t,⟨e1,e2,e3⟩,e4⟩ k=>⟨o,t,⟨k o e1,e2,e3⟩,e4⟩⟩
section
variable {X:Cx}{Z:Ge}{σ:St}{H:Hp}{s:Gm}{o e value:Expr}{x:Str}{pos pos':Pos}{ta tv:TE}{C P f:Gj}
def Inv.trackNew (I:Inv X Z σ H s)(I':Inv X Z σ H' s')(hex:X.ex=[])(n:s.heap.get? a=none)(hn:H' a=none)(ok:ObjOk X.prog X.w (upd H' a u) s'.heap a u):Inv X Z σ (upd H' a u) s':=by
 refine I'.track hn (I.absent0 hex n) (λz=>?_) (λy c q z=>?_) (λp q z=>?_) ok
 ·obtain ⟨m,⟨oL,_,_,hoL,_⟩,_⟩:=I.loc
  rw [<- z,n] at hoL;cases hoL
 ·obtain ⟨v,o,ho,_⟩:=I.cell y c q
  rw [z,n] at ho;cases ho
 ·have:=(I.pin p q).1
  rw [z,n] at this;cases this
def sExN (K:Frag)(C P f:Gj)(ta tv:TE)(x:Str):TS:=λD σ H=>tv σ H λy H1=>ta σ H1 λz H2=>∃ a,z=.ref a/\H2 a=some (exN a C none)/\ExF K C P f x /\
 ∀ dx,H2 dx=none->dx≠a->D.nx σ (upd (upd H2 a (exN a C (some dx))) dx (xdE dx [(x,y)]))
def nU (hex:X.ex=[])(ha:PE X o ta)(hv:PE X value tv)(hs:swapsWith value (some (.Attribute o x pos')) pos.line X.env=pure false):PS X (.Assign [.Attribute o x pos'] value pos) (sExN X.K C P f ta tv x):=by
 intro Z s σ H D I h;refine Fd (thn (hv Z s σ H _ I h) λu s1 ⟨y,H1,I1,ry,q⟩=>thn (ha Z s1 σ H1 _ I1 q) λov s2 ⟨z,H2,I2,rx,a,ez,ea,F,q2⟩=>?_) hs;subst ez;obtain rfl:ov=AD a:=rx;obtain ⟨⟨ob,t',⟨o1,o2,o3⟩,o4⟩,_⟩:=I2.hok _ _ ea;have nz:s2.heap.get? s2.heap.objs.size=none:=Heap.get?_none_of_le (Aj _);have Hz:H2 s2.heap.objs.size=none:=I2.hok.fresh (Aj _);have ne:s2.heap.objs.size≠a:=DH (Ar o1);obtain ⟨hh,g,d,tk,os⟩:=s2;refine qY I2.kIn (mX I2.kIn F.i.xi) F.i.k F.sa F.nn ⟨o1,o2⟩ o3 o4 λh' tk' hn' ga ks=>?_;have J1:Inv X Z σ (upd H2 a (exN a C (some hh.objs.size))) ⟨h',g,d,tk',os⟩:=by
  refine I2.write (x:=a) (e:=a) (t':=tk') (by rw [ea];exact DE) (.inl rfl) ks ⟨_,ga⟩ ?_;exact aEe ga o2 rfl o4
 have J2:=I2.trackNew J1 (a:=hh.objs.size) (u:=xdE hh.objs.size [(x,y)]) hex nz (by rw [aJ ne];exact Hz) (aDh hn' (λg=>?_) (λg hg=>?_))
 ·exact ⟨σ,_,J2,q2 _ Hz ne⟩
 ·by_cases z:g=x
  ·subst z
   simp only [DI,beq_self_eq_true,if_true];exact ry
  ·have:([(x,y)]:Gn).lookup g=none:=by
    simp only [DI];rw [beq_eq_false_iff_ne.mpr z]
   rw [this,if_neg z];exact DE
 ·by_cases z:g=x
  ·rw [z];simp
  ·rw [if_neg z] at hg
   exact absurd rfl hg
end
section
variable {prog:Aw}{w:World}{A:Around}{E:Ga}{h:Heap}{g:Array GenState}{d:Drawn}{t:Nat}{os:OsState}{K:Frag}{C P f a:Gj}{o:Obj}{v:Gk}
def vT {Q:Ga}{rest:Gi}(I:ClsI h C P f)(O:ExAt h a o C)(hf:o.data=.fields us)(h0:us[0]?=some a0)(hz:rest.length<=Av)(hq:Q .none ⟨(h.push { cls:=.type "tuple",data:=.seq rest.toArray }).update a (Ee (·.setIfInBounds 0 (.ref h.objs.size))),g,d,t,os⟩) :
  wpAny (model prog w) A (call (.builtin "ValueError.__init__") (.ref a::rest)) Q E ⟨h,g,d,t,os⟩:=by
 obtain ⟨nm,q,N,bs,sn,sub,ab,col,dd,k0,k1,k2,k3,k5,mN,hC,hn,hni,T⟩:=I.ex;have F:=PySem.F.excBase_ValueError;have z0:0<us.size:=(CB.mp h0).1;have g1:=Ad (h:=h) { cls:=.type "tuple",data:=.seq rest.toArray } O.at_;refine Fc (Et F.init.plain F.initEntry (wpAny_check_init_subU F T hC O.at_ O.cls ?_));unfold AE.«BaseException.__init__»;dsimp only;rw [if_neg (by simp)];unfold newTuple AE.BaseException.bexcPut;refine Aa (Be ?_ (by show rest.toArray.size<=Av;rw [An];exact hz));refine Aa (Aa (BG g1 hf h0 (Aa (Fi g1 hf z0 ?_))));split
 ·refine wpAny_letGo ?_
  exact Af hq
 ·exact Af (Af hq)
end
structure BaseI (K:Frag)(P:Gj):Prop where
 rd:readsIn K P (.type "type")=true
 fc:findCls K (.ref P) (.type "type") "__init__" = some (.val (.builtin "ValueError.__init__"))
 ga:specialIn K (.ref P) "__getattribute__" = some (some (.builtin "type.__getattribute__"))
section
variable {X:Cx}{C P f:Gj}{x:Str}{p apos pos:Pos}{e₁ e₂:Expr}{t:TA}
def aDl (K:Frag)(P:Gj)(t:TA):TE:=λσ H Q=>t σ H λvs H1=>∃ a C dd f txt,vs=[.ref a,.str txt]/\H1 a=some (exN a C dd)/\ExI K C P f/\Q .non H1
theorem aHf (h:H a=some o):upd H a o=H:=by
 funext b
 by_cases z:b=a
 ·rw [z,aD,h]
 ·rw [aJ z]
def gU {pl:Sem Bool}(hg:Gl X x)(hm:X.mg x=some (.ref P))(B:BaseI X.K P)(ha:PA X [e₁,e₂] t)(hdb:(x==("__debug__":Str))=false:=by decide)
  (hst:AR [e₁,e₂] X.env=(false,eval e₁ X.env)::AR [e₂] X.env:=by rfl) (hpl:(backTo pos (AR [e₂] X.env)).any (·.1)=false:=by rfl)
  (ht:eval (.Call (.Attribute (.Name x p) "__init__" apos) [e₁,e₂] [] pos) X.env=(do
   let ov <- eval (.Name x p) X.env
   standAt apos.atName
   let (f,first) <- holding [ov] (getMethod ov "__init__" pl)
   callWith pos f first (backTo pos (AR [e₁,e₂] X.env)) (backToKw pos (keywordEach [] X.env))):=by rfl) :
  PE X (.Call (.Attribute (.Name x p) "__init__" apos) [e₁,e₂] [] pos) (aDl X.K P t):=by
 intro Z s σ H Q I h;refine PySem.W.methodCall_KW (pl:=pl) (iG I hg hm ?_ hdb) ht;refine method_cls I.kIn B.ga (cls_value I.kIn B.rd B.fc rfl ?_);have I0:=I.tok (s.toks+1);have hA:=ha pos Z _ σ H _ I0 h;rw [hst] at hA ⊢;refine Di (by show (false||(backTo pos (AR [e₂] X.env)).any (·.1))=false;rw [hpl]<;>rfl) (Ef (thn hA λus s2 ⟨vs,H2,I2,r2,a,C,dd,f,txt,e1,ea,F,q2⟩=>?_));subst e1;obtain ⟨u1,u2,rfl,ra,rt⟩:=r2.two;obtain rfl:u1=AD a:=ra;obtain ⟨⟨ob,t',⟨o1,o2,o3⟩,o4⟩,_⟩:=I2.hok _ _ ea;obtain ⟨hh,g,d,tk,os⟩:=s2;refine vT (mX I2.kIn F.xi) ⟨o1,o2⟩ o4 rfl zLn1 ?_;have g1:=Ad (h:=hh) { cls:=.type "tuple",data:=.seq [u2].toArray } o1;have d1:=EH o4 (·.setIfInBounds 0 (AD hh.objs.size));have g2:=Cd (Ee (·.setIfInBounds 0 (AD hh.objs.size))) g1 (EV d1);have J:Inv X Z σ (upd H2 a (exN a C dd)) ⟨(hh.push { cls:=.type "tuple",data:=.seq [u2].toArray }).update a (Ee (·.setIfInBounds 0 (.ref hh.objs.size))),g,d,tk,os⟩:=by
  refine I2.write (x:=a) (e:=a) (t':=tk) (by rw [ea];exact DE) (.inl rfl) (λb u nb q=>?_) ⟨_,g2⟩ ?_
  ·exact (Bh _ _ (Bi nb)).trans (Ad _ q)
  ·exact aEe g2 ((Obj.cls_mapFields _ _).trans o2) ((aAp _ _).trans o3) d1
 rw [aHf ea] at J;exact ⟨.non,H2,J,rfl,q2⟩
def tExF (K:Frag)(ta:TE)(x:Str):TE:=λσ H Q=>ta σ H λz H1=>∃ a C P f dx fs v,z=.ref a/\H1 a=some (excD a C (some dx))/\H1 dx=some (xdE dx fs)/\ExF K C P f x/\fs.lookup x=some v/\Q v H1
end
end L2
namespace L2
open PySem.W
def FmtV:V->Str->Prop
 |.int i,x=>i.natAbs.log2<1920/\x=(toString i:String)
 |.str y,x=>y.length<=Av/\x=y
 |.non,x=>x = "None"
 |_,_=>False
def tFmt (ta:TE):TE:=λσ H Q=>ta σ H λv H1=>∃ x,FmtV v x/\Q (.str x) H1
abbrev TJ:=Str->St->Hp->(Str->Hp->Prop)->Prop
def PJ (X:Cx)(es:List Expr)(t:TJ):Prop:=
 ∀ (acc:Str) (Z:Ge) (s:Gm) (σ:St) (H:Hp) (Q:Str->Hp->Prop),Inv X Z σ H s->t acc σ H Q->wpAny (model X.prog X.w) X.A (joinParts acc (evalEach es X.env)) (EP X Z σ λv H'=>∃ x,v=.str x/\Q x H') X.xe s
def jNil:TJ:=λacc _ H Q=>acc.length<=Av/\Q acc H
def vF (te:TE)(tr:TJ):TJ:=λacc σ H Q=>te σ H λv H1=>∃ x,v=.str x/\(acc++x).length<=Av/\tr (acc++x) σ H1 Q
def aHp (t:TJ):TE:=λσ H Q=>t Str.empty σ H λx H'=>Q (.str x) H'
section
variable {X:Cx}{value e e':Expr}{es:List Expr}{ta te:TE}{tr t:TJ}{pos:Pos}
def fY (ha:PE X value ta):PE X (.FormattedValue value (-1) none pos) (tFmt ta):=by
 intro Z s σ H Q I h;refine FormattedValue_plain (thn (ha Z s σ H _ I h) λu s1 ⟨v,H1,I1,rv,x,fx,q⟩=>?_);cases v with
 |int i=>
  obtain ⟨t,rfl⟩:=rv;obtain ⟨hl,rfl⟩:=fx;exact formatField_int_small hl ⟨.str _,H1,I1.tok _,⟨_,rfl⟩,q⟩
 |str y=>
  obtain ⟨t,rfl⟩:=rv;obtain ⟨hl,rfl⟩:=fx;exact formatField_str (λt' tk=>⟨.str x,H1,I1.tok _,⟨_,rfl⟩,q⟩) hl
 |non=>
  cases rv;cases fx;exact wpAny_formatField_none ⟨.str _,H1,I1.tok _,⟨_,rfl⟩,q⟩
 |bl _=>exact fx.elim
 |byt _=>exact fx.elim
 |flt _=>exact fx.elim
 |ref _=>exact fx.elim
 |ty _=>exact fx.elim
def nW:PJ X [] jNil:=λacc Z s σ H Q I h=>joinParts_nil ⟨.str acc,H,I.tok _,⟨_,rfl⟩,acc,rfl,h.2⟩ h.1
def bH (he:PE X e te)(hr:PJ X es tr):PJ X (e::es) (vF te tr):=by
 intro acc Z s σ H Q I h;show wpAny _ _ (joinParts acc (eval e X.env::evalEach es X.env)) _ _ _;refine joinParts_cons (thn (he Z s σ H _ I h) λu s1 ⟨v,H1,I1,rv,x,ev,hz,q⟩=>?_);subst ev;obtain ⟨t,rfl⟩:=rv;exact ⟨hz,hr _ Z s1 σ H1 Q I1 q⟩
def kE (h:PJ X (e::e'::es) t):PE X (.JoinedStr (e::e'::es) pos) (aHp t):=by
 intro Z s σ H Q I hw;refine JoinedStr_many (thn (h _ Z s σ H _ I hw) λu s1 ⟨v,H1,I1,rv,x,ev,q⟩=>?_);subst ev;exact ⟨.str x,H1,I1,rv,q⟩
end
def Its (x:Str):It:=⟨λi _=>∃ c,x.cps[i]?=some c,λi H v H'=>H'=H/\∃ c,x.cps[i]?=some c/\v=.str ⟨#[c]⟩,λi _=>x.cps[i]?=none⟩
def aBk {P:Aw}{w:World}{K:Frag}{tg:Expr}(x:Str)(t:Tok)(it:Gj)(b:Bool) :
  Turn P w K tg (Its x) [it] it (λi h=>h.IsStrIter it (if b then "str_ascii_iterator" else "str_iterator") x t i) where
 mem:=by simp
 obj:=λi h st a ha=>by
  have e:a=it:=by simpa using ha
  subst e;obtain ⟨o,e,c,d⟩:=st;exact ⟨o,e,λv z=>by rw [d] at z;cases z⟩
 keep:=λi h h' ⟨o,e,r⟩ k=>⟨o,k it (by simp) o e,r⟩
 item:=by
  intro X hP hw hK hc i Z s σ H E I hf st hg;subst hP hw hK;obtain ⟨c,hx⟩:=hg;obtain ⟨f0,f1,f2,f3,f4,f5⟩:=hf it (by simp);have go:∀ h',h'.IsStrIter it (if b then "str_ascii_iterator" else "str_iterator") x t (i+1)->Cv it s.heap h' ->
    ∃ u,(some (Value.str ⟨#[c]⟩ s.toks))=some u/\wpAny (model X.prog X.w) X.A (FE tg (.ref it) u) (λ_ s2=>∃ v H',Inv X Z σ H' s2/\RelV v u/\(Its x).yld i H v H'/\s2.heap.IsStrIter it (if b then "str_ascii_iterator" else "str_iterator") x t (i+1)/\∀ b∈[it],H' b=none) E { s with heap:=h',toks:=s.toks+1 }:=by
   intro h' st' sb;have I1:Inv X Z σ H { s with heap:=h',toks:=s.toks+1 }:=I.turned (t':=s.toks+1) (λb o hb e=>(sb.2 b hb).trans e) f0 f1 f3 f4 f5;obtain ⟨o,e,cc,d⟩:=id st';exact ⟨_,rfl,vH (s:={ s with heap:=h',toks:=s.toks+1 }) e cc d (by cases b<;>decide) ⟨.str ⟨#[c]⟩,H,I1,⟨_,rfl⟩,⟨rfl,c,hx,rfl⟩,st',λb hb=>(hf b hb).1⟩⟩
  cases b with
  |true=>exact wpAny_pyNext_ascii_item st hx go
  |false=>exact wpAny_pyNext_wide_item st hx go
 done:=by
  intro X hP hw hK hc i Z s σ H E I hf st hg;subst hP hw hK;obtain ⟨f0,f1,f2,f3,f4,f5⟩:=hf it (by simp);cases b with
  |true=>exact wpAny_pyNext_ascii_end (I.ok.hd hc) st hg λh' eb=>⟨rfl,I.turned (t':=s.toks) (λb o hb e=>eb b o hb e) f0 f1 f3 f4 f5⟩
  |false=>exact wpAny_pyNext_wide_end (I.ok.hd hc) st hg λh' eb=>⟨rfl,I.turned (t':=s.toks) (λb o hb e=>eb b o hb e) f0 f1 f3 f4 f5⟩
 self:=λ_ _ _ _ _ st h=>by
  cases b with
  |true=>exact wpAny_pyIter_striter_ascii st h
  |false=>exact wpAny_pyIter_striter_wide st h
def iStr (tl:TE):TI:=λσ H R=>tl σ H λv H1=>∃ x,v=.str x/\R (Its x) H1
section
variable {X:Cx}
def aDz {tg l:Expr}{tl:TE}(hl:PE X l tl):PI X tg l (iStr tl):=by
 intro Z s σ H R I h;refine thn (hl Z s σ H _ I h) λv s1 ⟨y,H1,I1,r1,x,ey,q⟩=>?_;subst ey;obtain ⟨t,rfl⟩:=r1;have fin:∀ b:Bool,PIE X Z σ tg R (.ref s1.heap.objs.size) { s1 with heap:=s1.heap.push { cls:=.type (if b then "str_ascii_iterator" else "str_iterator"),data:=.fields #[.str x t,.int 0 0] } }:=by
  intro b;refine ⟨s1.heap.objs.size,[s1.heap.objs.size],_,_,H1,rfl,I1.kept (t':=s1.toks) λb o e=>Ad _ e,aBk x t _ b,⟨_,Ai _ rfl,rfl,rfl⟩,λb hb=>?_,q⟩;have e:b=s1.heap.objs.size:=by simpa using hb
  subst e;exact I1.fpOk (Aj _) (I1.hok.fresh (Aj _))
 cases ha:x.cps.all (·<128) with
 |true=>exact wpAny_pyIter_ascii ha (fin true)
 |false=>exact wpAny_pyIter_wide ha (fin false)
end
def rPart:V->Gq->Hp->VK->Prop:=λz vs H Q=>∃ x y,z=.str x/\vs=[.str y]/\(y.length==0)=false/\x.length<=Av/\∀ p,H p=none->Q (.ref p) (upd H p (.tup [.str (Txt.partition x y).1,.str (Txt.partition x y).2.1,.str (Txt.partition x y).2.2]))
def rSplit:V->Gq->Hp->VK->Prop:=λz vs H Q=>∃ x y,z=.str x/\vs=[.str y]/\(y.length==0)=false/\x.length+2<=Av/\∀ p,H p=none->Q (.ref p) (upd H p (.lst ((Txt.split x y).map V.str)))
section
variable {X:Cx}
end
section
variable {X:Cx}
def aBl {w:World}{b:Bool}{Q:Bool->Gm->Prop}(h:Q b s):wpAny (model prog w) A (truthy (.bool b)) Q E s:=by
 cases b<;>exact Af h
def range_any {bs:List Bool}:(Bf bs.length).any (λi=>bs.getD i false)=bs.any id:=by
 rw [DV];simp only [List.any_eq_true,CL,id];constructor
 ·rintro ⟨i,hi,h⟩
  exact ⟨bs[i],DP hi,by simpa [List.getD,hi] using h⟩
 ·rintro ⟨b,hb,h⟩
  obtain ⟨i,hi,rfl⟩:=List.getElem_of_mem hb;exact ⟨i,hi,by simpa [List.getD,hi] using h⟩
theorem range_all {bs:List Bool}:(Bf bs.length).all (λi=>bs.getD i false)=bs.all id:=by
 rw [DV];simp only [CT,CL,id];constructor
 ·intro h b hb
  obtain ⟨i,hi,rfl⟩:=List.getElem_of_mem hb
  simpa [List.getD,hi] using h i hi
 ·intro h i hi
  simpa [List.getD,hi] using h bs[i] (DP hi)
def uL {σ:St}(I:Inv X Z σ H s)(hc:X.calm=true){p:Gj}{bs:List Bool}(hq:SqL X.K H p (bs.map V.bl)){E:Ga}{k:(Nat->Bool)->Nat->Bool}{Q:VK}(q:Q (.bl (k (λi=>bs.getD i false) bs.length)) H) :
  wpAny (model X.prog X.w) X.A.in1 (pyIter (.ref p)) (λit s₂=>∃ J fp wr n P St tr,it=.ref J/\Walks X.prog X.w X.A.in1 J fp wr n P St/\St 0 s₂.heap/\TruthOf X.prog X.w X.A.in1 P tr /\
   ∀ h' tk,(∀ b o,b∉wr->s₂.heap.get? b=some o->h'.get? b=some o)->EP X Z σ Q (.bool (k tr n)) { s₂ with heap:=h',toks:=tk }) E s:=by
 obtain ⟨its,rv,pl,hz⟩:=I.list hq;have hl:=rv.length;rw [Ag] at hl;have ne:p≠s.heap.objs.size:=by
  obtain ⟨o,n,e,_⟩:=pl;exact Au (Ar e)
 refine wpAny_pyIter_list pl.isList ?_;have keep:∀ b o,s.heap.get? b=some o->(s.heap.push { cls:=.type "list_iterator",data:=.fields #[.ref p,.int 0 0] }).get? b=some o:=λb o e=>Ad _ e;refine ⟨s.heap.objs.size,_,_,_,_,_,λi=>bs.getD i false,rfl,Walks.list (A:=X.A.in1) (show X.A.in1.handled=none from I.ok.hd hc) s.heap.objs.size p ne its.toArray,⟨⟨_,Ai _ rfl,rfl,rfl⟩,pl.isList.at λo e=>keep p o e⟩,?_,?_⟩
 ·intro i v s' Q' E' hv hQ
  have hv':its[i]?=some v:=by simpa using hv
  have hi:i<bs.length:=by rw [hl];exact (Ac.mp hv').1
  obtain ⟨u,hu,ru⟩:=rv.get (show (bs.map V.bl)[i]?=some (.bl bs[i]) by simp [hi]);rw [hv'] at hu;cases hu;cases ru;have e:bs.getD i false=bs[i]:=by simp [List.getD,hi]
  dsimp only at hQ;rw [e] at hQ;exact aBl hQ
 ·intro h' tk kp
  have J:Inv X Z σ H { s with heap:=h',toks:=tk }:=I.kept (t':=tk) λb o e=>kp b o (by
   have lt:=Ar e;intro z;have z':b=s.heap.objs.size:=by simpa using z
   rw [z'] at lt;exact CN _ lt) (keep b o e)
  have es:its.toArray.size=bs.length:=by rw [An];lia
  rw [es];exact ⟨.bl _,H,J,rfl,q⟩
def oV (hc:X.calm=true):fA X (.builtin "all") (λxs H Q=>∃ p,∃ bs:List Bool,xs=[.ref p]/\SqL X.K H p (bs.map V.bl)/\Q (.bl (bs.all id)) H):=by
 intro Z s σ H xs us Q I r h;obtain ⟨p,bs,rfl,hq,q⟩:=h;obtain ⟨u,rfl,rx⟩:=vals1 r;cases rx;exact call_all_walk (uL I hc hq (k:=λtr n=>(Bf n).all tr) (by rw [range_all];exact q))
end
end L2
namespace TM
open PySem PySem.NumText
def dg (n:Nat):List Nat:=(Nat.toDigits 10 n).map Char.toNat
def aJv {n:Nat}(h:n<10^60):(dg n).length<=60:=by
 unfold dg;rw [Ag];exact PyProof.Rows.digits10_le (by decide) h
structure Fig (cs:List Nat):Prop where
 ne:cs≠[]
 len:cs.length<=60
 all:AllDigits cs
 no:cs.head?=some 48->cs.length=1
def Reads (L:List Nat)(t b:Nat):Prop:=
 (Fig L/\t=digitsVal L/\b=1)\/∃ p q,L=p++47::q/\Fig p/\Fig q/\t=digitsVal p/\b=digitsVal q/\2<=b/\Nat.gcd t b=1
def showL (t b:Nat):List Nat:=if b=1 then dg t else dg t++47::dg b
end TM
namespace TM
open PySem PySem.StrLaws PySem.Builtin PySem.Builtin.Str
abbrev cps (x:Str):List Nat:=x.cps.toList
abbrev sl:Str:=⟨#[47]⟩
def ext (h:cps x=cps y):x=y:=by
 obtain ⟨⟨a⟩⟩:=x;obtain ⟨⟨b⟩⟩:=y;have h':a=b:=h;rw [h']
theorem dR (x y:Str):cps (x++y)=cps x++cps y:=by
 show (x.cps++y.cps).toList=_;rw [Array.toList_append]
end TM
namespace L2
open PySem.W
def rCount:V->Gq->Hp->VK->Prop:=λx vs H Q=>∃ l xs y,x=.ref l/\vs=[y]/\H l=some (.lst xs)/\eC y=true/\xs.all eC=true/\Q (.int ((xs.countP λz=>eqV z y:Nat):Int)) H
def rIndex:V->Gq->Hp->VK->Prop:=λx vs H Q=>∃ l xs y,∃ j:Nat,∃ z,x=.ref l/\vs=[y]/\H l=some (.lst xs)/\eC y=true/\xs.all eC=true/\xs[j]?=some z/\eqV z y=true /\
 (∀ m z,m<j->xs[m]?=some z->eqV z y=false)/\Q (.int (j:Int)) H
section
variable {X:Cx}
end
def Nx (n i:Nat)(P:Prop):Prop:=∃ m',m'<n-i/\m'=n-(i+1)/\i+1<=n/\P
def Nx.mk {n i:Nat}{P:Prop}(h:i<n)(p:P):Nx n i P:=⟨n-(i+1),by lia,rfl,h,p⟩
def oY {σ:St}:BlkN X N' scope cl σ (Cz N'.length none):=by
 refine ⟨by simp,λi x v h1 h2=>?_⟩;rw [List.getElem?_replicate] at h2;split at h2<;>cases h2
def aDd {D:Gj}{x:Str}{g:TG}{tt:TT}{te:TE}{σ0:St}{QD:Hp->Prop}{H1:Hp}(Pv:Nat->Gq->Hp->Prop)(h0:Pv 0 [] (upd H1 D (.lst [])))
  (hl:∀ i ys H,i<=x.cps.toList.length->Pv i ys H->H D=some (.lst ys)/\ys.length<Av)
  (hs:∀ i c ys H,x.cps.toList[i]?=some c->Pv i ys H->g (.str ⟨#[c]⟩) σ0 H λσ2 H2=>Keep σ0 σ2/\tt σ2 H2 λb H3=>if b=true then te σ2 H3 λy H4=>H4 D=some (.lst ys)/\Nx x.cps.toList.length i (Pv (i+1) (ys++[y]) (upd H4 D (.lst (ys++[y])))) else Nx x.cps.toList.length i (Pv (i+1) ys H3))
  (hd:∀ ys H,Pv x.cps.toList.length ys H->QD H) :
  ∃ W:Nat->Nat->Gq->Hp->Prop,(∃ m,W 0 m [] (upd H1 D (.lst []))) /\
   ∀ i m ys H,W i m ys H->H D=some (.lst ys)/\ys.length<Av /\
    (((Its x).stop i H/\QD H)\/((Its x).go i H/\∀ v H',(Its x).yld i H v H'->g v σ0 H' λσ2 H2=>Keep σ0 σ2/\tt σ2 H2 λb H3=>
     if b=true then te σ2 H3 λy H4=>H4 D=some (.lst ys)/\∃ m',m'<m/\W (i+1) m' (ys++[y]) (upd H4 D (.lst (ys++[y]))) else ∃ m',m'<m/\W (i+1) m' ys H3)):=by
 refine ⟨λi m ys H=>m=x.cps.toList.length-i/\i<=x.cps.toList.length/\Pv i ys H,⟨x.cps.toList.length,by simp,BF _,h0⟩,?_⟩
 rintro i m ys H ⟨rfl,hi,p⟩
 obtain ⟨hD,hz⟩:=hl i ys H hi p;refine ⟨hD,hz,?_⟩
 by_cases hlt:i<x.cps.toList.length
 ·have e:x.cps[i]?=some x.cps.toList[i]:=by rw [<- Bl];exact Ae hlt
  refine .inr ⟨⟨_,e⟩,λv H' y=>?_⟩;obtain ⟨rfl,c,hc,rfl⟩:=y;exact hs i c ys _ (by rw [Bl];exact hc) p
 ·have e:i=x.cps.toList.length:=by lia
  subst e;refine .inl ⟨?_,hd ys H p⟩;show x.cps[x.cps.toList.length]?=none;rw [<- Bl];exact Bs (Aj _)
end L2
namespace L2
def dcE (a:Gj):HO:=.ext λh=>∃ o,h.get? a=some o/\o.cls=.type "dict"
def tDict0:TE:=λ_ H Q=>∀ p,H p=none->Q (.ref p) (upd H p (dcE p))
section
variable {X:Cx}{pos:Pos}
def IsiD (K:Ab)(H:Hp)(v:V)(T:String)(b:Bool):Prop:=Isi K H v T b\/∃ a,v=.ref a/\H a=some (dcE a)/\T = "str" /\ b=false
def aA5:fA X (.builtin "isinstance") (λxs H Q=>∃ x T b,xs=[x,.ty T]/\IsiD X.K H x T b/\Q (.bl b) H):=by
 intro Z s σ H xs us Q I r h;obtain ⟨x,T,b,rfl,hi|⟨a,rfl,hH,rfl,rfl⟩,q⟩:=h
 ·exact eX Z s σ H _ us Q I r ⟨x,T,b,rfl,hi,q⟩
 ·obtain ⟨u,w',rfl,rx,ry⟩:=vals2 r
  cases ry;cases rx;obtain ⟨⟨o,e,c⟩,_⟩:=I.hok a _ hH;exact IsiPair.dict_str e c ⟨.bl false,H,I.tok _,rfl,q⟩
end
section
variable {prog:Aw}{w:World}{A:Around}{E:Ga}{s:Gm}
def aE0 {i:Nat}{Q:Ga}(st:s.heap.IsTupleIter it t i)(hl:s.heap.IsTuple t its)(hx:its[i]?=some x)(q:∀ g,g.IsTupleIter it t (i+1)->Cv it s.heap g->Q x { s with heap:=g }):wpAny (model prog w) A (BA (.ref it)) Q E s:=by
 obtain ⟨ob,e1,e2,e3⟩:=id st;obtain ⟨ot,e4,_,m,e5⟩:=hl;unfold BA;refine Aa (BE (name:=Da "__next__") st.typeIs Em (Bw Em st.typeIs F.entry_tuple_iterator_next ?_ (F.args_tuple_iterator_next_1 _)));refine Aa (m:=field (.ref it) 0) (BG e1 e3 (x:=.ref t) rfl ?_);show wpAny _ _ (if (AD t==BN)=true then _ else (field (.ref it) 1 >>= _)) _ _ s;rw [if_neg (show ¬ (AD t==BN)=true from (λz=>nomatch z))];refine Aa (BG e1 e3 (x:=.int i 0) rfl (Aa (m:=seqItems? (.ref t)) (Dl e4 e5 ?_)));simp only [CK,hx];refine Aa (Fi e1 e3 (by simp) (Af ⟨x,rfl,Af (q _ ⟨_,Cd _ e1 (EV (EH e3 _)),(Obj.cls_mapFields ..).trans e2,?_⟩ (EK ..))⟩));rw [EH e3];simp [rawInt]
def aEz {i:Nat}{Q:Ga}(hh:A.handled=none)(st:s.heap.IsTupleIter it t i)(hl:s.heap.IsTuple t its)(hx:its[i]?=none)(q:∀ g e,Heap.ExtBut it s.heap g->(∃ o,g.get? e=some o/\o.cls=.type "StopIteration")->E (.ref e) { s with heap:=g }):wpAny (model prog w) A (BA (.ref it)) Q E s:=by
 obtain ⟨ob,e1,e2,e3⟩:=id st;obtain ⟨ot,e4,_,m,e5⟩:=hl;unfold BA;refine Aa (BE (name:=Da "__next__") st.typeIs Em (Bw Em st.typeIs F.entry_tuple_iterator_next ?_ (F.args_tuple_iterator_next_1 _)));refine Aa (m:=field (.ref it) 0) (BG e1 e3 (x:=.ref t) rfl ?_);show wpAny _ _ (if (AD t==BN)=true then _ else (field (.ref it) 1 >>= _)) _ _ s;rw [if_neg (show ¬ (AD t==BN)=true from (λz=>nomatch z))];refine Aa (BG e1 e3 (x:=.int i 0) rfl (Aa (m:=seqItems? (.ref t)) (Dl e4 e5 ?_)));simp only [CK,hx];refine Aa (DC (Aa (Fi e1 e3 (by simp) (Aa (m:=newExc (.type "StopIteration") []) ?_))));simp only [newExc,newTuple];refine Aa (Be (Aa (m:=firstArgMember _ _) (Cq (a:=BN) (by first|rfl|(simp only [firstArgMember];rfl)) (Be ?_ (by size_fits)))) (by size_fits));simp only [raiseNew];refine Aa (wpAny_handled ?_)
 first|rw [show A.in1.handled=none from hh]|rw [hh]
 exact Aa (Af (wpAny_throw (q _ _ (((EK ..).extBut.push _).push _) ⟨_,Ai _ rfl,rfl⟩)))
def jG (hh:A.handled=none)(it t:Gj)(hne:t≠it)(its:Array Gk) :
  Draws prog w A it [it,t] its.size (λi v=>its[i]?=some v) (λi h=>h.IsTupleIter it t i/\h.IsTuple t its) where
 live:=λ_ _ z=>let ⟨o,e,_⟩:=z.1;⟨o,e⟩
 frame:=λ_ _ _ z k=>⟨z.1.at λo e=>k it (by simp) o e,z.2.at λo e=>k t (by simp) o e⟩
 item:=λi s Q E hi z k=>aE0 z.1 z.2 (x:=its[i]) (by simp [hi]) λg z' sb=>k _ g s.toks (by simp [hi]) ⟨z',z.2.extBut sb.extBut hne⟩ sb
 done:=λs Q E z k=>aEz hh z.1 z.2 (by simp) k
structure Ap (z TI TO i1 i2:Gj)(f1 f2:List Gj):Prop where
 a1:∀ b∈f1,b≠z/\b≠TO/\b≠i2
 a2:∀ b∈f2,b≠z/\b≠TO/\b≠i1
 m1:i1∈f1
 m2:i2∈f2
 tz:TI≠z
 tO:TI≠TO
 t1:TI≠i1
 t2:TI≠i2
 oz:TO≠z
section
variable {z TI TO i1 i2:Gj}{f1 f2:List Gj}{n1 n2 k:Nat}{P1 P2:Nat->Gk->Prop}{S1 S2:Nat->Heap->Prop}{a b:Gk}
def aEx {Q:Ga}(D1:Draws prog w A i1 f1 n1 P1 S1)(D2:Draws prog w A i2 f2 n2 P2 S2)(ap:Ap z TI TO i1 i2 f1 f2)(hz:IsZip s.heap z TI TO .none)(hI:IsPair s.heap TI (.ref i1) (.ref i2))(hO:IsPair s.heap TO a b)
  (h1:S1 k s.heap) (h2:S2 k s.heap) (l1:k<n1) (l2:k<n2)
  (q:∀ x y T g t',P1 k x->P2 k y->T=s.heap.objs.size->IsZip g z TI TO (rawInt T)->IsPair g TO x y->S1 (k+1) g->S2 (k+1) g->IsPair g T x y->(∀ c o,c≠z->c≠TO->c≠i1->c≠i2->s.heap.get? c=some o->g.get? c=some o)->Q (.ref T) { s with heap:=g,toks:=t' }) :
  wpAny (model prog w) A (AE.«zip.__next__» ⟨[.ref z],[]⟩) (λfin s'=>∃ v,fin=.done (.ret v)/\Q v s') E s:=by
 have z1:=ap.a1 i1 ap.m1;have z2:=ap.a2 i2 ap.m2;refine Aa (m:=field (.ref z) 2) (BG hz rfl (x:=.bool false) rfl (Aa (m:=field (.ref z) 3) (BG hz rfl (x:=.ref TI) rfl (Aa (Dl hI rfl (Aa (m:=CM (.ref z)) ?_))))));unfold CM;refine Aa (BG hz rfl (x:=.none) rfl (Af ?_));simp only [if_true];refine Aa (DC (Aa (BG hz rfl (x:=.ref TO) rfl (Aa (CC hz (by simp) λga ca sa=>Aa ?_)))));replace ca:IsZip ga z TI TO .ellipsis:=ca;have ka:∀ c o,c≠z->s.heap.get? c=some o->ga.get? c=some o:=λc o n e=>sa.extBut _ _ n e;simp only [List.zipIdx_cons,List.zipIdx_nil,List.forIn_cons,List.forIn_nil];refine Aa (Aa (wpAny_onRaise (Aa (m:=BA (.ref i1)) (D1.item k _ _ _ l1 (D1.frame _ _ _ h1 λc hc o e=>ka c o (ap.a1 c hc).1 e) λx gb tb px sb cb=>Af ?_))));have kb:∀ c o,c≠z->c≠i1->s.heap.get? c=some o->gb.get? c=some o:=λc o n n' e=>cb.extBut _ _ n' (ka c o n e);have hOb:IsPair gb TO a b:=kb _ _ ap.oz (λe=>z1.2.1 e.symm) hO;refine Aa (Dl hOb rfl (Aa (wpAny_updateSeq_pair hOb λgc hOc cc=>Aa (wpAny_letGo (Af ?_)))));replace hOc:IsPair gc TO x b:=hOc;have kc:∀ c o,c≠z->c≠i1->c≠TO->s.heap.get? c=some o->gc.get? c=some o:=λc o n n' n2 e=>cc.extBut _ _ n2 (kb c o n n' e);have sc1:S1 (k+1) gc:=D1.frame _ _ _ sb λc hc o e=>cc.extBut _ _ (ap.a1 c hc).2.1 e;refine Aa (Aa (wpAny_onRaise (Aa (m:=BA (.ref i2)) (D2.item k _ _ _ l2 (D2.frame _ _ _ h2 λc hc o e=>kc c o (ap.a2 c hc).1 (ap.a2 c hc).2.2 (ap.a2 c hc).2.1 e) λy gd td py sd cd=>Af ?_))));have hOd:IsPair gd TO x b:=cd.extBut _ _ (λe=>z2.2.1 e.symm) hOc;refine Aa (Dl hOd rfl (Aa (wpAny_updateSeq_pair hOd λge hOe ce=>Aa (wpAny_letGo (Af (Af ?_))))));replace hOe:IsPair ge TO x y:=hOe;have ke:∀ c o,c≠z->c≠TO->c≠i1->c≠i2->s.heap.get? c=some o->ge.get? c=some o:=λc o n n1 n2 n3 e=>ce.extBut _ _ n1 (cd.extBut _ _ n3 (kc c o n n2 n1 e));have hze:IsZip ge z TI TO .ellipsis:=ce.extBut _ _ (Bi ap.oz) (cd.extBut _ _ (Bi z2.1) (cc.extBut _ _ (Bi ap.oz) (cb.extBut _ _ (Bi z1.1) ca)));have se1:S1 (k+1) ge:=D1.frame _ _ _ sc1 λc hc o e=>ce.extBut _ _ (ap.a1 c hc).2.1 (cd.extBut _ _ (ap.a1 c hc).2.2 e);have se2:S2 (k+1) ge:=D2.frame _ _ _ sd λc hc o e=>ce.extBut _ _ (ap.a2 c hc).2.1 e;have szs:s.heap.objs.size=ge.objs.size:=by rw [ce.1,cd.1,cc.1,cb.1,sa.1]
 refine Aa (Dl hOe rfl (Aa (wpAny_newTuple (Aa (m:=Fx (.ref z) (.ref ge.objs.size)) ?_))));unfold Fx;have zl:z<ge.objs.size:=Ar hze;refine Aa (CC (show IsZip (ge.push { cls:=.type "tuple",data:=.seq #[x,y] }) z TI TO .ellipsis from Ad _ hze) (by simp) λgf cf sf=>?_);replace cf:IsZip gf z TI TO (rawInt ge.objs.size):=cf;refine CC cf (by simp) λgg cg sg=>Af ⟨_,rfl,?_⟩;replace cg:IsZip gg z TI TO (rawInt ge.objs.size):=cg;have up:∀ c o,c≠z->ge.get? c=some o->gg.get? c=some o:=λc o n e=>sg.extBut _ _ n (sf.extBut _ _ n (Ad _ e));have hT:IsPair gg ge.objs.size x y:=sg.extBut _ _ (DH zl) (sf.extBut _ _ (DH zl) (Ai _ rfl));exact q x y ge.objs.size gg _ px py szs.symm cg (up _ _ ap.oz hOe) (D1.frame _ _ _ se1 λc hc o e=>up c o (ap.a1 c hc).1 e) (D2.frame _ _ _ se2 λc hc o e=>up c o (ap.a2 c hc).1 e) hT λc o n n1 n2 n3 e=>up c o n (ke c o n n1 n2 n3 e)
def aEw {Q:Fin->Gm->Prop}(D1:Draws prog w A i1 f1 n1 P1 S1)(D2:Draws prog w A i2 f2 n2 P2 S2)(ap:Ap z TI TO i1 i2 f1 f2)(hz:IsZip s.heap z TI TO .none)(hI:IsPair s.heap TI (.ref i1) (.ref i2))(hO:IsPair s.heap TO a b)
  (h1:S1 k s.heap) (h2:S2 k s.heap) (hk:k=n1\/(k<n1/\k=n2))
  (q:∀ g e t',(∀ c o,c≠z->c≠TO->c≠i1->c≠i2->s.heap.get? c=some o->g.get? c=some o)->(∃ o,g.get? e=some o/\o.cls=.type "StopIteration")->E (.ref e) { s with heap:=g,toks:=t' }) :
  wpAny (model prog w) A (AE.«zip.__next__» ⟨[.ref z],[]⟩) Q E s:=by
 have z1:=ap.a1 i1 ap.m1;have z2:=ap.a2 i2 ap.m2;refine Aa (m:=field (.ref z) 2) (BG hz rfl (x:=.bool false) rfl (Aa (m:=field (.ref z) 3) (BG hz rfl (x:=.ref TI) rfl (Aa (Dl hI rfl (Aa (m:=CM (.ref z)) ?_))))));unfold CM;refine Aa (BG hz rfl (x:=.none) rfl (Af ?_));simp only [if_true];refine Aa (DC (Aa (BG hz rfl (x:=.ref TO) rfl (Aa (CC hz (by simp) λga ca sa=>Aa ?_)))));replace ca:IsZip ga z TI TO .ellipsis:=ca;have ka:∀ c o,c≠z->s.heap.get? c=some o->ga.get? c=some o:=λc o n e=>sa.extBut _ _ n e;simp only [List.zipIdx_cons,List.zipIdx_nil,List.forIn_cons,List.forIn_nil]
 rcases hk with e|⟨l1,e⟩
 ·subst e
  refine Aa (Aa (wpAny_onRaise (Aa (m:=BA (.ref i1)) (D1.done _ _ _ (D1.frame _ _ _ h1 λc hc o e=>ka c o (ap.a1 c hc).1 e) λgb e cb he=>?_))));obtain ⟨oe,h3,h4⟩:=he;have hzb:IsZip gb z TI TO .ellipsis:=cb _ _ (Bi z1.1) ca;have hez:e≠z:=λx=>by rw [x,hzb] at h3;cases h3;simp at h4
  exact CC hzb (by simp) λgc _ cc=>q gc e s.toks (λc o n _ n2 _ x=>cc.extBut _ _ n (cb _ _ n2 (ka c o n x))) ⟨oe,cc.extBut _ _ hez h3,h4⟩
 ·subst e
  refine Aa (Aa (wpAny_onRaise (Aa (m:=BA (.ref i1)) (D1.item k _ _ _ l1 (D1.frame _ _ _ h1 λc hc o e=>ka c o (ap.a1 c hc).1 e) λx gb tb px sb cb=>Af ?_))));have kb:∀ c o,c≠z->c≠i1->s.heap.get? c=some o->gb.get? c=some o:=λc o n n' e=>cb.extBut _ _ n' (ka c o n e);have hOb:IsPair gb TO a b:=kb _ _ ap.oz (λe=>z1.2.1 e.symm) hO;refine Aa (Dl hOb rfl (Aa (wpAny_updateSeq_pair hOb λgc hOc cc=>Aa (wpAny_letGo (Af ?_)))));have kc:∀ c o,c≠z->c≠i1->c≠TO->s.heap.get? c=some o->gc.get? c=some o:=λc o n n' n2 e=>cc.extBut _ _ n2 (kb c o n n' e);refine Aa (Aa (wpAny_onRaise (Aa (m:=BA (.ref i2)) (D2.done _ _ _ (D2.frame _ _ _ h2 λc hc o e=>kc c o (ap.a2 c hc).1 (ap.a2 c hc).2.2 (ap.a2 c hc).2.1 e) λgd e cd he=>?_))));obtain ⟨oe,h3,h4⟩:=he;have hzd:IsZip gd z TI TO .ellipsis:=cd _ _ (Bi z2.1) (cc.extBut _ _ (Bi ap.oz) (cb.extBut _ _ (Bi z1.1) ca));have hez:e≠z:=λx=>by rw [x,hzd] at h3;cases h3;simp at h4
  exact CC hzd (by simp) λge _ ce=>q ge e tb (λc o n n1 n2 n3 x=>ce.extBut _ _ n (cd _ _ n3 (kc c o n n2 n1 x))) ⟨oe,ce.extBut _ _ hez h3,h4⟩
def aJ4 {Q:Option Gk->Gm->Prop}(D1:Draws prog w A.in1 i1 f1 n1 P1 S1)(D2:Draws prog w A.in1 i2 f2 n2 P2 S2)(ap:Ap z TI TO i1 i2 f1 f2)(hz:IsZip s.heap z TI TO .none)(hI:IsPair s.heap TI (.ref i1) (.ref i2))(hO:IsPair s.heap TO a b)
  (h1:S1 k s.heap) (h2:S2 k s.heap) (l1:k<n1) (l2:k<n2)
  (q:∀ x y T g t',P1 k x->P2 k y->T=s.heap.objs.size->IsZip g z TI TO (rawInt T)->IsPair g TO x y->S1 (k+1) g->S2 (k+1) g->IsPair g T x y->(∀ c o,c≠z->c≠TO->c≠i1->c≠i2->s.heap.get? c=some o->g.get? c=some o)->Q (some (.ref T)) { s with heap:=g,toks:=t' }) :
  wpAny (model prog w) A (pyNext (.ref z)) Q E s:=by
 have ty:s.TypeIs (.ref z) "zip":=⟨_,hz,rfl⟩;unfold pyNext;exact Aa (DQ (BE (name:=Da "__next__") ty F.slot_zip_next (Bw F.slot_zip_next ty F.entry_zip_next (aEx D1 D2 ap hz hI hO h1 h2 l1 l2 λx y T g t' c1 c2 c3 c4 c5 c6 c7 c8 c9=>Af (q x y T g t' c1 c2 c3 c4 c5 c6 c7 c8 c9)) (F.args_zip_next_1 _))))
def vW {Q:Option Gk->Gm->Prop}(D1:Draws prog w A.in1 i1 f1 n1 P1 S1)(D2:Draws prog w A.in1 i2 f2 n2 P2 S2)(ap:Ap z TI TO i1 i2 f1 f2)(hz:IsZip s.heap z TI TO .none)(hI:IsPair s.heap TI (.ref i1) (.ref i2))(hO:IsPair s.heap TO a b)
  (h1:S1 k s.heap) (h2:S2 k s.heap) (hk:k=n1\/(k<n1/\k=n2))
  (q:∀ g t',(∀ c o,c≠z->c≠TO->c≠i1->c≠i2->s.heap.get? c=some o->g.get? c=some o)->Q none { s with heap:=g,toks:=t' }):wpAny (model prog w) A (pyNext (.ref z)) Q E s:=by
 have ty:s.TypeIs (.ref z) "zip":=⟨_,hz,rfl⟩;unfold pyNext;refine Aa (DQ (BE (name:=Da "__next__") ty F.slot_zip_next (Bw F.slot_zip_next ty F.entry_zip_next (aEw D1 D2 ap hz hI hO h1 h2 hk λg e t' kp he=>?_) (F.args_zip_next_1 _))));obtain ⟨o,h3,h4⟩:=he;exact Aa (Fv (T:="StopIteration") (b:=true) ⟨o,h3,h4⟩ isSubtype_stop (Af (q _ _ kp)))
end
end
def Itz (K:Ab)(a b:Gj):It:=
  ⟨λi H=>∃ xs ys,SqT K H a xs/\SqL K H b ys/\i<xs.length/\i<ys.length,
   λi H v H'=>∃ T,H T=none/\v=.ref T/\∀ xs ys,SqT K H a xs->SqL K H b ys->∃ x y,xs[i]?=some x/\ys[i]?=some y/\H'=upd H T (.tup [x,y]),
   λi H=>∃ xs ys,SqT K H a xs/\SqL K H b ys/\(i=xs.length\/(i<xs.length/\i=ys.length))⟩
def Inv.turnedL {X:Cx}{Z:Ge}{σ:St}{H:Hp}{s:Gm}{h':Heap}{t':Nat}{ch:List Gj}(I:Inv X Z σ H s)(k:∀ b o,b∉ch->s.heap.get? b=some o->h'.get? b=some o)(hf:∀ b∈ch,FpOk X Z H b):Inv X Z σ H { s with heap:=h',toks:=t' }:=by
 have nit:∀ b u,H b=some u->b∉ch:=λb u e z=>by rw [(hf b z).1] at e;cases e
 refine I.step (g':=s.gens) (d':=s.drawn) (ch:=ch) (λb hb=>⟨(hf b hb).2.2.2.1,(hf b hb).2.1,(hf b hb).2.2.2.2.1,(hf b hb).2.2.2.2.2⟩) (λb o _ _ hc e _=>k b o hc e) (λb o _ _ hc e _=>⟨o.slots,k b o hc e⟩) (λ_ _ _ _ n=>n)
  (λb o hc e=>⟨o,k b o hc e⟩) (λ_ _ e=>e) (λ_ _ _ e=>e) (λb ps e=>⟨#[],by rw [e];simp⟩) (λm hm=>?_) (λb u e=>?_) I.bare
 ·obtain ⟨o,es,ep,ho,r⟩:=hm
  exact ⟨o,es,ep,k _ o (λz=>(hf _ z).2.1 rfl) ho,r⟩
 ·refine (I.hok b u e).stay (λc v hc q=>k c v ?_ q) (λ_ q=>q) λ_ _ q=>q
  rcases hc with z|z
  ·rw [z];exact nit b u e
  ·exact nit c _ z
def ZipSt (n a b:Nat)(i:Nat)(h:Heap):Prop:=IsZip h (n+4) (n+2) (n+3) .none/\IsPair h (n+2) (.ref n) (.ref (n+1))/\(∃ x y,IsPair h (n+3) x y)/\h.IsTupleIter n a i/\h.IsListIter (n+1) b i
def aEs {n a b:Nat}(ha:a<n)(hb:b<n):Ap (n+4) (n+2) (n+3) n (n+1) [n,a] [n+1,b] where
 a1:=λc hc=>by
  have hc':c=n\/c=a:=by simpa using hc
  rcases hc' with e|e<;>(subst e;exact ⟨by show (_:Nat)≠_;lia,by show (_:Nat)≠_;lia,by show (_:Nat)≠_;lia⟩)
 a2:=λc hc=>by
  have hc':c=n+1\/c=b:=by simpa using hc
  rcases hc' with e|e<;>(subst e;exact ⟨by show (_:Nat)≠_;lia,by show (_:Nat)≠_;lia,by show (_:Nat)≠_;lia⟩)
 m1:=by simp
 m2:=by simp
 tz:=by show (_:Nat)≠_;lia
 tO:=by show (_:Nat)≠_;lia
 t1:=by show (_:Nat)≠_;lia
 t2:=by show (_:Nat)≠_;lia
 oz:=by show (_:Nat)≠_;lia
abbrev zo1 (h:Heap)(a:Gj):Heap:=h.push { cls:=.type "tuple_iterator",data:=.fields #[.ref a,.int 0 0] }
abbrev zo2 (h:Heap)(a b:Gj):Heap:=(zo1 h a).push { cls:=.type "list_iterator",data:=.fields #[.ref b,.int 0 0] }
abbrev zo3 (h:Heap)(a b:Gj):Heap:=(zo2 h a b).push { cls:=.type "tuple",data:=.seq #[.ref h.objs.size,.ref (zo1 h a).objs.size] }
abbrev zo4 (h:Heap)(a b:Gj):Heap:=(zo3 h a b).push { cls:=.type "tuple",data:=.seq #[.none,.none] }
abbrev zo5 (h:Heap)(a b:Gj):Heap:=(zo4 h a b).push { cls:=.type "zip",data:=.fields #[.none,.bool false,.bool false,.ref (zo2 h a b).objs.size,.ref (zo3 h a b).objs.size] }
def iZip (K:Ab)(ta:TA):TI:=λσ H R=>ta σ H λvs H1=>∃ a b,vs=[.ref a,.ref b]/\(∃ xs,SqT K H1 a xs)/\(∃ ys,SqL K H1 b ys)/\R (Itz K a b) H1
def aJ0:Cr "zip" = some (.type "zip"):=by decide +kernel
def aF3 {X:Cx}{K:Ab}(h:X.K=K)(hu:X.A.units+64<cLine):OpR X (BW .NotEq) (rNeI K):=h▸xY hu
section
variable {κ:Type}[DecidableEq κ]
def valV (kvs:List (κ×V))(k:κ):Gr:=(kvs.find? λkv=>decide (kv.1=k)).map (·.2)
def putK (kvs:List (κ×V))(k:κ)(v:V):List (κ×V):=
 if (kvs.any λkv=>decide (kv.1=k))=true then kvs.map (λkv=>if kv.1=k then (kv.1,v) else kv) else kvs++[(k,v)]
def aG5 (kvs:List (κ×V))(k:κ):List (κ×V):=kvs.filter λkv=>decide (kv.1≠k)
theorem dJ {p:κ×V}{r:List (κ×V)}{k:κ}(e:p.1=k):valV (p::r) k=some p.2:=by simp [valV,DT,e]
theorem dM {p:κ×V}{r:List (κ×V)}{k:κ}(e:¬ p.1=k):valV (p::r) k=valV r k:=by simp [valV,DT,e]
theorem eN (k:κ):∀ kvs:List (κ×V),(kvs.any λkv=>decide (kv.1=k))=(valV kvs k).isSome
 |[]=>rfl
 |p::r=>by
  rw [Fm]
  by_cases e:p.1=k
  ·simp only [dJ e,decide_eq_true e,Bool.true_or,Option.isSome_some]
  ·rw [dM e,decide_eq_false e,Bool.false_or];exact eN k r
theorem rL (k j:κ)(y:V):∀ kvs:List (κ×V),valV (kvs.map λkv=>if kv.1=k then (kv.1,y) else kv) j=(valV kvs j).map λx=>if j=k then y else x
 |[]=>rfl
 |p::r=>by
  have ih:=rL k j y r;rw [Ak]
  by_cases h:p.1=k
  ·rw [if_pos h]
   by_cases e:p.1=j
   ·rw [dJ (p:=(p.1,y)) e,dJ e,DD,if_pos (e.symm.trans h)]
   ·rw [dM (p:=(p.1,y)) e,dM e,ih]
  ·rw [if_neg h]
   by_cases e:p.1=j
   ·rw [dJ (p:=p) e,dJ e,DD,if_neg (λz=>h (e.trans z))]
   ·rw [dM (p:=p) e,dM e,ih]
theorem nG (k j:κ)(y:V):∀ kvs:List (κ×V),valV kvs k=none->valV (kvs++[(k,y)]) j=if j=k then some y else valV kvs j
 |[],_=>by
  by_cases e:k=j
  ·rw [if_pos e.symm];exact dJ (p:=(k,y)) e
  ·rw [if_neg (λz=>e z.symm)];exact dM (p:=(k,y)) e
 |p::r,hn=>by
  rw [List.cons_append];have hk:¬ p.1=k:=λz=>by rw [dJ z] at hn;cases hn
  rw [dM hk] at hn;have ih:=nG k j y r hn
  by_cases e:p.1=j
  ·rw [dJ e,dJ e,if_neg (λz=>hk (e.trans z))]
  ·rw [dM e,dM e,ih]
theorem lS (kvs:List (κ×V))(k j:κ)(y:V):valV (putK kvs k y) j=if j=k then some y else valV kvs j:=by
 unfold putK
 by_cases a:(kvs.any λkv=>decide (kv.1=k))=true
 ·rw [if_pos a,rL]
  rw [eN] at a
  by_cases e:j=k
  ·obtain ⟨x,hx⟩:=Option.isSome_iff_exists.mp a
   rw [if_pos e,e,hx,DD,if_pos rfl]
  ·rw [if_neg e]
   cases valV kvs j with
   |none=>rfl
   |some x=>rw [DD,if_neg e]
 ·rw [if_neg a]
  refine nG k j y kvs ?_;rw [eN] at a;cases q:valV kvs k with
  |none=>rfl
  |some x=>rw [q] at a;exact (a rfl).elim
def eU (kvs:List (κ×V))(k:κ)(v:V):(putK kvs k v).length<=kvs.length+1:=by
 unfold putK;split
 ·rw [Ag];lia
 ·rw [As,AS,List.length_nil];lia
theorem RelO.isSome_eq (r:RelO o u):o.isSome=u.isSome:=by
 cases o with
 |none=>cases u with
  |none=>rfl
  |some _=>exact (show False from r).elim
 |some _=>cases u with
  |none=>exact (show False from r).elim
  |some _=>rfl
theorem RelO.getD (r:RelO o u)(rd:RelV d d'):RelV (o.getD d) (u.getD d'):=by
 cases o with
 |none=>cases u with
  |none=>exact rd
  |some _=>exact (show False from r).elim
 |some _=>cases u with
  |none=>exact (show False from r).elim
  |some _=>exact r
theorem KV.val (r:KV kvs vs)(k:κ):RelO (valV kvs k) (valueAt vs k):=by
 unfold KV at r
 induction r with
 |nil=>exact DE
 |@cons p q ps qs h t ih=>
  obtain ⟨h1,h2⟩:=h
  by_cases e:p.1=k
  ·have e':q.1=k:=h1.symm.trans e
   have b:valueAt (q::qs) k=some q.2:=by simp [valueAt,DT,e']
   rw [dJ e,b];exact h2
  ·have e':¬ q.1=k:=λz=>e (h1.trans z)
   have b:valueAt (q::qs) k=valueAt qs k:=by simp [valueAt,DT,e']
   rw [dM e,b];exact ih
theorem KV.any (r:KV kvs vs)(k:κ):(kvs.any λkv=>decide (kv.1=k))=vs.any λkv=>decide (kv.1=k):=by
 unfold KV at r
 induction r with
 |nil=>rfl
 |cons h t ih=>rw [Fm,Fm,ih,h.1]
def KV.repl (r:KV kvs vs)(k:κ)(ry:RelV y u) :
  KV (kvs.map λkv=>if kv.1=k then (kv.1,y) else kv) (vs.map λkv=>if kv.1=k then (kv.1,u) else kv):=by
 unfold KV at r ⊢
 induction r with
 |nil=>exact .nil
 |@cons p q ps qs h t ih=>
  rw [Ak,Ak];refine .cons ?_ ih;obtain ⟨h1,h2⟩:=h
  by_cases e:p.1=k
  ·rw [if_pos e,if_pos (h1.symm.trans e)];exact ⟨h1,ry⟩
  ·rw [if_neg e,if_neg (λz=>e (h1.trans z))];exact ⟨h1,h2⟩
def KV.put (r:KV kvs vs)(k:κ)(ry:RelV y u):KV (putK kvs k y) (stored vs k u):=by
 unfold putK stored;rw [r.any k]
 by_cases e:(vs.any λkv=>decide (kv.1=k))=true
 ·rw [if_pos e,if_pos e];exact r.repl k ry
 ·rw [if_neg e,if_neg e];exact Paired.snoc r ⟨rfl,ry⟩
theorem KV.keys {kvs:List (κ×V)}{vs:List (κ×Gk)}(r:KV kvs vs):kvs.map (·.1)=vs.map (·.1):=by
 unfold KV at r
 induction r with
 |nil=>rfl
 |cons h t ih=>rw [Ak,Ak,ih,h.1]
theorem KV.length (r:KV kvs vs):kvs.length=vs.length:=Paired.length r
end
def qR {w:World}{k:Key}(r:RelV (kV k) u):(bB P w).is k u=true:=by
 cases k with
 |inl i=>obtain ⟨t,e⟩:=(show ∃ t,u=Value.int i t from r);subst e;exact qM P w i t
 |inr x=>obtain ⟨t,e⟩:=(show ∃ t,u=Value.str x t from r);subst e;exact qL P w x t
theorem oJ {w:World}:∀ {ks:List Key} {us:Gi},Vals (ks.map kV) us->ItemsAre (bB P w) ks us
 |[],_,r=>by rw [List.map_nil] at r;cases r;exact .nil
 |k::ks,_,r=>by
  rw [Ak] at r;cases r with
  |cons h t=>exact .cons (qR h) (oJ t)
abbrev KT (H:Hp):List (List Key×V)->List (List Key×Gj×Gk)->Prop:=Paired λp q=>p.1=q.1/\H q.2.1=some (.tup (p.1.map kV))/\RelV p.2 q.2.2
theorem KT.val (r:KT H kvs xs)(k:List Key):RelO (valV kvs k) ((atKey xs k).map (·.2)):=by
 induction r with
 |nil=>exact DE
 |@cons p q ps qs h t ih=>
  obtain ⟨h1,_,h2⟩:=h
  by_cases e:p.1=k
  ·have e':q.1=k:=h1.symm.trans e
   have b:atKey (q::qs) k=some q.2:=by simp [atKey,DT,e']
   rw [dJ e,b];exact h2
  ·have e':¬ q.1=k:=λz=>e (h1.trans z)
   have b:atKey (q::qs) k=atKey qs k:=by simp [atKey,DT,e']
   rw [dM e,b];exact ih
def KT.repl (r:KT H kvs xs)(k:List Key)(ry:RelV y u) :
  KT H (kvs.map λkv=>if kv.1=k then (kv.1,y) else kv) (xs.map (putAt k u)):=by
 induction r with
 |nil=>exact .nil
 |@cons p q ps qs h t ih=>
  rw [Ak,Ak];refine .cons ?_ ih;obtain ⟨h1,h2,h3⟩:=h;unfold putAt
  by_cases e:p.1=k
  ·rw [if_pos e,if_pos (h1.symm.trans e)];exact ⟨h1,h2,ry⟩
  ·rw [if_neg e,if_neg (λz=>e (h1.trans z))];exact ⟨h1,h2,h3⟩
def KT.put (r:KT H kvs xs)(k:List Key)(hb:H b=some (.tup (k.map kV)))(ry:RelV y u) :
  KT H (putK kvs k y) (storedH xs k b u):=by
 have e:(kvs.any λkv=>decide (kv.1=k))=(atKey xs k).isSome:=by
  rw [eN,(r.val k).isSome_eq,Option.isSome_map]
 unfold putK storedH;rw [e]
 by_cases q:(atKey xs k).isSome=true
 ·rw [if_pos q,if_pos q];exact r.repl k ry
 ·rw [if_neg q,if_neg q];exact Paired.snoc r ⟨rfl,hb,ry⟩
def KT.keeps (r:KT H kvs xs)(ht:∀ b ys,H b=some (.tup ys)->H' b=some (.tup ys)):KT H' kvs xs:=
 Paired.mapP r λ_ _ z=>⟨z.1,ht _ _ z.2.1,z.2.2⟩
section
variable {P:Aw}{w:World}{H:Hp}{h:Heap}{a:Gj}
def aIh (ok:HOk P w H h)(e:Rd H a u):ObjOk P w H h a u:=e.ok ok
def vN (ok:HOk P w H h)(e:Rd H a (.dK kvs)):kvs.length<=Av/\(a==DM)=false/\∃ vs,KV kvs vs/\h.DictOf (bB P w) a vs:=
 show ObjOk P w H h a (.dK kvs) from aIh ok e
def vO (ok:HOk P w H h)(e:H a=some (.dK kvs)):kvs.length<=Av/\(a==DM)=false/\∃ vs,KV kvs vs/\h.DictOf (bB P w) a vs:=vN ok (.inl e)
def oG (ok:HOk P w H h)(e:H a=some (.tup (ks.map kV))):(tupleKind (bB P w)).is h ks a:=by
 obtain ⟨_,its,r,o,h1,h2,n,h3⟩:=(show ObjOk P w H h a (.tup (ks.map kV)) from ok a _ e);exact ⟨o,its.toArray,n,h1,h2,h3,by simpa using oJ r⟩
def vM (ok:HOk P w H h)(e:Rd H a (.dT kvs)):kvs.length<=Av/\(a==DM)=false /\
  ∃ xs,KT H kvs xs/\h.DictOfH (tupleKind (bB P w)) a xs:=by
 obtain ⟨z,y,xs,r,o,es,ep,h1,h2,h3,h4,h5⟩:=(show ObjOk P w H h a (.dT kvs) from aIh ok e);refine ⟨z,y,xs,r,o,es,ep,h1,h2,h3,h4,λx hx=>?_,h5⟩;have all:∀ {l:List (List Key×V)} {m:List (List Key×Gj×Gk)},KT H l m->∀ x∈m,(tupleKind (bB P w)).is h x.1 x.2.1:=by
  intro l m q
  induction q with
  |nil=>intro x hx;exact nomatch hx
  |@cons p q ps qs hq t ih=>
   intro x hx
   rcases AB.mp hx with e|hx
   ·subst e
    exact oG ok (by rw [<- hq.1];exact hq.2.1)
   ·exact ih x hx
 exact all r x hx
def aLg (ok:HOk P w H h)(e:H a=some (.dT kvs)):kvs.length<=Av/\(a==DM)=false /\
  ∃ xs,KT H kvs xs/\h.DictOfH (tupleKind (bB P w)) a xs:=vM ok (.inl e)
end
def DGet (H:Hp)(a:Gj)(y:V)(r:Gr):Prop:=
 (∃ kvs k,Rd H a (.dK kvs)/\y=kV k/\r=valV kvs k)\/∃ kvs k b,Rd H a (.dT kvs)/\y=.ref b/\H b=some (.tup (k.map kV))/\r=valV kvs k
def DPut (H:Hp)(a:Gj)(y v:V)(H':Hp):Prop:=
 (∃ kvs k,H a=some (.dK kvs)/\y=kV k/\kvs.length<Av/\H'=upd H a (.dK (putK kvs k v))) \/
 ∃ kvs k b,H a=some (.dT kvs)/\y=.ref b/\H b=some (.tup (k.map kV))/\kvs.length<Av/\H'=upd H a (.dT (putK kvs k v))
theorem DGet.k {k:Key}(e:H a=some (.dK kvs)):DGet H a (kV k) (valV kvs k):=.inl ⟨kvs,k,.inl e,rfl,rfl⟩
theorem DPut.k {k:Key}(e:H a=some (.dK kvs))(hl:kvs.length<Av):DPut H a (kV k) v (upd H a (.dK (putK kvs k v))):=.inl ⟨kvs,k,e,rfl,hl,rfl⟩
section
variable {X:Cx}{Z:Ge}{σ:St}{H:Hp}{s:Gm}{a:Gj}{y v:V}{u r:Gk}{o:Gr}{A:Around}{E:Ga}
def Inv.big (I:Inv X Z σ H s):DM<s.heap.objs.size:=by
 have h:AF<s.heap.objs.size:=(I.mod.glob.keeps I.bk).lt;exact Ey (by decide) h
def aAv {Q:Ga}(hu:A.units+1<cLine)(I:Inv X Z σ H s)(g:DGet H a y (some v))(ry:RelV y u)(h:∀ w' s',Inv X Z σ H s'->RelV v w'->Q w' s') :
  wpAny (model X.prog X.w) A (getItem (.ref a) u) Q E s:=by
 rcases g with ⟨kvs,k,e,ey,l⟩|⟨kvs,k,b,e,ey,eb,l⟩
 ·subst ey
  obtain ⟨z,hd,vs,rel,dd⟩:=vN I.hok e;obtain ⟨w',hw,rw'⟩:=RelO.some_of (v:=v) (o:=valueAt vs k) (by rw [l];exact rel.val k);exact wpAny_getItem_of (qR ry) dd.mapOf hw (h w' _ (I.tok _) rw')
 ·subst ey
  cases (show u=AD b from ry);obtain ⟨z,hd,xs,rel,dd⟩:=vM I.hok e;obtain ⟨w',hw,rw'⟩:=RelO.some_of (v:=v) (o:=(atKey xs k).map (·.2)) (by rw [l];exact rel.val k);obtain ⟨p,hp,hp2⟩:=Bg.mp hw;refine wpAny_getItem_heap (FI hu) (oG I.hok eb) dd hp ?_;rw [hp2];exact h w' _ (I.tok _) rw'
def rA {t':Nat}(I:Inv X Z σ H s)(mu:Mut (H a))(hs:Cv a s.heap h')(he:∃ q,h'.get? a=some q)(new:ObjOk X.prog X.w (upd H a ob) h' a ob) :
  Inv X Z σ (upd H a ob) { s with heap:=h',toks:=t' }:=
 I.write (x:=a) (e:=a) mu (.inl rfl) (λb q hb z=>(hs.2 b hb).trans z) he new
def aEk {w:World}(z:kvs.length<=Av)(hd:(a==DM)=false)(rel:KV kvs vs)(dd:h'.DictOf (bB P w) a vs) :
  ObjOk P w H' h' a (.dK kvs):=⟨z,hd,vs,rel,dd⟩
def aAu {Q:Unit->Gm->Prop}(hu:A.units+1<cLine)(I:Inv X Z σ H s)(g:DPut H a y v H')(ry:RelV y u)(rv:RelV v r)(h:∀ s',Inv X Z σ H' s'->Q () s') :
  wpAny (model X.prog X.w) A (setItem (.ref a) u r) Q E s:=by
 rcases g with ⟨kvs,k,e,ey,l,eH⟩|⟨kvs,k,b,e,ey,eb,l,eH⟩
 ·subst ey eH
  obtain ⟨z,hd,vs,rel,dd⟩:=vO I.hok e;have hz:vs.length<=Av:=by rw [<- rel.length];exact z
  have hl:(putK kvs k v).length<=Av:=by have:=eU kvs k v;lia
  refine wpAny_setItem_pairs (hsz:=hz) (qR ry) dd λh' dd' hs=>h _ ?_;have he:∃ q,h'.get? a=some q:=let ⟨q,_,_,hq,_⟩:=dd';⟨q,hq⟩;exact rA I (by rw [e];exact DE) hs he (aEk hl hd (rel.put k rv) dd')
 ·subst ey eH
  cases (show u=AD b from ry);obtain ⟨z,hd,xs,rel,dd⟩:=aLg I.hok e;have hz:xs.length<=Av:=by rw [<- Paired.length rel];exact z
  have hl:(putK kvs k v).length<=Av:=by have:=eU kvs k v;lia
  refine wpAny_setItem_heap (hsz:=hz) (FI hu) (oG I.hok eb) dd λh' dd' hs=>h _ ?_;obtain ⟨q,es,ep,hq,h2,h3,h4,_,h5⟩:=dd';refine rA I (by rw [e];exact DE) hs ⟨q,hq⟩ ⟨hl,hd,_,(rel.put k eb rv).keeps λc ys ec=>?_,q,es,ep,hq,h2,h3,h4,h5⟩;rw [aJ (aK4 ec e (λz=>nomatch z))];exact ec
end
section
variable {X:Cx}{Z:Ge}{σ:St}{H:Hp}{s:Gm}{a:Gj}{kvs:Gp}{k:Key}{u:Gk}{A:Around}{E:Ga}
end
def NoSl (i:Expr):Prop:=∀ ov iv,subscripted i false ov iv=operate [ov,iv] (getItem ov iv)
def aE4 {prog:Aw}{w:World}{A:Around}{E:Ga}{s:Gm}{env:Env}{value slice:Expr}{pos:Pos}{T id:String}{Q:Ga}
  (hl:typeLookup (.type T) "__getitem__" = pure (some (.builtin id))) (hs:NoSl slice)
  (h:wpAny (model prog w) A (eval value env) (λo s₁=>wpAny (model prog w) A (eval slice env) (λi s₂=>s₂.TypeIs o T/\wpAny (model prog w) A (getItem o i) Q E s₂) E s₁) E s) :
  wpAny (model prog w) A (eval (.Subscript value slice pos) env) Q E s:=by
 refine Subscript_ (Cy h (λo s₁ h₁=>Cy h₁ (λi s₂ h₂=>?_) λ_ _ x=>x) λ_ _ x=>x);obtain ⟨hT,h₂⟩:=h₂;unfold subscriptTail;refine Aa ?_;rw [getitemInPython_of_ne hT.not_modules];refine Aa (wpAny_specialOf hT hl ?_);have fin:wpAny (model prog w) A (subscripted slice false o i) (λr s₃=>wpAny (model prog w) A (letTemporaryGo value o r >>= λ_=>pure r) Q E s₃) E s₂:=by
  rw [hs o i];exact wpAny_operating (Cy h₂ (λr s₃ h₃=>Aa (wpAny_letTemporaryGo (Af h₃))) λ_ _ x=>x)
 first
  |exact Af (Aa fin)
  |exact Aa (Af (Aa fin))
  |exact Aa fin
def qZ {σ:St}(I:Inv X Z σ H s)(g:DGet H a y o):s.TypeIs (.ref a) "dict":=by
 rcases g with ⟨kvs,k,e,_,_⟩|⟨kvs,k,b,e,_,_,_⟩
 ·obtain ⟨_,_,vs,_,dd⟩:=vN I.hok e
  exact dd.typeIs
 ·obtain ⟨_,_,xs,_,dd⟩:=vM I.hok e
  exact dd.typeIs
inductive RDGet (Q:VK)(x y:V)(H:Hp):Prop
 |mk (a:Gj) (v:V) (e:x=.ref a) (g:DGet H a y (some v)) (h:Q v H)
def aKg (td ty:TE):TE:=λσ H Q=>td σ H λx H1=>ty σ H1 λy H2=>RDGet Q x y H2
def tDIn (ty td:TE):TE:=λσ H Q=>ty σ H λy H1=>td σ H1 λx H2=>∃ a o,x=.ref a/\DGet H2 a y o/\Q (.bl o.isSome) H2
def tDNotIn (ty td:TE):TE:=λσ H Q=>ty σ H λy H1=>td σ H1 λx H2=>∃ a o,x=.ref a/\DGet H2 a y o/\Q (.bl (!o.isSome)) H2
inductive RDPut (N:Hp->Prop)(x y v:V)(H:Hp):Prop
 |mk (a:Gj) (H4:Hp) (e:x=.ref a) (g:DPut H a y v H4) (h:N H4)
def aKo (td ty tv:TE):TS:=λD σ H=>tv σ H λv H1=>td σ H1 λx H2=>ty σ H2 λy H3=>RDPut (D.nx σ) x y v H3
def sDAug (td ty tv:TE)(rd:V->V->Hp->VK->Prop):TS:=λD σ H=>td σ H λx H1=>ty σ H1 λy H2=>∃ a v,x=.ref a/\DGet H2 a y (some v) /\
 tv σ H2 λy2 H3=>rd v y2 H3 λz H4=>∃ H5,DPut H4 a y z H5/\D.nx σ H5
def sDDel (td ty:TE):TS:=λD σ H=>td σ H λx H1=>ty σ H1 λy H2=>∃ a kvs k,x=.ref a/\H2 a=some (.dK kvs)/\y=kV k/\(valV kvs k).isSome=true/\D.nx σ (upd H2 a (.dK (aG5 kvs k)))
section
variable {X:Cx}{o i e value:Expr}{pos pos' tpos:Pos}{td ty tv:TE}
def kH (hu:X.A.units+1<cLine)(ho:PE X o td)(hi:PE X i ty)(hs:NoSl i):PE X (.Subscript o i pos) (aKg td ty):=by
 intro Z s σ H Q I h;refine aE4 PySem.F.slot_dict_getitem.lookup hs (thn (ho Z s σ H _ I h) λu s1 ⟨x,H1,I1,rx,q1⟩=>thn (hi Z s1 σ H1 _ I1 q1) λiv s2 ⟨y,H2,I2,ry,a,v,ex,g,q2⟩=>?_);subst ex;obtain rfl:u=AD a:=rx;exact ⟨qZ I2 g,aAv hu I2 g ry λw' s3 I3 rw'=>⟨v,H2,I3,rw',q2⟩⟩
def mF (hu:X.A.units+1<cLine)(ho:PE X o td)(hi:PE X i ty)(hv:PE X value tv)(hs:swapsWith value (some (.Subscript o i pos')) pos.line X.env=pure false) :
  PS X (.Assign [.Subscript o i pos'] value pos) (aKo td ty tv):=by
 intro Z s σ H D I h;refine wpAny_Assign_Subscript (thn (hv Z s σ H _ I h) λr s1 ⟨v,H1,I1,rv,q1⟩=>thn (ho Z s1 σ H1 _ I1 q1) λu s2 ⟨x,H2,I2,rx,q2⟩=>thn (hi Z s2 σ H2 _ I2 q2) λiv s3 ⟨y,H3,I3,ry,a,H4,ex,g,q3⟩=>?_) hs;subst ex;obtain rfl:u=AD a:=rx;exact aAu hu I3 g ry rv λs4 I4=>⟨σ,H4,I4,q3⟩
end
def uB {w:World}(h:Heap)(hb:DM<h.objs.size):ObjOk P w H (h.push { cls:=.type "dict",data:=.dict #[] }) h.objs.size (.dK []):=
 ⟨BF _,beq_eq_false_iff_ne.mpr (Bi (Au hb)),[],.nil,Heap.DictOf.new h⟩
def aHs:TE:=λ_ H Q=>∀ p,H p=none->Q (.ref p) (upd H p (.dK []))
def tDNewT:TE:=λ_ H Q=>∀ p,H p=none->Q (.ref p) (upd H p (.dT []))
section
variable {X:Cx}{pos:Pos}
def mG:PE X (.Dict [] [] pos) aHs:=λZ s σ H Q I h=>
 wpAny_Dict_empty ⟨.ref s.heap.objs.size,_,I.laid (a:=s.heap.objs.size) (o:=.dK []) (t':=s.toks) (λ_ _ q=>Ad _ q) (Aj _) (uB s.heap I.big),rfl,h _ (I.hok.fresh (Aj _))⟩
end
def wF:List (TE×TE)->St->Hp->(List (V×V)->Hp->Prop)->Prop
  |[],_,H,Q=>Q [] H
  |(tk,tv)::r,σ,H,Q=>tk σ H λx H1=>tv σ H1 λy H2=>wF r σ H2 λps H3=>Q ((x,y)::ps) H3
abbrev VV:List (V×V)->List (Gk×Gk)->Prop:=Paired λp q=>RelV p.1 q.1/\RelV p.2 q.2
def PPs (X:Cx)(pos:Pos)(keys:List (Option Expr))(values:List Expr)(trs:List (TE×TE)):Prop:=
 ∀ (Z:Ge) (s:Gm) (σ:St) (H:Hp) (Q:List (V×V)->Hp->Prop),Inv X Z σ H s->wF trs σ H Q ->
  wpAny (model X.prog X.w) X.A (evalPairs (pairTrees keys values X.env pos)) (λvs s'=>∃ ps H',Inv X Z σ H' s'/\VV ps vs/\Q ps H') X.xe s
def xM :PPs X pos [] [] []:=λZ s σ H Q I h=>pairTrees_nil_walk ⟨[],H,I,.nil,h⟩
def sM {k v:Expr}{tk tv:TE}(hk:PE X k tk)(hv:PE X v tv)(hr:PPs X pos ks vs trs) :
  PPs X pos (some k::ks) (v::vs) ((tk,tv)::trs):=λZ s σ H Q I h=>
 pairTrees_cons_walk (thn (hk Z s σ H _ I h) λu s1 ⟨x,H1,I1,rx,q1⟩=>thn (hv Z s1 σ H1 _ I1 q1) λw2 s2 ⟨y,H2,I2,ry,q2⟩=>
  thn (hr Z s2 σ H2 _ I2 q2) λws s3 ⟨ps,H3,I3,rel,q3⟩=>⟨(x,y)::ps,H3,I3,.cons ⟨rx,ry⟩ rel,q3⟩)
def lI (kvs more:Gp):Gp:=more.foldl (λacc kv=>putK acc kv.1 kv.2) kvs
def KV.merge:∀ {more:Gp} {rs:List (Key×Gk)} {kvs:Gp} {vs:List (Key×Gk)},KV more rs->KV kvs vs->KV (lI kvs more) (merged vs rs):=by
 intro more rs kvs vs r;unfold KV at r
 induction r generalizing kvs vs with
 |nil=>intro q;exact q
 |@cons p q ps qs h t ih=>
  intro r0;have e:KV (putK kvs p.1 p.2) (stored vs q.1 q.2):=by
   have:=r0.put p.1 h.2;rw [<- h.1];exact this
  exact ih e
theorem gX:∀ (more kvs:Gp),(lI kvs more).length<=kvs.length+more.length
 |[],kvs=>by show kvs.length<=kvs.length+0;lia
 |p::r,kvs=>by
  have h1:=gX r (putK kvs p.1 p.2);have h2:=eU kvs p.1 p.2;show (lI (putK kvs p.1 p.2) r).length<=_;rw [AS];lia
theorem lN {w:World}:∀ {kvs:Gp} {ws:List (Gk×Gk)},VV (kvs.map λkv=>(kV kv.1,kv.2)) ws->∃ rs,Carries (bB P w) ws rs/\KV kvs rs
 |[],_,r=>by rw [List.map_nil] at r;cases r;exact ⟨[],DE,.nil⟩
 |p::kvs,_,r=>by
  rw [Ak] at r;cases r with
  |@cons a b as bs h t=>
   obtain ⟨rs,c,q⟩:=lN (P:=P) (w:=w) t;obtain ⟨b1,b2⟩:=b;exact ⟨(p.1,b2)::rs,⟨qR h.1,rfl,c⟩,.cons ⟨rfl,h.2⟩ q⟩
def aKf (trs:List (TE×TE)):TE:=λσ H Q=>∀ p,H p=none->wF trs σ (upd H p (.dK [])) λps H2=>H2 p=some (.dK [])/\∃ kvs:Gp,ps=kvs.map (λkv=>(kV kv.1,kv.2))/\kvs.length<=15/\Q (.ref p) (upd H2 p (.dK (lI [] kvs)))
def xS {keys:List (Option Expr)}(h:PPs X pos keys values trs)(hall:keys.all (·.isSome)=true)(hl:keys.length=values.length)(h0:keys≠[])(h15:keys.length<=15):PE X (.Dict keys values pos) (aKf trs):=by
 intro Z s σ H Q I q;have hn:=I.hok.fresh (Aj s.heap.objs.size);have I1:=I.laid (a:=s.heap.objs.size) (o:=.dK []) (h':=s.heap.push { cls:=.type "dict",data:=.dict #[] }) (t':=s.toks) (λ_ _ q=>Ad _ q) (Aj _) (uB s.heap I.big);refine wpAny_Dict_walk (knd:=bB X.prog X.w) hall hl h0 h15 (thn (h Z _ σ _ _ I1 (q _ hn)) λws s2 ⟨ps,H2,I2,rel,e,kvs,ep,lk,q2⟩=>?_);subst ep;obtain ⟨rs,c,rk⟩:=lN (P:=X.prog) (w:=X.w) rel;obtain ⟨z,hd,vs0,r0,dd⟩:=vO I2.hok e;cases r0;refine ⟨rs,c,dd,λh' dd' hs=>⟨.ref s.heap.objs.size,_,?_,rfl,q2⟩⟩;have hz:(lI [] kvs).length<=Av:=by
  have h1:=gX kvs [];rw [List.length_nil] at h1;rw [sizeLine_eq];lia
 have he:∃ q,h'.get? s.heap.objs.size=some q:=let ⟨q,_,_,hq,_⟩:=dd';⟨q,hq⟩;exact rA I2 (by rw [e];exact DE) hs he (aEk hz hd (rk.merge .nil) dd')
structure M1 (X:Cx)(o:Expr)(m:Str)(apos:Pos)(e:Expr)(cpos:Pos):Prop where
 base:ER o m X.env (eval o X.env)=eval o X.env
 few:((backTo cpos (AR [e] X.env)).all (λx=>!x.1)&&(backToKw cpos (keywordEach [] X.env)).all (λx=>x.1.isSome)
  && decide (([e]:List Expr).length+([]:List Keyword).length+(if ([]:List Keyword).isEmpty then 0 else 1)<30))=true
 line:(apos.endLine==cpos.line)=true
 trees:backTo cpos (AR [e] X.env)=[(false,eval e X.env)]
structure M2 (X:Cx)(o:Expr)(m:Str)(apos:Pos)(e f:Expr)(cpos:Pos):Prop where
 base:ER o m X.env (eval o X.env)=eval o X.env
 few:((backTo cpos (AR [e,f] X.env)).all (λx=>!x.1)&&(backToKw cpos (keywordEach [] X.env)).all (λx=>x.1.isSome)
  && decide (([e,f]:List Expr).length+([]:List Keyword).length+(if ([]:List Keyword).isEmpty then 0 else 1)<30))=true
 line:(apos.endLine==cpos.line)=true
 trees:backTo cpos (AR [e,f] X.env)=[(false,eval e X.env),(false,eval f X.env)]
def IsD (H:Hp)(a:Gj):Prop:=(∃ kvs,Rd H a (.dK kvs))\/∃ kvs,Rd H a (.dT kvs)
def zP {σ:St}(I:Inv X Z σ H s)(d:IsD H a) :
  s.TypeIs (.ref a) "dict" /\ (∀ b,AD a=.ref b->∃ ob,s.heap.get? b=some ob/\ob.dict=none)/\(a==DM)=false:=by
 rcases d with ⟨kvs,e⟩|⟨kvs,e⟩
 ·obtain ⟨_,hd,vs,_,dd⟩:=vN I.hok e
  refine ⟨dd.typeIs,λb q=>?_,hd⟩;cases q;obtain ⟨ob,_,_,h1,h2,_⟩:=dd;exact ⟨ob,h1,h2.2.1⟩
 ·obtain ⟨_,hd,xs,_,dd⟩:=vM I.hok e
  refine ⟨dd.typeIs,λb q=>?_,hd⟩;cases q;obtain ⟨ob,_,_,h1,h2,_⟩:=dd;exact ⟨ob,h1,h2.2.1⟩
section
variable {X:Cx}{Z:Ge}{σ:St}{H:Hp}{s:Gm}{a:Gj}{y d:V}{u r:Gk}{o:Gr}{A:Around}{E:Ga}
def aJy {Q:Ga}(hu:A.units+1<cLine)(I:Inv X Z σ H s)(g:DGet H a y o)(ry:RelV y u)(h:∀ w' s',Inv X Z σ H s'->RelV (o.getD .non) w'->Q w' s') :
  wpAny (model X.prog X.w) A (call (.builtin "dict.get") [.ref a,u]) Q E s:=by
 rcases g with ⟨kvs,k,e,ey,l⟩|⟨kvs,k,b,e,ey,eb,l⟩
 ·subst ey
  obtain ⟨z,hd,vs,rel,dd⟩:=vN I.hok e;refine call_meetsIn Ct dd.typeIs DO (FG _ _) (meets_dict_get (bB X.prog X.w) a (qR ry) hd) ⟨_,dd.mapOf,h _ _ (I.tok _) ?_⟩;rw [l];exact (rel.val k).getD rfl
 ·subst ey
  cases (show u=AD b from ry);obtain ⟨z,hd,xs,rel,dd⟩:=vM I.hok e;refine call_meetsIn Ct dd.typeIs DO (FG _ _) (meetsH_dict_get (tupleKind (bB X.prog X.w)) a b hd) ⟨FI hu,k,xs,oG I.hok eb,dd,h _ _ (I.tok _) ?_⟩;rw [l];exact (rel.val k).getD rfl
def aJx {Q:Ga}(hu:A.units+1<cLine)(I:Inv X Z σ H s)(g:DGet H a y o)(ry:RelV y u)(rd:RelV d r)(h:∀ w' s',Inv X Z σ H s'->RelV (o.getD d) w'->Q w' s') :
  wpAny (model X.prog X.w) A (call (.builtin "dict.get") [.ref a,u,r]) Q E s:=by
 rcases g with ⟨kvs,k,e,ey,l⟩|⟨kvs,k,b,e,ey,eb,l⟩
 ·subst ey
  obtain ⟨z,hd,vs,rel,dd⟩:=vN I.hok e;refine call_meetsIn Ct dd.typeIs DO (PySem.F.args_dict_get_3 _ _ _) (meets_dict_get_default (bB X.prog X.w) a (qR ry) hd r) ⟨_,dd.mapOf,h _ _ (I.tok _) ?_⟩;rw [l];exact (rel.val k).getD rd
 ·subst ey
  cases (show u=AD b from ry);obtain ⟨z,hd,xs,rel,dd⟩:=vM I.hok e;refine call_meetsIn Ct dd.typeIs DO (PySem.F.args_dict_get_3 _ _ _) (meetsH_dict_get_default (tupleKind (bB X.prog X.w)) a b hd r) ⟨FI hu,k,xs,oG I.hok eb,dd,h _ _ (I.tok _) ?_⟩;rw [l];exact (rel.val k).getD rd
end
def aHu (td ty:TE):TE:=λσ H Q=>td σ H λx H1=>∃ a,x=.ref a/\IsD H1 a/\ty σ H1 λy H2=>∃ o,DGet H2 a y o/\Q (o.getD .non) H2
def aHt (td ty tx:TE):TE:=λσ H Q=>td σ H λx H1=>∃ a,x=.ref a/\IsD H1 a/\ty σ H1 λy H2=>tx σ H2 λz H3=>∃ o,DGet H3 a y o/\Q (o.getD z) H3
def tDPop1 (td ty:TE):TE:=λσ H Q=>td σ H λx H1=>∃ a,x=.ref a/\IsD H1 a/\ty σ H1 λy H2=>∃ kvs k v,H2 a=some (.dK kvs)/\y=kV k/\valV kvs k=some v/\Q v (upd H2 a (.dK (aG5 kvs k)))
def tDPop2 (td ty tx:TE):TE:=λσ H Q=>td σ H λx H1=>∃ a,x=.ref a/\IsD H1 a/\ty σ H1 λy H2=>tx σ H2 λz H3=>∃ kvs k,H3 a=some (.dK kvs)/\y=kV k /\
 (∀ v,valV kvs k=some v->Q v (upd H3 a (.dK (aG5 kvs k))))/\(valV kvs k=none->Q z H3)
section
variable {X:Cx}{o e f:Expr}{apos cpos:Pos}{td ty tx:TE}
def aCa (hu:X.A.units+1<cLine)(ho:PE X o td)(he:PE X e ty)(m:M1 X o "get" apos e cpos):PE X (.Call (.Attribute o "get" apos) [e] [] cpos) (aHu td ty):=by
 intro Z s σ H Q I h;refine wpAny_Call_method m.base m.few m.line Ew Ct PySem.F.type_dict_get (thn (ho Z s σ H _ I h) λu s1 ⟨x,H1,I1,rx,a,ex,d,q1⟩=>?_);subst ex;obtain rfl:u=AD a:=rx;obtain ⟨t1,t2,_⟩:=zP I1 d;refine ⟨t1,t2,?_⟩;rw [m.trees];refine Di rfl (Ef (Ds (thn (he Z s1 σ H1 _ I1 q1) λiv s2 ⟨y,H2,I2,ry,ov,g,q2⟩=>DW ?_)));exact aJy hu I2 g ry λw' s3 I3 rw'=>⟨_,H2,I3,rw',q2⟩
def sQ (hu:X.A.units+1<cLine)(ho:PE X o td)(he:PE X e ty)(hf:PE X f tx)(m:M2 X o "get" apos e f cpos):PE X (.Call (.Attribute o "get" apos) [e,f] [] cpos) (aHt td ty tx):=by
 intro Z s σ H Q I h;refine wpAny_Call_method m.base m.few m.line Ew Ct PySem.F.type_dict_get (thn (ho Z s σ H _ I h) λu s1 ⟨x,H1,I1,rx,a,ex,d,q1⟩=>?_);subst ex;obtain rfl:u=AD a:=rx;obtain ⟨t1,t2,_⟩:=zP I1 d;refine ⟨t1,t2,?_⟩;rw [m.trees];refine Di rfl (Ef (Ds (thn (he Z s1 σ H1 _ I1 q1) λiv s2 ⟨y,H2,I2,ry,q2⟩=>
  Ds (thn (hf Z s2 σ H2 _ I2 q2) λfv s3 ⟨z,H3,I3,rz,ov,g,q3⟩=>DW ?_))))
 exact aJx hu I3 g ry rz λw' s4 I4 rw'=>⟨_,H3,I4,rw',q3⟩
end
section
variable {X:Cx}{Z:Ge}{σ:St}{H:Hp}{s:Gm}{a:Gj}{kvs:Gp}{A:Around}{E:Ga}
end
section
variable {X:Cx}{Z:Ge}{σ:St}{H:Hp}{s:Gm}{a:Gj}{y:V}{u:Gk}{A:Around}{E:Ga}
end
def hZ :∀ {us:Gi},Vals (ss.map V.str) us->ES us ss:=by
 induction ss with
 |nil=>intro us r;rw [List.map_nil] at r;cases r;exact .nil
 |cons n ns ih=>
  intro us r;rw [Ak] at r;cases r with
  |cons r1 r2=>
   obtain ⟨t,rfl⟩:=r1;exact .cons _ _ (ih r2)
theorem eF:∀ {us:Gi} {ss:Gh},ES us ss->Vals (ss.map V.str) us
 |_,_,.nil=>.nil
 |_,_,.cons _ _ h=>.cons ⟨_,rfl⟩ (eF h)
def tI {w:World}{e:Nat}(hv:Vals xs its)(hz:xs.length<=Av)(ho:h.get? a=some (seqObj "list" its.toArray e)):ObjOk P w H h a (.lst xs):=⟨hz,its,e,hv,ho⟩
section
variable {X:Cx}
def aIj (K:Ab):Gq->Hp->VK->Prop:=λxs H Q=>∃ a,∃ ss:Gh,xs=[.ref a]/\SqL K H a (ss.map V.str)/\ss.length<64/\∀ (p:Gj) (ss':Gh),ss'.Perm ss->sortedS ss'=true->H p=none->Q (.ref p) (upd H p (.lst (ss'.map V.str)))
def lO:fA X (.builtin "sorted") (aIj X.K):=by
 intro Z s σ H xs us Q I r h;obtain ⟨a,ss,rfl,hq,h64,q⟩:=h;obtain ⟨u,rfl,rx⟩:=vals1 r;cases rx;obtain ⟨its,r',pl,hz⟩:=I.list hq;have hl:=r'.length;rw [Ag] at hl;refine sorted_strs (pl.isList) (hZ r') (by lia) λout ss' a1 a2 a3=>?_;obtain ⟨e,he⟩:=sortedAll_at s.heap its out;refine ⟨.ref (s.heap.objs.size+1),_,I.laid (a:=s.heap.objs.size+1) (o:=.lst (ss'.map V.str)) (t':=s.toks) (λ_ _=>sortedAll_old) (CU _) (tI (its:=out.toList) (e:=e) (eF a1) ?_ (by rw [Fb];exact he)),rfl,q _ ss' a2 a3 (I.hok.fresh (CU _))⟩;rw [Ag,a2.length_eq];exact bP (by lia)
def rSortI (K:Ab):Gq->Hp->VK->Prop:=λxs H Q=>∃ a,∃ ns:List Int,xs=[.ref a]/\SqL K H a (ns.map V.int)/\ns.length<64/\∀ (p:Gj) (ns':List Int),ns'.Perm ns->ns'.Pairwise (·<=·)->H p=none->Q (.ref p) (upd H p (.lst (ns'.map V.int)))
theorem oF {w:World}:∀ {ss:Gh} {vs:List (Key×Gk)} {acc:Gi},vs.map (·.1)=ss.map AQ->acc.length=vs.length->(∀ (j:Nat) (v:Gk),acc[j]?=some v->∃ k x,vs[j]?=some (k,x)/\(bB P w).is k v=true)->ES acc ss
 |[],[],[],_,_,_=>.nil
 |[],_::_,_,e,_,_=>by simp at e
 |_::_,[],_,e,_,_=>by simp at e
 |[],[],_::_,_,l,_=>by simp at l
 |_::_,_::_,[],_,l,_=>by simp at l
 |x::ss,(k,y)::vs,v::acc,e,l,h=>by
  simp only [Ak,List.cons.injEq] at e;obtain ⟨e1,e2⟩:=e;obtain ⟨k',x',h1,h2⟩:=h 0 v rfl;simp at h1;obtain ⟨rfl,rfl⟩:=h1;subst e1;obtain ⟨t,rfl⟩:=DF (x:=x) (v:=v) h2;exact .cons _ _ (oF e2 (by simpa using l) λj v hv=>h (j+1) v (by simpa using hv))
def pO {Q:Ga}{σ:St}(hh:A.handled=none)(I:Inv X Z σ H s)(hH:H a=some (.dK kvs))(h:∀ (h':Heap) (tk:Nat) (acc:Gi) (vs:List (Key×Gk)),KV kvs vs->acc.length=vs.length->(∀ (j:Nat) (v:Gk),acc[j]?=some v->∃ k x,vs[j]?=some (k,x)/\(bB X.prog X.w).is k v=true)->(∀ b o,s.heap.get? b=some o->h'.get? b=some o) ->
   wpAny (model X.prog X.w) A.in1 (call (.builtin "list.sort") [.ref h'.objs.size]) (λ_ s'=>Q (.ref h'.objs.size) s') E { s with heap:=h'.push (seqObj "list" acc.toArray 0),toks:=tk }) :
  wpAny (model X.prog X.w) A (call (.builtin "sorted") [.ref a]) Q E s:=by
 obtain ⟨z,lo,vs,rel,dd⟩:=vO I.hok hH;obtain ⟨ep,hat⟩:=dd.dictAt;have hlen:=rel.length;refine FB kind_sorted plain_sorted entry_sorted (args_sorted1 _) ?_;unfold AE.«sorted»;refine Aa (m:=checkCount "sorted" 1 1 _) (Af ?_);refine Aa (PySem.W.kdu_collect (A:=A.in1) (PySem.W.kdl_dict (knd:=bB X.prog X.w) (kvs:=vs) (ep:=ep) lo) hh hat (by rw [<- hlen];exact z) λh' tk acc hk hacc=>?_);have hl:acc.toList.length=vs.length:=by rw [BL];exact hacc.1
 refine Aa (wpAny_newList ?_ (by rw [hl,<- hlen];exact z));have hg:=h h' tk acc.toList vs rel hl (λj v e=>hacc.2 j v (by rw [<- Bl];exact e)) hk;refine Aa (BD (Cy hg (λ_ s' x=>?_) λ_ _ e=>e));exact Af ⟨_,rfl,x⟩
def aFv:Gq->Hp->VK->Prop:=λxs H Q=>∃ a kvs,∃ ss:Gh,xs=[.ref a]/\H a=some (.dK kvs)/\kvs.map (·.1)=ss.map AQ/\kvs.length<64/\∀ (p:Gj) (ss':Gh),ss'.Perm ss->sortedS ss'=true->H p=none->Q (.ref p) (upd H p (.lst (ss'.map V.str)))
def rD (hc:X.calm=true):fA X (.builtin "sorted") aFv:=by
 intro Z s σ H xs us Q I r h;obtain ⟨a,kvs,ss,rfl,hH,hk,h64,q⟩:=h;obtain ⟨u,rfl,rx⟩:=vals1 r;cases rx;refine pO (I.ok.hd hc) I hH λh' tk acc vs rel hl hacc keep=>?_;have hS:=oF (ss:=ss) (by rw [<- rel.keys];exact hk) hl hacc;have hlen:=rel.length;have hssl:ss.length=kvs.length:=by
  have:=congrArg List.length hk;rw [Ag,Ag] at this;exact this.symm
 have hoL:(h'.push (seqObj "list" acc.toArray 0)).get? h'.objs.size=some (seqObj "list" acc.toArray 0):=Ai _ rfl;refine Bw slot_list_sort ⟨_,hoL,rfl⟩ entry_list_sort (list_sort_treeK strKind_oneLt hoL hS.keysOf (λv₁ v₂ rest e=>keyKind_strs (by rw [<- e];exact hS)) (by lia) λst' hp hs=>⟨_,rfl,?_⟩) (args_list_sort _);obtain ⟨ss',a1,a2,a3⟩:=sorted_out_str hS hp hs;obtain ⟨e,he⟩:∃ e,(sortedHeap (h'.push (seqObj "list" acc.toArray 0)) h'.objs.size acc ((arrOf st').map (·.2))).get? h'.objs.size=some (seqObj "list" ((arrOf st').map (·.2)) e):=sortedHeap_at hoL;have I1:=I.kept (t':=tk) keep;refine ⟨.ref h'.objs.size,_,I1.laid (a:=h'.objs.size) (o:=.lst (ss'.map V.str)) (t':=tk) (λb o hb'=>?_) (Aj _) (tI (its:=((arrOf st').map (·.2)).toList) (e:=e) (eF a1) ?_ (by rw [Fb];exact he)),rfl,q _ ss' a2 a3 (I1.hok.fresh (Aj _))⟩
 ·have lt:=Ar hb'
  rw [sortedHeap_old (Au lt) (by rw [BP];exact Cw lt)];exact Ad _ hb'
 ·rw [Ag,a2.length_eq]
  exact bP (by lia)
def rSortDI:Gq->Hp->VK->Prop:=λxs H Q=>∃ a kvs,∃ ns:List Int,xs=[.ref a]/\H a=some (.dK kvs)/\kvs.map (·.1)=ns.map Sum.inl/\kvs.length<64/\∀ (p:Gj) (ns':List Int),ns'.Perm ns->ns'.Pairwise (·<=·)->H p=none->Q (.ref p) (upd H p (.lst (ns'.map V.int)))
end
variable {X:Cx}
def tRev (K:Ab)(te:TE)(tk:TO):TE:=λσ H Q=>te σ H λx H1=>tk σ H1 λst H2=>st=some (-1)/\∃ a xs,x=.ref a/\SqL K H2 a xs/\∀ p,H2 p=none->Q (.ref p) (upd H2 p (.lst xs.reverse))
def tListRng (ta:TA):TE:=λσ H Q=>ta σ H λvs H1=>∃ i j:Int,vs=[.int i,.int j]/\(-(2^62)<=i/\i<2^62/\-(2^62)<=j/\j<2^62)/\(j-i).toNat<=1000/\∀ p,H1 p=none->Q (.ref p) (upd H1 p (.lst (rngV i (j-i).toNat)))
def tListVals (td:TE):TE:=λσ H Q=>td σ H λx H1=>∃ a kvs,x=.ref a/\H1 a=some (.dK kvs)/\∀ p,H1 p=none->Q (.ref p) (upd H1 p (.lst (kvs.map (·.2))))
def Itz2 (K:Ab)(a b:Gj):It:=
  ⟨λi H=>∃ xs ys,SqT K H a xs/\SqT K H b ys/\i<xs.length/\i<ys.length,
   λi H v H'=>∃ T,H T=none/\v=.ref T/\∀ xs ys,SqT K H a xs->SqT K H b ys->∃ x y,xs[i]?=some x/\ys[i]?=some y/\H'=upd H T (.tup [x,y]),
   λi H=>∃ xs ys,SqT K H a xs/\SqT K H b ys/\(i=xs.length\/(i<xs.length/\i=ys.length))⟩
def aEt (n a b:Nat)(i:Nat)(h:Heap):Prop:=IsZip h (n+4) (n+2) (n+3) .none/\IsPair h (n+2) (.ref n) (.ref (n+1))/\(∃ x y,IsPair h (n+3) x y)/\h.IsTupleIter n a i/\h.IsTupleIter (n+1) b i
def vZ {P:Aw}{w:World}{K:Ab}{es:List Expr}{k1:Nat}{p1:Pos}{n a b:Nat}(ha:a<n)(hb:b<n) :
  Turn P w K (.Tuple es k1 p1) (Itz2 K a b) [n+4,n+2,n+3,n,n+1] (n+4) (aEt n a b) where
 mem:=by simp
 obj:=λi h st c hc=>by
  obtain ⟨c1,c2,⟨x,y,c3⟩,⟨o4,d4,_,f4⟩,⟨o5,d5,_,f5⟩⟩:=st;have hc':c=n+4\/c=n+2\/c=n+3\/c=n\/c=n+1:=by simpa using hc
  rcases hc' with e|e|e|e|e
  ·subst e;exact ⟨_,c1,λv z=>by cases z⟩
  ·subst e;exact ⟨_,c2,λv z=>by cases z⟩
  ·subst e;exact ⟨_,c3,λv z=>by cases z⟩
  ·subst e;exact ⟨_,d4,λv z=>by rw [f4] at z;cases z⟩
  ·subst e;exact ⟨_,d5,λv z=>by rw [f5] at z;cases z⟩
 keep:=λi h h' st k=>by
  obtain ⟨c1,c2,⟨x,y,c3⟩,c4,c5⟩:=st;exact ⟨k _ (by simp) _ c1,k _ (by simp) _ c2,⟨x,y,k _ (by simp) _ c3⟩,c4.at λo e=>k _ (by simp) o e,c5.at λo e=>k _ (by simp) o e⟩
 item:=by
  intro X hP hw hK hc i Z s σ H E I hf st hg;subst hP hw hK;obtain ⟨xs,ys,hx,hy,l1,l2⟩:=hg;obtain ⟨its,r1,tx,_⟩:=I.tuple hx;obtain ⟨its',r2,ty,_⟩:=I.tuple hy;have e1:=r1.length;have e2:=r2.length;obtain ⟨c1,c2,⟨x0,y0,c3⟩,c4,c5⟩:=st;have hh:X.A.in1.handled=none:=I.ok.hd hc;refine aJ4 (jG hh n a (by show (_:Nat)≠_;lia) its.toArray) (jG hh (n+1) b (by show (_:Nat)≠_;lia) its'.toArray) (aEs ha hb) c1 c2 c3 ⟨c4,tx⟩ ⟨c5,ty⟩ (by rw [An];lia) (by rw [An];lia) λx y T g t' px py hT cz cO s1 s2 cT kp=>⟨.ref T,rfl,?_⟩;subst hT;refine wpAny_letOwnedTupleGo_zip (s:={ s with heap:=g,toks:=t' }) cz λg' cz' sb=>?_;obtain ⟨vx,hvx⟩:∃ v,xs[i]?=some v:=⟨_,Ae l1⟩;obtain ⟨vy,hvy⟩:∃ v,ys[i]?=some v:=⟨_,Ae l2⟩;obtain ⟨ux,hux,rx⟩:=r1.get hvx;obtain ⟨uy,huy,ry⟩:=r2.get hvy;have ex:x=ux:=by
   have:its.toArray[i]?=some x:=px;rw [<- Bl,Fp,hux] at this;exact (AA this).symm
  have ey:y=uy:=by
   have:its'.toArray[i]?=some y:=py;rw [<- Bl,Fp,huy] at this;exact (AA this).symm
  subst ex ey;have hfr:H s.heap.objs.size=none:=I.hok.fresh (Aj _);have I0:Inv X Z σ (upd H s.heap.objs.size (.tup [vx,vy])) { s with heap:=s.heap.push { cls:=.type "tuple",data:=.seq #[x,y] },toks:=t' }:=
   I.laid (λc u q=>Ad _ q) (Aj _) ⟨⟨by show 2<=Av;decide,_,Ai s.heap rfl,rfl⟩,[x,y],.cons rx (.cons ry .nil),⟨_,Ai s.heap rfl,rfl,_,rfl⟩⟩
  have lz:n+4<s.heap.objs.size:=Ar c1;have fpn:∀ c∈[n+4,n+2,n+3,n,n+1],c≠s.heap.objs.size:=λc hc'=>by
   have hc'':c=n+4\/c=n+2\/c=n+3\/c=n\/c=n+1:=by simpa using hc'
   rcases hc'' with e|e|e|e|e<;>(subst e;exact Au (by lia))
  have hf0:∀ c∈[n+4,n+2,n+3,n,n+1],FpOk X Z (upd H s.heap.objs.size (.tup [vx,vy])) c:=λc hc'=>⟨by rw [aJ (fpn c hc')];exact (hf c hc').1,(hf c hc').2⟩;have I1:Inv X Z σ (upd H s.heap.objs.size (.tup [vx,vy])) { s with heap:=g',toks:=t' }:=by
   refine Inv.turnedL (s:={ s with heap:=s.heap.push { cls:=.type "tuple",data:=.seq #[x,y] },toks:=t' }) (h':=g') (t':=t') (ch:=[n+4,n+2,n+3,n,n+1]) I0 (λc o hc' e=>?_) hf0;replace e:(s.heap.push { cls:=.type "tuple",data:=.seq #[x,y] }).get? c=some o:=e;have hn:∀ d∈[n+4,n+2,n+3,n,n+1],c≠d:=λd hd z=>hc' (by rw [z];exact hd);refine sb.extBut _ _ (hn _ (by simp)) ?_
   by_cases ec:c=s.heap.objs.size
   ·rw [ec] at e ⊢
    rw [Ai s.heap rfl] at e;cases e;exact cT
   ·rw [Eb _ _ _ ec] at e
    exact kp c o (hn _ (by simp)) (hn _ (by simp)) (hn _ (by simp)) (hn _ (by simp)) e
  refine ⟨.ref s.heap.objs.size,_,I1,rfl,⟨_,hfr,rfl,λxs' ys' hx' hy'=>⟨vx,vy,by rw [I.tuple_inj hx' hx];exact hvx,by rw [I.tuple_inj hy' hy];exact hvy,rfl⟩⟩,?_,λc hc'=>(hf0 c hc').1⟩;have nz:∀ d:Nat,d<n+4->d≠n+4:=λd hd=>Au hd;exact ⟨cz',sb.extBut _ _ (nz _ (by lia)) (kp _ _ (nz _ (by lia)) (by show (_:Nat)≠_;lia) (by show (_:Nat)≠_;lia) (by show (_:Nat)≠_;lia) c2),⟨x,y,sb.extBut _ _ (nz _ (by lia)) cO⟩,s1.1.extBut sb.extBut (nz _ (by lia)),s2.1.extBut sb.extBut (nz _ (by lia))⟩
 done:=by
  intro X hP hw hK hc i Z s σ H E I hf st hg;subst hP hw hK;obtain ⟨xs,ys,hx,hy,l⟩:=hg;obtain ⟨its,r1,tx,_⟩:=I.tuple hx;obtain ⟨its',r2,ty,_⟩:=I.tuple hy;have e1:=r1.length;have e2:=r2.length;obtain ⟨c1,c2,⟨x0,y0,c3⟩,c4,c5⟩:=st;have hh:X.A.in1.handled=none:=I.ok.hd hc;refine vW (jG hh n a (by show (_:Nat)≠_;lia) its.toArray) (jG hh (n+1) b (by show (_:Nat)≠_;lia) its'.toArray) (aEs ha hb) c1 c2 c3 ⟨c4,tx⟩ ⟨c5,ty⟩ (by rw [An,An];lia) λg t' kp=>⟨rfl,I.turnedL (ch:=[n+4,n+2,n+3,n,n+1]) (λc o hc' e=>?_) hf⟩;have hn:∀ d∈[n+4,n+2,n+3,n,n+1],c≠d:=λd hd z=>hc' (by rw [z];exact hd);exact kp c o (hn _ (by simp)) (hn _ (by simp)) (hn _ (by simp)) (hn _ (by simp)) e
 self:=λ_ _ _ _ _ st h=>wpAny_pyIter_zip st.1 h
abbrev yo1 (h:Heap)(a:Gj):Heap:=h.push { cls:=.type "tuple_iterator",data:=.fields #[.ref a,.int 0 0] }
abbrev yo2 (h:Heap)(a b:Gj):Heap:=(yo1 h a).push { cls:=.type "tuple_iterator",data:=.fields #[.ref b,.int 0 0] }
abbrev yo3 (h:Heap)(a b:Gj):Heap:=(yo2 h a b).push { cls:=.type "tuple",data:=.seq #[.ref h.objs.size,.ref (yo1 h a).objs.size] }
abbrev yo4 (h:Heap)(a b:Gj):Heap:=(yo3 h a b).push { cls:=.type "tuple",data:=.seq #[.none,.none] }
abbrev yo5 (h:Heap)(a b:Gj):Heap:=(yo4 h a b).push { cls:=.type "zip",data:=.fields #[.none,.bool false,.bool false,.ref (yo2 h a b).objs.size,.ref (yo3 h a b).objs.size] }
def aBg (a b:Gj)(xs ys:Array Gk):Meets (AE.«zip.__new__» ⟨[.type "zip",.ref a,.ref b],[]⟩) (λ_ R s=>s.heap.IsTuple a xs/\s.heap.IsTuple b ys/\R (.ok (.ret (.ref (yo4 s.heap a b).objs.size))) { s with heap:=yo5 s.heap a b }):=.of_wp λprog w A R s h=>by
 obtain ⟨hp,g,d,tk,os⟩:=s;obtain ⟨q1,q2,q⟩:=h;have hsub:=sub_zip;have u1:Heap.IsTuple (Shared.heap ⟨hp,g,d,tk,os⟩) a xs:=q1;have u2:Heap.IsTuple (Shared.heap ⟨hp.push { cls:=.type "tuple_iterator",data:=.fields #[.ref a,.int 0 0] },g,d,tk,os⟩) b ys:=Heap.IsTuple.push q2 _
 wp_walk using EM u1,EM u2
 exact ⟨_,rfl,q⟩
def vS {w:World}{Q:Ga}(q1:s.heap.IsTuple a xs)(q2:s.heap.IsTuple b ys)(q:∀ g,aEt s.heap.objs.size a b 0 g->(∀ c o,s.heap.get? c=some o->g.get? c=some o)->Q (.ref (s.heap.objs.size+4)) { s with heap:=g }):wpAny (model prog w) A (call (.type "zip") [.ref a,.ref b]) Q E s:=by
 refine callType_new F.called_zip (by decide) (F.typeCall_zip_2 _ _) (F.newCall_zip_2 _ _) (λobj=>F.args_object_init_3 obj _ _) F.entry_zip_new (aBg a b xs ys) ⟨q1,q2,?_⟩;have z1:(yo1 s.heap a).objs.size=s.heap.objs.size+1:=BP ..;have z2:(yo2 s.heap a b).objs.size=s.heap.objs.size+2:=by rw [BP,z1]
 have z3:(yo3 s.heap a b).objs.size=s.heap.objs.size+3:=by rw [BP,z2]
 have z4:(yo4 s.heap a b).objs.size=s.heap.objs.size+4:=by rw [BP,z3]
 have o5:(yo5 s.heap a b).get? (yo4 s.heap a b).objs.size=some _:=Ai _ rfl;have o4:(yo5 s.heap a b).get? (yo3 s.heap a b).objs.size=some _:=Ad _ (Ai _ rfl);have o3:(yo5 s.heap a b).get? (yo2 s.heap a b).objs.size=some _:=Ad _ (Ad _ (Ai _ rfl));have o2:(yo5 s.heap a b).get? (yo1 s.heap a).objs.size=some _:=Ad _ (Ad _ (Ad _ (Ai _ rfl)));have o1:(yo5 s.heap a b).get? s.heap.objs.size=some _:=Ad _ (Ad _ (Ad _ (Ad _ (Ai _ rfl))));rw [z2,z3,z4] at o5;rw [z1,z2] at o3;rw [z3] at o4;rw [z1] at o2;show _/\_;rw [z4];exact ⟨⟨_,o5,rfl⟩,q _ ⟨o5,o3,⟨_,_,o4⟩,⟨_,o1,rfl,rfl⟩,⟨_,o2,rfl,rfl⟩⟩ λc o x=>Ad _ (Ad _ (Ad _ (Ad _ (Ad _ x))))⟩
def aLa (K:Ab)(ta:TA):TI:=λσ H R=>ta σ H λvs H1=>∃ a b,vs=[.ref a,.ref b]/\(∃ xs,SqT K H1 a xs)/\(∃ ys,SqT K H1 b ys)/\R (Itz2 K a b) H1
def aFy {k1:Nat}{p pos:Pos}(hg:Gl X "zip")(hm:X.mg "zip" = none)(ha:PA X [e1,e2] ta)(hs:AR [e1,e2] X.env=[(false,eval e1 X.env),(false,eval e2 X.env)]:=by rfl)(hs2:AR [e2] X.env=[(false,eval e2 X.env)]:=by rfl) :
  PI X (.Tuple es k1 p1) (.Call (.Name "zip" p) [e1,e2] [] pos) (aLa X.K ta):=by
 intro Z s σ H R I h;refine Call_ (fZ I hg hm aJ0 (BU (thn (ha pos Z s σ H _ I h) λus s1 ⟨vs,H1,I1,r1,q1⟩=>?_) (by rw [hs,hs2]) (by rw [hs2];rfl)));obtain ⟨a,b,rfl,⟨xs,hx⟩,⟨ys,hy⟩,q⟩:=q1;cases r1 with
 |cons r rr=>
  cases rr with
  |cons r' rr=>
   cases rr;cases r;cases r';obtain ⟨its,_,tx,_⟩:=I1.tuple hx;obtain ⟨its',_,ty,_⟩:=I1.tuple hy;have la:a<s1.heap.objs.size:=by obtain ⟨o,e,_⟩:=tx;exact Ar e
   have lb:b<s1.heap.objs.size:=by obtain ⟨o,e,_⟩:=ty;exact Ar e
   refine vS tx (ty) λg st kp=>wpAny_pyIter_zip st.1 ?_;have I2:Inv X Z σ H1 { s1 with heap:=g }:=I1.kept (t':=s1.toks) kp;refine ⟨s1.heap.objs.size+4,_,_,_,H1,rfl,I2,vZ la lb,st,λc hc=>?_,q⟩;refine I1.fpOk ?_ (I1.hok.fresh ?_)
   all_goals
    have hc':c=s1.heap.objs.size+4\/c=s1.heap.objs.size+2\/c=s1.heap.objs.size+3\/c=s1.heap.objs.size\/c=s1.heap.objs.size+1:=by simpa using hc
    rcases hc' with e|e|e|e|e<;>(subst e;lia)
variable {X:Cx}
def rListD:Gq->Hp->VK->Prop:=λxs H Q=>∃ a kvs,∃ ss:Gh,xs=[.ref a]/\H a=some (.dK kvs)/\kvs.map (·.1)=ss.map AQ/\∀ p,H p=none->Q (.ref p) (upd H p (.lst (ss.map V.str)))
def tListRng3 (ta:TA):TE:=λσ H Q=>ta σ H λvs H1=>∃ i j c:Int,vs=[.int i,.int j,.int c]/\(-(2^20)<=i/\i<2^20/\-(2^20)<=j/\j<2^20/\1<=c/\c<2^20)/\(j-i)/c<=900 /\
 ∀ p (ms:List Int),(∀ x∈ms,i<=x/\x<j)->(ms.length:Int)<=max 0 ((j-i-1)/c+1)->H1 p=none->Q (.ref p) (upd H1 p (.lst (ms.map V.int)))
variable {X:Cx}
def Inv.freeze {σ:St}(I:Inv X Z σ H s)(hH:H d=some (.dK kvs))(ho:s.heap.get? d=some ob) :
  Inv X Z σ (upd H d (.frz ob (.dK kvs))) s:=by
 have nd:∀ b u,H b=some u->u≠.dK kvs->b≠d:=λb u e n z=>by
  rw [z,hH] at e;exact n (AA e).symm
 refine I.step (g':=s.gens) (d':=s.drawn) (t':=s.toks) (h':=s.heap) (ch:=[]) (λ_ z=>nomatch z) (λb o _ _ _ e _=>e) (λb o _ _ _ e _=>⟨o.slots,e⟩) (λb o _ e n=>?_) (λb o _ e=>⟨o,e⟩) (λb xs e=>?_) (λb o u e=>?_) (λb ps e=>⟨#[],?_⟩) (λm hm=>hm) (λb u e=>?_) I.bare
 ·rw [aJ (λz=>by rw [z,hH] at n;cases n)]
  exact n
 ·rw [aJ (nd b _ e (by intro z;cases z))]
  exact e
 ·rw [aJ (nd b _ e (by intro z;cases z))]
  exact e
 ·rw [aJ (nd b _ e (by intro z;cases z)),e]
  simp
 ·have st:∀ {a:Gj} {u:HO},ObjOk X.prog X.w H s.heap a u->ObjOk X.prog X.w (upd H d (.frz ob (.dK kvs))) s.heap a u:=λx=>
   x.stay (λc v _ q=>q) (λc q=>by rw [aJ (nd c _ q (by intro z;cases z))];exact q) λc xs q=>by rw [aJ (nd c _ q (by intro z;cases z))];exact q
  by_cases e':b=d
  ·subst e'
   rw [aD] at e;cases e;exact ⟨ho,st (I.hok b _ hH)⟩
  ·rw [aJ e'] at e
   exact st (I.hok b u e)
def Itd (d:Gj)(ob:Obj)(kvs:Gp):It:=
 ⟨λi H=>H d=some (.frz ob (.dK kvs))/\i<kvs.length,λi H v H'=>H'=H/\∃ kv,kvs[i]?=some kv/\v=kV kv.1,λi H=>H d=some (.frz ob (.dK kvs))/\kvs.length<=i⟩
def aGu {w:World}{k:Key}(h:(bB P w).is k v=true):RelV (kV k) v:=by
 cases k with
 |inl n=>
  obtain ⟨t,rfl⟩:=Value.isInt_shape (k:=n) (v:=v) h;exact ⟨t,rfl⟩
 |inr x=>
  obtain ⟨t,rfl⟩:=DF (x:=x) (v:=v) h;exact ⟨t,rfl⟩
def wC {P:Aw}{w:World}{K:Ab}{tg:Expr}(d it:Gj)(ob:Obj)(kvs:Gp)(vs:List (Key×Gk))(ep:Nat)(rel:KV kvs vs)(hob:∀ h:Heap,h.get? d=some ob->h.DictAt (bB P w) d vs ep) :
  Turn P w K tg (Itd d ob kvs) [it] it (λi h=>h.IsKeyIter it d i vs.length ep) where
 mem:=by simp
 obj:=λi h st b hb=>by
  have e:b=it:=by simpa using hb
  subst e;obtain ⟨o,e,c,d⟩:=st;exact ⟨o,e,λv z=>by rw [d] at z;cases z⟩
 keep:=λi h h' st k=>st.at λo e=>k it (by simp) o e
 item:=by
  intro X hP hw hK hc i Z s σ H E I hf st hg;subst hP hw hK;obtain ⟨hfz,hi⟩:=hg;have ho:s.heap.get? d=some ob:=(show ObjOk X.prog X.w H s.heap d (.frz ob (.dK kvs)) from I.hok d _ hfz).1;have hat:=hob _ ho;have hl:=rel.length;obtain ⟨⟨k,x⟩,hx⟩:∃ p,vs[i]?=some p:=⟨_,Ae (by lia)⟩;obtain ⟨f0,f1,f2,f3,f4,f5⟩:=hf it (by simp);refine wpAny_pyNext_dict_item st hat hx λkey h' hkey st' sb=>?_;have I1:Inv X Z σ H { s with heap:=h' }:=I.turned (t':=s.toks) (λb o hb e=>(sb.2 b hb).trans e) f0 f1 f3 f4 f5;obtain ⟨kv,hkv⟩:∃ kv,kvs[i]?=some kv:=⟨_,Ae hi⟩;have ek:kv.1=k:=by
   have:=congrArg (λl=>l[i]?) rel.keys;simp only [Aq,hkv,hx,DD] at this;exact AA this
  obtain ⟨o,e,c,d'⟩:=id st';exact ⟨key,rfl,vH (s:={ s with heap:=h' }) e c d' (by decide) ⟨kV k,H,I1,aGu hkey,⟨rfl,kv,hkv,by rw [ek]⟩,st',λb hb=>(hf b hb).1⟩⟩
 done:=by
  intro X hP hw hK hc i Z s σ H E I hf st hg;subst hP hw hK;obtain ⟨hfz,hi⟩:=hg;have ho:s.heap.get? d=some ob:=(show ObjOk X.prog X.w H s.heap d (.frz ob (.dK kvs)) from I.hok d _ hfz).1;have hat:=hob _ ho;have hl:=rel.length;obtain ⟨f0,f1,f2,f3,f4,f5⟩:=hf it (by simp);exact wpAny_pyNext_dict_end (I.ok.hd hc) st hat (Bs (by lia)) λh' eb=>⟨rfl,I.turned (t':=s.toks) (λb o hb e=>eb b o hb e) f0 f1 f3 f4 f5⟩
 self:=λ_ _ _ _ _ st h=>wpAny_pyIter_keyiter st h
def aLe (tl:TE):TI:=λσ H R=>tl σ H λx H1=>∃ d kvs,x=.ref d/\H1 d=some (.dK kvs)/\∀ ob,R (Itd d ob kvs) (upd H1 d (.frz ob (.dK kvs)))
def xQ {tg l:Expr}{tl:TE}(hl:PE X l tl):PI X tg l (aLe tl):=by
 intro Z s σ H R I h;refine thn (hl Z s σ H _ I h) λv s1 ⟨x,H1,I1,r1,q1⟩=>?_;obtain ⟨d,kvs,e,hH,q⟩:=q1;subst e;cases r1;obtain ⟨z,lo,vs,rel,dd⟩:=vO I1.hok hH;obtain ⟨ep,hat⟩:=dd.dictAt;obtain ⟨ob,es,ho,rest⟩:=id hat;refine wpAny_pyIter_dict lo hat ?_;have I2:=I1.freeze hH ho;refine ⟨s1.heap.objs.size,[s1.heap.objs.size],_,_,_,rfl,I2.kept (t':=s1.toks) λb o e=>Ad _ e,wC d _ ob kvs vs ep rel (λh e=>⟨ob,es,e,rest⟩),⟨_,Ai _ rfl,rfl,rfl⟩,λb hb=>?_,q ob⟩;have e:b=s1.heap.objs.size:=by simpa using hb
 subst e;exact I2.fpOk (Aj _) (I2.hok.fresh (Aj _))
def aC7 {d:Gj}{ob:Obj}{kvs:Gp}{g:TG}{tb:TS}{D:Ends}{σ:St}{H:Hp}(Pv:Nat->Gs)(h0:Pv 0 σ H)(hl:∀ i σ H,i<=kvs.length->Pv i σ H->H d=some (.frz ob (.dK kvs)))
  (hs:∀ i kv σ H,kvs[i]?=some kv->Pv i σ H->g (kV kv.1) σ H λσ2 H2=>tb { D with nx:=Pv (i+1),ct:=Pv (i+1),bk:=D.nx } σ2 H2) (hd:∀ σ H,Pv kvs.length σ H->D.nx σ H) :
  ∃ W:Nat->Nat->Gs,(∃ m,W 0 m σ H)/\∀ i m σ H,W i m σ H ->
   ((Itd d ob kvs).stop i H/\D.nx σ H)\/((Itd d ob kvs).go i H/\∃ N:Gs,(∀ σ' H',N σ' H'->∃ m',m'<m/\W (i+1) m' σ' H')/\∀ v H',(Itd d ob kvs).yld i H v H'->g v σ H' λσ2 H2=>tb { D with nx:=N,ct:=N,bk:=D.nx } σ2 H2):=by
 refine ⟨λi m σ H=>m=kvs.length-i/\i<=kvs.length/\Pv i σ H,⟨kvs.length,by simp,BF _,h0⟩,?_⟩
 rintro i m σ H ⟨rfl,hi,p⟩
 have q:=hl i σ H hi p
 by_cases hlt:i<kvs.length
 ·refine .inr ⟨⟨q,hlt⟩,Pv (i+1),λσ' H' p'=>⟨kvs.length-(i+1),by lia,rfl,hlt,p'⟩,λv H' y=>?_⟩
  obtain ⟨rfl,kv,hkv,rfl⟩:=y;exact hs i kv σ H' hkv p
 ·have e:i=kvs.length:=by lia
  subst e;exact .inl ⟨⟨q,Aj _⟩,hd σ H p⟩
end L2
namespace L2
open PySem.W
def PassesAt (CX:CXT)(X:Cx)(σ:St)(E:XK):Prop:=∀ (Z:Ge) (H:Hp) (s:Gm) (e:Gk) (s':Gm),Inv X Z σ H s->CX X.stack H s E e s'->X.xe e s'
section
variable {X:Cx}
def tTryS (K:Frag)(i j:Nat)(Dc:Gj)(tb:St->XK->TS):TS:=λD σ H=>tb σ (λcls dd H'=>∃ C,cls=.ref C/\ExK K C/\subIn K (.ref C) (.ref Dc)=some true/\∀ a,H' a=none->D.nx (((σ.set i (some (.ref a))).set j (some (.ref a))).set i none) (upd H' a (excD a C dd))) D σ H
end
end L2
namespace L2
variable {X:Cx}
def rSortDSR:Gq->Hp->VK->Prop:=λxs H Q=>∃ a kvs,∃ ss:Gh,xs=[.ref a]/\Rd H a (.dK kvs)/\kvs.map (·.1)=ss.map AQ/\kvs.length<64/\∀ (p:Gj) (ss':Gh),ss'.Perm ss->sortedS ss'=true->H p=none->Q (.ref p) (upd H p (.lst (ss'.map V.str)))
def tListValsR (td:TE):TE:=λσ H Q=>td σ H λx H1=>∃ a kvs,x=.ref a/\Rd H1 a (.dK kvs)/\∀ p,H1 p=none->Q (.ref p) (upd H1 p (.lst (kvs.map (·.2))))
def Fz (H H':Hp):Prop:=∀ b o,H b=some o->H' b=some o\/∃ ob kvs,o=.dK kvs/\H' b=some (.frz ob (.dK kvs))
def Hld (d:Gj)(ob:Obj)(kvs:Gp)(H H':Hp):Prop:=H' d=some (.frz ob (.dK kvs))/\(∀ b,b≠d->H' b=H b)/\(H d=some (.dK kvs)\/H d=some (.frz ob (.dK kvs)))
section
variable {X:Cx}
def iDictR (tl:TE):TI:=λσ H R=>tl σ H λx H1=>∃ d kvs,x=.ref d/\Rd H1 d (.dK kvs)/\∀ ob H2,Hld d ob kvs H1 H2->R (Itd d ob kvs) H2
def rDictD:Gq->Hp->VK->Prop:=λxs H Q=>∃ a kvs,xs=[.ref a]/\Rd H a (.dK kvs)/\∀ p,H p=none->Q (.ref p) (upd H p (.dK kvs))
def DDeq (K:Ab)(H:Hp)(ka kb:Gp):Prop:=ka.length=kb.length/\∀ kv∈ka,∃ v' d,valV kb kv.1=some v'/\Dv K H 30 kv.2 d/\Dv K H 30 v' d
def rNeDD (K:Ab):R2:=λx y H Q=>∃ a b ka kb,x=.ref a/\y=.ref b/\Rd H a (.dK ka)/\Rd H b (.dK kb)/\DDeq K H ka kb/\Q (.bl false) H
def rEqDD (K:Ab):R2:=λx y H Q=>∃ a b ka kb,x=.ref a/\y=.ref b/\Rd H a (.dK ka)/\Rd H b (.dK kb)/\DDeq K H ka kb/\Q (.bl true) H
end
def EqIn (P:Aw)(w:World)(A:Around)(s:Gm)(y x:Gk):Prop:=∀ (E:Ga) (Q:Bool->Gm->Prop),Q true s->wpAny (model P w) A (eqBool y x) Q E s
section
open AutoSeq1 MeetsSeq MeetsSeq2 MeetsSeq3 SeqAt
variable {P:Aw}{w:World}
end
section
variable {X:Cx}
def rNeLD (K:Ab):R2:=λx y H Q=>∃ a b xs ys,x=.ref a/\y=.ref b/\SqL K H a xs/\SqL K H b ys/\xs.length=ys.length /\
 (∀ (j:Nat) x y,xs[j]?=some x->ys[j]?=some y->∃ da db ka kb,x=.ref da/\y=.ref db/\Rd H da (.dK ka)/\Rd H db (.dK kb)/\DDeq K H ka kb)/\Q (.bl false) H
end
end L2
namespace HT
open PySem PyProof.Rows
def lexLtS:Gh->Gh->Bool
 |[],[]=>false
 |[],_::_=>true
 |_::_,[]=>false
 |x::xs,y::ys=>if x=y then lexLtS xs ys else decide (x.cps.toList<y.cps.toList)
theorem lexLtS_cons (x y:Str)(xs ys:Gh):lexLtS (x::xs) (y::ys)=if x=y then lexLtS xs ys else decide (x.cps.toList<y.cps.toList):=rfl
section
open PySem.SeqAt
open PySem.AutoSeq1 (wpAny_loadPart')
open PySem.MeetsSeq PySem.MeetsSeq2 PySem.MeetsSeq3
end
section
variable {prog:Aw}{w:World}{A:Around}{E:Ga}{s:Gm}
end
end HT
namespace L2
section
variable {X:Cx}
def rLtTS (K:Ab):R2:=λx y H Q=>∃ a b ns ms,x=.ref a/\y=.ref b/\SqT K H a (ns.map V.str)/\SqT K H b (ms.map V.str)/\Q (.bl (HT.lexLtS ns ms)) H
end
end L2
namespace HT
section
variable {prog:Aw}{w:World}{A:Around}{E:Ga}{s:Gm}
def cat_tup0 {t b:Gj}{ws:Gi}{Q:Ga}(ht:IsTup s.heap t #[])(hb:IsTup s.heap b ws.toArray)(h:Q (.ref b) s):wpAny (model prog w) A (Ep .Add (.ref t) (.ref b)) Q E s:=by
 obtain ⟨⟨cls,dd,data,sl⟩,ho,hc,n,hd⟩:=id ht;obtain ⟨⟨cls2,dd2,data2,sl2⟩,ho2,hc2,n2,hd2⟩:=id hb;simp only at hc hd hc2 hd2;subst hc hd hc2 hd2;exact concat_meets ⟨_,ho,rfl⟩ ⟨_,ho2,rfl⟩ noFill_tuple_add seq_tuple_add PySem.F.slot_tuple_add FF (FA _ _)
   (tuple_addW0 t b #[] ws.toArray n n2 dd dd2 sl sl2 (by simp)) ⟨ho,ho2,h⟩
end
end HT
namespace L2
section
variable {X:Cx}
def aDx (K:Ab):R2:=λx y H Q=>∃ a b ys,x=.ref a/\y=.ref b/\SqT K H a []/\SqT K H b ys/\Q (.ref b) H
def aCb:OpR X (Ep .Add) (aDx X.K):=by
 intro Z s σ H x y v u Q I rx ry h;obtain ⟨a,b,ys,rfl,rfl,ha,hb,q⟩:=h;cases rx;cases ry;obtain ⟨its,r1,p1,_⟩:=I.tuple ha;obtain ⟨its2,r2,p2,_⟩:=I.tuple hb;cases r1;exact HT.cat_tup0 p1 p2 ⟨.ref b,H,I,rfl,q⟩
def aDw (K:Ab):R2:=λx y H Q=>aDx K x y H Q\/aIm K x y H Q
def sY:OpR X (Ep .Add) (aDw X.K):=by
 intro Z s σ H x y v u Q I rx ry h
 rcases h with h|h
 ·exact aCb Z s σ H x y v u Q I rx ry h
 ·exact aF6 Z s σ H x y v u Q I rx ry h
def rRepT (K:Ab):R2:=λx y H Q=>∃ a k xs,x=.ref a/\y=.int k/\SqT K H a xs/\xs≠[]/\2<=k/\k<=1000/\xs.length<=1000/\∀ p,H p=none->Q (.ref p) (upd H p (.tup (Cz k.toNat xs).flatten))
end
def Itr3 (lo c:Int)(n:Nat):It:=⟨λi _=>i<n,λi H x H'=>H'=H/\x=.int (lo+(i:Nat)*c),λi _=>n<=i⟩
def pH {P:Aw}{w:World}{K:Ab}{tg:Expr}(it:Gj)(lo c:Int)(n:Nat):Turn P w K tg (Itr3 lo c n) [it] it (λi h=>IsRangeIter h it (lo+(i:Nat)*c) ((n:Int)-(i:Nat)) c) where
 mem:=by simp
 obj:=λi h st b hb=>by
  have e:b=it:=by simpa using hb
  subst e;exact ⟨_,st,λv z=>by
   have z':Data.fields _=Data.cell v:=z;cases z'⟩
 keep:=λi h h' st k=>k it (by simp) _ st
 item:=by
  intro X hP hw hK hc i Z s σ H E I hf st hg;subst hP hw hK;obtain ⟨f0,f1,f2,f3,f4,f5⟩:=hf it (by simp);have W:=Walks.range (prog:=X.prog) (w:=X.w) (I.ok.hd hc) it lo c n;refine W.item i s _ _ hg st λv h' tk hv st' kk=>?_;obtain ⟨t,rfl⟩:=hv;have I1:Inv X Z σ H { s with heap:=h',toks:=tk }:=I.turned (λb o hb e=>kk b o (by simpa using hb) e) f0 f1 f3 f4 f5;exact ⟨_,rfl,vH (s:={ s with heap:=h',toks:=tk }) (n:="range_iterator") st' rfl rfl (by decide) ⟨.int (lo+(i:Nat)*c),H,I1,⟨t,rfl⟩,⟨rfl,rfl⟩,st',λb hb=>(hf b hb).1⟩⟩
 done:=by
  intro X hP hw hK hc i Z s σ H E I hf st hg;subst hP hw hK;obtain ⟨f0,f1,f2,f3,f4,f5⟩:=hf it (by simp);exact wpAny_pyNext_range_end (I.ok.hd hc) st (by have:n<=i:=hg;lia) λh' eb=>⟨rfl,I.turned (t':=s.toks) (λb o hb e=>eb b o hb e) f0 f1 f3 f4 f5⟩
 self:=λ_ _ _ _ _ st h=>wpAny_pyIter_rangeiter st h
def iRng3 (ta:TA):TI:=λσ H R=>ta σ H λvs H1=>∃ i j c:Int,vs=[.int i,.int j,.int c]/\(-(2^20)<=i/\i<=2^20/\-(2^20)<=j/\j<=2^20/\0<c/\c<=2^20)/\R (Itr3 i c (if i<j then (j-i-1)/c+1 else 0).toNat) H1
def vK {lo c:Int}{n:Nat}{g:TG}{tb:TS}{D:Ends}{σ:St}{H:Hp}(Pv:Nat->Gs)(h0:Pv 0 σ H)
  (hs:∀ i σ H,i<n->Pv i σ H->g (.int (lo+(i:Nat)*c)) σ H λσ2 H2=>tb { D with nx:=Pv (i+1),ct:=Pv (i+1),bk:=D.nx } σ2 H2) (hd:∀ σ H,Pv n σ H->D.nx σ H) :
  ∃ W:Nat->Nat->Gs,(∃ m,W 0 m σ H)/\∀ i m σ H,W i m σ H ->
   ((Itr3 lo c n).stop i H/\D.nx σ H)\/((Itr3 lo c n).go i H/\∃ N:Gs,(∀ σ' H',N σ' H'->∃ m',m'<m/\W (i+1) m' σ' H')/\∀ x H',(Itr3 lo c n).yld i H x H'->g x σ H' λσ2 H2=>tb { D with nx:=N,ct:=N,bk:=D.nx } σ2 H2):=by
 refine ⟨λi m σ H=>m=n-i/\i<=n/\Pv i σ H,⟨n,by simp,BF _,h0⟩,?_⟩
 rintro i m σ H ⟨rfl,hi,p⟩
 by_cases hlt:i<n
 ·refine .inr ⟨hlt,Pv (i+1),λσ' H' p'=>⟨n-(i+1),by lia,rfl,hlt,p'⟩,λv H' y=>?_⟩
  obtain ⟨e,rfl⟩:=y;subst e;exact hs i σ _ hlt p
 ·have e:i=n:=by lia
  subst e;exact .inl ⟨Aj _,hd σ H p⟩
def tSortR (K:Ab)(te:TE):TE:=λσ H Q=>te σ H λx H1=>∃ (a:Gj) (ns:List Int),x=.ref a/\SqL K H1 a (ns.map V.int)/\ns.length<64 /\
 ∀ (p:Gj) (ns':List Int),ns'.Perm ns->ns'.Pairwise (· ≥ ·)->H1 p=none->Q (.ref p) (upd H1 p (.lst (ns'.map V.int)))
def jJ:isSubtype (.type "range_iterator") (.type "reversed")=pure false:=by rw [isSubtype_type];kernel_rfl
abbrev gQ (n:Int)(t u v:Tok):Obj:={ cls:=.type "range",data:=.fields #[.int 0 t,.int n u,.int 1 v] }
abbrev uS (n:Int):Obj:={ cls:=.type "range_iterator",data:=.fields #[rawInt (n-1),rawInt n,rawInt (-1)] }
section
variable {prog:Aw}{w:World}{A:Around}{E:Ga}{s:Gm}
def gI {l:Gj}{n:Int}{Q:Ga}(hl:s.heap.get? l=some (gQ n t u v))(h0:0<=n)(h1:n<2^62)(h:Q (.ref s.heap.objs.size) { s with heap:=s.heap.push (uS n) }):wpAny (model prog w) A (call (.builtin "range.__reversed__") [.ref l]) Q E s:=by
 refine Bw F.slot_range_reversed ⟨_,hl,rfl⟩ F.entry_range_reversed ?_ (F.args_range_reversed_1 _);unfold AE.«range.__reversed__»;refine Aa (Cq (a:=AD l) rfl ?_);unfold AE.Range.rangeFields;refine Aa ?_;refine Aa (BG hl rfl (x:=.int 0 t) rfl ?_);refine Aa (Cq (a:=some 0) rfl ?_);refine Aa (BG hl rfl (x:=.int n u) rfl ?_);refine Aa (Cq (a:=some n) rfl ?_);refine Aa (BG hl rfl (x:=.int 1 v) rfl ?_);refine Aa (Cq (a:=some 1) rfl ?_);refine Af ?_;have hz:AE.Range.rangeSize 0 n 1=n:=by
  rw [rangeSize_one];split<;>lia
 dsimp only;rw [hz];have hs:(BR 0&&BR n&&BR 1&&BR (-1)&&BR (0-1)&&BR n)=true:=by
  simp only [BR,Cf,decide_eq_true_eq];lia
 rw [hs];rw [if_neg (by decide),if_pos rfl];have e:(0:Int)+(n-1)*1=n-1:=by lia
 rw [e];exact Aa (Be (Af ⟨_,rfl,h⟩))
def gG {l:Gj}{n:Int}(hl:s.heap.get? l=some (gQ n t u v))(h0:0<=n)(h1:n<2^62)(h:Q₁ (.ref s.heap.objs.size) { s with heap:=s.heap.push (uS n) }) :
  Eu (model prog w) A (.call (.builtin "reversed.__new__") ⟨[.type "reversed",.ref l],[]⟩) (wants Q₁ E) s:=by
 refine EO ?_;show wpAny _ A.in1 (do checkBuiltinCall "reversed.__new__" ⟨[.type "reversed",.ref l],[]⟩;again (.builtin "reversed.__new__" ⟨[.type "reversed",.ref l],[]⟩)) _ _ s;refine Aa (Cq (F.newCall_reversed_1 _) (Af ⟨Eo F.plain_reversed_new _,CG F.entry_reversed_new ?_⟩));rw [CA F.plain_reversed_new _];unfold AE.«reversed.__new__»;refine Aa (Cq (newClass_reversed _) ?_);dsimp only;refine Aa (Cq (a:=()) (by first|rfl|kernel_rfl) ?_);refine Aa (Cq (a:=()) (by first|rfl|kernel_rfl) ?_);refine Aa (wpAny_specialOf (⟨_,hl,rfl⟩:s.TypeIs (.ref l) "range") F.slot_range_reversed.lookup ?_);dsimp only;refine Aa (Cq (F.slot_range_reversed.bind _) ?_);dsimp only;have hne:¬ ((Value.builtin "range.__reversed__" == BN)=true):=AC;show wpAny _ _ (if (Value.builtin "range.__reversed__" == BN)=true then _ else _) _ _ _;rw [if_neg hne];refine Aa (DC ?_);refine Aa (m:=runValue (.call (.builtin "range.__reversed__") ⟨[.ref l],[]⟩)) (show wpAny _ _ (call (.builtin "range.__reversed__") [.ref l]) _ _ _ from gI hl h0 h1 ?_)
 first
 |exact Af h
 |exact Aa (Af (Af h))
def gH {l:Gj}{n:Int}{Q:Ga}(hl:s.heap.get? l=some (gQ n t u v))(h0:0<=n)(h1:n<2^62)(h:Q (.ref s.heap.objs.size) { s with heap:=s.heap.push (uS n) }):wpAny (model prog w) A (call (.type "reversed") [.ref l]) Q E s:=by
 refine callType_other (U:="range_iterator") (Q₁:=λobj s₁=>obj=.ref s.heap.objs.size/\s₁={ s with heap:=s.heap.push (uS n) }) (by decide +kernel) F.create_reversed ⟨_,_,F.mro_reversed⟩ F.made_reversed jJ (F.typeCall_reversed_1 _) (gG hl h0 h1 ⟨rfl,rfl⟩) ?_
 rintro obj s₁ ⟨rfl,rfl⟩
 exact ⟨⟨_,Ai _ rfl,rfl⟩,h⟩
end
def iRev (ta:TA):TI:=λσ H R=>ta σ H λvs H1=>∃ n:Int,vs=[.int n]/\0<=n/\n<2^62/\R (Itr3 (n-1) (-1) n.toNat) H1
def aIr {p p2 pos pos2:Pos}(hg:Gl X "reversed")(hm:X.mg "reversed" = none)(hg2:Gl X "range")(hm2:X.mg "range" = none)(ha:PA X [a] ta)(hs:AR [a] X.env=[(false,eval a X.env)]:=by rfl)(hs2:AR [.Call (.Name "range" p2) [a] [] pos2] X.env=[(false,eval (.Call (.Name "range" p2) [a] [] pos2) X.env)]:=by rfl) :
  PI X tg (.Call (.Name "reversed" p) [.Call (.Name "range" p2) [a] [] pos2] [] pos) (iRev ta):=by
 intro Z s σ H R I h;refine Call_ (fZ I hg hm boot_reversed (BU ?_ hs2 rfl));rw [hs2];refine Ds ?_;refine Call_ (fZ I hg2 hm2 boot_range (BU (thn (ha pos2 Z s σ H _ I h) λus s1 ⟨vs,H1,I1,r1,q1⟩=>?_) hs rfl));obtain ⟨n,e,q1,q2,q⟩:=q1;subst e;cases r1 with
 |cons r rr=>
  cases rr;obtain ⟨t,rfl⟩:=r;refine call_range_1 ?_;refine DW ?_;refine gH (n:=n) (Ai _ rfl) q1 q2 ?_;have I2:Inv X Z σ H1 { s1 with heap:=(s1.heap.push (gQ n s1.toks t (s1.toks+1))).push (uS n),toks:=s1.toks+1+1 }:=I1.kept λb o e=>Ad _ (Ad _ e);have hz:(s1.heap.push (gQ n s1.toks t (s1.toks+1))).objs.size=s1.heap.objs.size+1:=size_push' _ _;have hi:IsRangeIter ((s1.heap.push (gQ n s1.toks t (s1.toks+1))).push (uS n)) (s1.heap.push (gQ n s1.toks t (s1.toks+1))).objs.size (n-1) n (-1):=Ai _ rfl;refine wpAny_pyIter_rangeiter hi ?_;refine ⟨_,[_],_,_,H1,rfl,I2,pH _ (n-1) (-1) n.toNat,?_,λb hb=>?_,q⟩
  ·show IsRangeIter _ _ (n-1+((0:Nat):Int) * -1) (((n.toNat:Nat):Int)-((0:Nat):Int)) (-1)
   have e1:n-1+((0:Nat):Int) * -1=n-1:=by simp
   have e2:((n.toNat:Nat):Int)-((0:Nat):Int)=n:=by lia
   rw [e1,e2];exact hi
  ·have e:b=(s1.heap.push (gQ n s1.toks t (s1.toks+1))).objs.size:=by simpa using hb
   subst e;have hf:=I1.fpOk (b:=(s1.heap.push (gQ n s1.toks t (s1.toks+1))).objs.size) (by rw [hz];exact CU _) (I1.hok.fresh (by rw [hz];exact CU _));exact hf
def Itv (K:Ab)(a:Gj)(n:Nat):It:=
 ⟨λi H=>∃ xs,SqL K H a xs/\xs.length=n/\i<n,λi H x H'=>H'=H/\∀ xs,SqL K H a xs->xs[n-1-i]?=some x,λi H=>n<=i⟩
def iRevL (K:Ab)(ta:TA):TI:=λσ H R=>ta σ H λvs H1=>∃ a xs,vs=[.ref a]/\SqL K H1 a xs/\R (Itv K a xs.length) H1
end L2
namespace L2
open PySem.W
structure Cal1 (P:Aw)(w:World)(K:Frag)(mg:Gb)(base:Heap)(CX:CXT)(k:Nat)(x:Str)(ps:Gh)(sp:Sp)(dv:V):Prop where
 ex:∃ (f:Gj) (fd:Ay) (u:Gk),mg x=some (.ref f)/\keepIn K (.ref f)=true/\Binds K fd ps [u]/\RelV dv u/\FnOk P w K mg base CX k f fd ps sp
end L2
namespace L2
def oM {K:Ab}{a:Gj}{xs:Gq}{g:TG}{tb:TS}{D:Ends}{σ:St}{H:Hp}(Pv:Nat->Gs)(h0:Pv 0 σ H)(hl:∀ i σ H,i<=xs.length->Pv i σ H->SqL K H a xs)
  (hs:∀ i x σ H (D':Ends),(∀ σ' H',Pv (i+1) σ' H'->D'.nx σ' H')->xs[i]?=some x->Pv i σ H->g x σ H (tb D')) (hd:∀ σ H,Pv xs.length σ H->D.nx σ H) :
  ∃ W:Nat->Nat->Gs,(∃ m,W 0 m σ H)/\∀ i m σ H,W i m σ H ->
   ((Itl K a).stop i H/\D.nx σ H)\/((Itl K a).go i H/\∃ N:Gs,(∀ σ' H',N σ' H'->∃ m',m'<m/\W (i+1) m' σ' H')/\∀ x H',(Itl K a).yld i H x H'->g x σ H' λσ2 H2=>tb { D with nx:=N,ct:=N,bk:=D.nx } σ2 H2):=
 mT Pv h0 hl (λi x σ H hx p=>hs i x σ H { D with nx:=Pv (i+1),ct:=Pv (i+1),bk:=D.nx } (λ_ _ h=>h) hx p) hd
def dP {lo:Int}{n:Nat}{g:TG}{tb:TS}{D:Ends}{σ:St}{H:Hp}(Pv:Nat->Gs)(h0:Pv 0 σ H)
  (hs:∀ i σ H (D':Ends),(∀ σ' H',Pv (i+1) σ' H'->D'.nx σ' H')->i<n->Pv i σ H->g (.int (lo+i)) σ H (tb D')) (hd:∀ σ H,Pv n σ H->D.nx σ H) :
  ∃ W:Nat->Nat->Gs,(∃ m,W 0 m σ H)/\∀ i m σ H,W i m σ H ->
   ((Itr lo n).stop i H/\D.nx σ H)\/((Itr lo n).go i H/\∃ N:Gs,(∀ σ' H',N σ' H'->∃ m',m'<m/\W (i+1) m' σ' H')/\∀ x H',(Itr lo n).yld i H x H'->g x σ H' λσ2 H2=>tb { D with nx:=N,ct:=N,bk:=D.nx } σ2 H2):=
 eB Pv h0 (λi σ H hi p=>hs i σ H { D with nx:=Pv (i+1),ct:=Pv (i+1),bk:=D.nx } (λ_ _ h=>h) hi p) hd
def oN {d:Gj}{ob:Obj}{kvs:Gp}{g:TG}{tb:TS}{D:Ends}{σ:St}{H:Hp}(Pv:Nat->Gs)(h0:Pv 0 σ H)(hl:∀ i σ H,i<=kvs.length->Pv i σ H->H d=some (.frz ob (.dK kvs)))
  (hs:∀ i kv σ H (D':Ends),(∀ σ' H',Pv (i+1) σ' H'->D'.nx σ' H')->kvs[i]?=some kv->Pv i σ H->g (kV kv.1) σ H (tb D')) (hd:∀ σ H,Pv kvs.length σ H->D.nx σ H) :
  ∃ W:Nat->Nat->Gs,(∃ m,W 0 m σ H)/\∀ i m σ H,W i m σ H ->
   ((Itd d ob kvs).stop i H/\D.nx σ H)\/((Itd d ob kvs).go i H/\∃ N:Gs,(∀ σ' H',N σ' H'->∃ m',m'<m/\W (i+1) m' σ' H')/\∀ v H',(Itd d ob kvs).yld i H v H'->g v σ H' λσ2 H2=>tb { D with nx:=N,ct:=N,bk:=D.nx } σ2 H2):=
 aC7 Pv h0 hl (λi x σ H hx p=>hs i x σ H { D with nx:=Pv (i+1),ct:=Pv (i+1),bk:=D.nx } (λ_ _ h=>h) hx p) hd
section
variable {D:Ends}{σ:L2.St}{H:Hp}
def cut3 (h:let u3:TS:=t3;let u2:TS:=tSeq t2 u3;tSeq t1 u2 D σ H):(tSeq t1 (tSeq t2 (t3))) D σ H:=h
def cut5 (h:let u5:TS:=t5;let u4:TS:=tSeq t4 u5;let u3:TS:=tSeq t3 u4;let u2:TS:=tSeq t2 u3;tSeq t1 u2 D σ H):(tSeq t1 (tSeq t2 (tSeq t3 (tSeq t4 (t5))))) D σ H:=h
def cut7 (h:let u7:TS:=t7;let u6:TS:=tSeq t6 u7;let u5:TS:=tSeq t5 u6;let u4:TS:=tSeq t4 u5;let u3:TS:=tSeq t3 u4;let u2:TS:=tSeq t2 u3;tSeq t1 u2 D σ H):(tSeq t1 (tSeq t2 (tSeq t3 (tSeq t4 (tSeq t5 (tSeq t6 (t7))))))) D σ H:=h
end
end L2
namespace L2
open PySem.W
section
variable {X:Cx}
end
end L2
namespace TM
open PySem.W
def aIq {α:Type}[BEq α][LawfulBEq α](f:Nat->α):∀ (j:Nat) (l:List α),(∀ i,i<j->f i∈l)->(∀ i k,i<j->k<j->f i=f k->i=k)->j<=l.length:=by
 intro j
 induction j with
 |zero=>
  intro l _ _;exact BF _
 |succ j ih=>
  intro l hm hi;have h1:=hm j (Cg _);have:=ih (l.erase (f j)) (λi hij=>(List.mem_erase_of_ne (λe=>by
   have:=hi i j (by lia) (by lia) e;lia)).mpr (hm i (by lia))) (λi k a b e=>hi i k (by lia) (by lia) e)
  rw [List.length_erase_of_mem h1] at this;have:0<l.length:=List.length_pos_of_mem h1;lia
def rd (c j:Nat):Nat:=97+(c-97+j)%26
abbrev LET:Str:="abcdefghijklmnopqrstuvwxyz"
def uI {j:Nat}(h:j<26):(cps LET)[j]?=some (97+j):=by
 have all:∀ k:Fin 26,(cps LET)[k.val]?=some (97+k.val):=by decide +kernel
 exact all ⟨j,h⟩
end TM
namespace GM
structure Fr (M t b N:Int):Prop where
 am:Amt t b
 e:t*M=N*b
def Fr.of {M t b:Int}(am:Amt t b)(d:b∣M):Fr M t b (t*(M/b)):=⟨am,by rw [BX,Int.ediv_mul_cancel d]⟩
def Fr.zero {M:Int}:Fr M 0 1 0:=⟨aBa (by decide),by simp⟩
def Fr.plus {M t1 b1 N1 t2 b2 N2:Int}(h1:Fr M t1 b1 N1)(h2:Fr M t2 b2 N2):Fr M ((t1*b2+t2*b1)/G (t1*b2+t2*b1) (b1*b2)) (b1*b2/G (t1*b2+t2*b1) (b1*b2)) (N1+N2):=by
 have a1:=h1.am.b1;have a2:=h2.am.b1;have n1:=Bu h1.am.t0 (show 0<=b2 by lia);have n2:=Bu h2.am.t0 (show 0<=b1 by lia);have hb:1<=b1*b2:=by
  have:=EU a1 a2 (by decide) (by lia);lia
 refine ⟨iF (by lia) hb,?_⟩;have crs:=fO (t1*b2+t2*b1) (b1*b2);generalize (t1*b2+t2*b1)/G (t1*b2+t2*b1) (b1*b2)=x at *
 generalize b1*b2/G (t1*b2+t2*b1) (b1*b2)=y at *
 refine BM (show b1*b2≠0 by lia) ?_
 calc x*M*(b1*b2)=(x*(b1*b2))*M:=by rw [BX,BK M,<- BX]
  _=((t1*b2+t2*b1)*y)*M:=by rw [crs]
  _=((t1*M)*b2+(t2*M)*b1)*y:=by
   rw [AV,Int.add_mul,AV t1,AV t2]
  _=((N1*b1)*b2+(N2*b2)*b1)*y:=by rw [h1.e,h2.e]
  _=(N1+N2)*y*(b1*b2):=by
   rw [AV (N1+N2),Int.add_mul N1,BX N1,BX N2,BK b2 b1]
def Fr.uniq {M t b N t' b':Int}(hM:0<M)(h:Fr M t b N)(h':Fr M t' b' N):t=t'/\b=b':=by
 have c:t'*b=t*b':=by
  refine BM (show M≠0 by lia) ?_
  calc t'*b*M=(t'*M)*b:=by rw [AV]
   _=(N*b')*b:=by rw [h'.e]
   _=(N*b)*b':=by rw [AV]
   _=t*M*b':=by rw [h.e]
   _=t*b'*M:=by rw [AV]
 obtain ⟨e1,e2⟩:=iE h.am.t0 h.am.b1 h'.am c;rw [h.am.g,Int.ediv_one] at e1 e2;exact ⟨e1,e2⟩
def Fr.nonneg {M t b N:Int}(hM:0<M)(h:Fr M t b N):0<=N:=by
 have a1:=h.am.b1;have n1:=Bu h.am.t0 (show 0<=M by lia);rw [h.e] at n1
 by_cases z:0<=N
 ·exact z
 ·have:=Int.mul_neg_of_neg_of_pos (show N<0 by lia) (show 0<b by lia)
  lia
def Fr.dvd {M t b N:Int}(h:Fr M t b N):b∣M:=by
 have d:b∣M*t:=⟨N,by rw [BK M,h.e,BK]⟩;have g:Int.gcd b t=1:=by
  have:=h.am.g;unfold G at this;rw [Int.gcd_comm];lia
 have d':b.natAbs∣M.natAbs*t.natAbs:=by
  rw [<- Int.natAbs_mul];exact Int.natAbs_dvd_natAbs.mpr d
 have c:Nat.Coprime b.natAbs t.natAbs:=g;exact Int.natAbs_dvd_natAbs.mp (c.dvd_of_dvd_mul_right d')
def Fr.nought {M t b N:Int}(hM:0<M)(h:Fr M t b N):N=0↔t=0:=by
 have a1:=h.am.b1;constructor
 ·intro z
  have:=h.e;rw [z,BV] at this
  rcases Fw.mp this with q|q
  ·exact q
  ·lia
 ·intro z
  have:=h.e;rw [z,BV] at this
  rcases Fw.mp this.symm with q|q
  ·exact q
  ·lia
end GM
namespace K53
open L2 GM TM
def top (i:Nat):Stmt:=PySem.Challenge.pw_phialhouse_k53_gathered.main.body.getD i (.Pass ⟨0,0,0,0⟩)
abbrev aFl:Stmt:=top 13
abbrev sGcd:Stmt:=top 14
abbrev sLow:Stmt:=top 15
abbrev aFm:Stmt:=top 16
abbrev aFh:Stmt:=top 17
abbrev xB:Stmt:=top 18
abbrev wW:Stmt:=top 19
abbrev aFk:Stmt:=top 20
abbrev qB:Stmt:=top 24
abbrev gO:Stmt:=top 25
abbrev pS:Stmt:=top 26
abbrev jS:Stmt:=top 27
abbrev pV:Stmt:=top 29
abbrev pR:Stmt:=top 38
abbrev jQ:Stmt:=top 39
abbrev qE:Stmt:=top 40
abbrev nO:Stmt:=top 41
abbrev pW:Stmt:=top 42
abbrev qD:Stmt:=top 44
abbrev pT:Stmt:=top 45
abbrev aFo:Stmt:=top 47
abbrev aFr:Stmt:=top 51
abbrev xA:Stmt:=top 52
abbrev qA:Stmt:=top 53
abbrev sAdd:Stmt:=top 54
abbrev aFg:Stmt:=top 55
abbrev sBy:Stmt:=top 56
abbrev wV:Stmt:=top 57
abbrev xF:Stmt:=top 58
abbrev wZ:Stmt:=top 59
abbrev jR:Stmt:=top 60
abbrev sSum:Stmt:=top 61
abbrev aFn:Stmt:=top 62
abbrev pU:Stmt:=top 63
abbrev xH:Stmt:=top 64
abbrev aFq:Stmt:=top 65
abbrev xG:Stmt:=top 66
abbrev aFj:Stmt:=top 67
abbrev mC:Stmt:=top 68
abbrev sRow:Stmt:=top 69
abbrev qC:Stmt:=top 70
abbrev sEnd:Stmt:=top 71
abbrev sServes:Stmt:=top 72
abbrev sLaw:Stmt:=top 76
structure Txt (mg:Gb):Prop where
 isi:mg "isinstance" = none
 int':mg "int" = none
 bool':mg "bool" = none
 tup':mg "tuple" = none
 str':mg "str" = none
 len:mg "len" = none
 range:mg "range" = none
 min':mg "min" = none
 max':mg "max" = none
 abs':mg "abs" = none
 list':mg "list" = none
 sorted':mg "sorted" = none
 zip':mg "zip" = none
 set':mg "set" = none
 all':mg "all" = none
 enum':mg "enumerate" = none
 val:mg "ValueError" = none
 dict':mg "dict" = none
 rev':mg "reversed" = none
def aE7:Sp:=λvs H Q _=>∃ a b:Int,vs=[.int a,.int b]/\0<=a/\0<=b/\Q (.int (G a b)) H
def nH (K:Ab):Sp:=λvs H Q _=>∃ (a:Gj) (ns:List Int) (k:Int),vs=[.ref a,.int k]/\SqL K H a (ns.map V.int)/\0<=k/\∀ c:Int,Q (.int c) H
structure Wr (x:Str):Prop where
 l1:1<=x.length
 l8:x.length<=8
 lt:∀ c∈cps x,97<=c/\c<=122
instance (x:Str):Decidable (Wr x):=decidable_of_iff ((1<=x.length/\x.length<=8)/\∀ c∈cps x,97<=c/\c<=122) ⟨λh=>⟨h.1.1,h.1.2,h.2⟩,λh=>⟨⟨h.l1,h.l8⟩,h.lt⟩⟩
instance (x:Str):Decidable (Wr x):=decidable_of_iff ((1<=x.length/\x.length<=8)/\∀ c∈cps x,97<=c/\c<=122) ⟨λh=>⟨h.1.1,h.1.2,h.2⟩,λh=>⟨⟨h.l1,h.l8⟩,h.lt⟩⟩
abbrev ltP (p q:Str×Str):Prop:=HT.lexLtS [p.1,p.2] [q.1,q.2]=true
def PsL (K:Ab)(H:Hp)(us:Gq)(ps:Gf):Prop:=us.length=ps.length/\∀ (i:Nat) u p,us[i]?=some u->ps[i]?=some p->∃ q,u=.ref q/\SqT K H q [.str p.1,.str p.2]
def aJ1 (ps:Gf):Prop:=∀ (i:Nat) p q,ps[i]?=some p->ps[i+1]?=some q->ltP p q
section
variable {P:Aw}{w:World}{K:Ab}{mg:Gb}{base:Heap}
def tU {a0 b0 a b:Int}(e:G a b=G a0 b0)(hb:0<=b)(h:¬ b=0):0<=a%b/\G b (a%b)=G a0 b0:=⟨Int.emod_nonneg a h,by rw [aJ3];exact e⟩
def aBz:FnScope ["one","other","rest"] ["one","other"] (aG sGcd):=fnScOk
def aI5 {f:Gj}{fd:Ay}(F:Fun K "common_divisor" "common_divisor" sGcd f fd):FnOk P w K mg base CX0 1 f fd ["one","other"] aE7:=by
 refine F.ok aBz (λvs H Q E h=>?_) (λcdv A outer s H vs Q E hr h=>?_)
 ·obtain ⟨a,b,rfl,_⟩:=h
  rfl
 ·obtain ⟨a,b,rfl,ha,hb,k⟩:=h
  refine ⟨_,aC (sJ AJ (aM yA (pv 1) aH)
   (aC (aK (i:=2) aBz.nd (aP bU (pv 0) (pv 1)))
   (aC (aK (i:=0) aBz.nd (pv 1))
   (aE (aK (i:=1) aBz.nd (pv 2))))))
   (aE (aL (pv 0))),?_⟩
  refine rK (λσ H'=>H'=H/\∃ (x y:Int) (r:Gr),σ=[some (.int x),some (.int y),r]/\0<=x/\0<=y/\G x y=G a b) (λσ _=>match σ with|[_,some (.int y),_]=>y.toNat|_=>0) ⟨rfl,a,b,none,rfl,ha,hb,rfl⟩ ?_ ?_
  ·rintro σ H' ⟨rfl,x,y,r,rfl,hx,hy,e⟩
   refine ⟨_,rfl,rfl,_,rfl,?_⟩;refine ite2 (λhc=>?_) (λhc=>?_)
   ·have hy0:¬ y=0:=by
     intro z;subst z;simp at hc
    have t:=tU e hy hy0;refine ⟨_,rfl,_,rfl,_,_,rfl,rfl,(by show 0<y;lia),_,rfl,_,rfl,⟨rfl,y,x%y,_,rfl,hy,t.1,t.2⟩,?_⟩;have:=Int.emod_lt_of_pos x (show 0<y by lia);have:=t.1;show (x%y).toNat<y.toNat;lia
   ·have hy0:y=0:=by
     by_cases z:y=0
     ·exact z
     ·exfalso
      apply hc
      simp [z]
    subst hy0;rw [aEv hx] at e;exact ⟨_,rfl,by rw [e];exact k⟩
  ·rintro σ H' Q1 Q2 hq ⟨v,e,z,q⟩
   exact ⟨v,e,z,by obtain ⟨k,e,q⟩:=q;exact ⟨k,e,hq _ _ q⟩⟩
def b6 {n:Nat}{x:Int}(h:Bt n x)(hn:n<=1000000:=by decide):Bt 1000000 x:=h.mono hn
def dD (n:Nat){x c:Int}(h0:0<=x)(h:x<c)(hc:c<=((2^n:Nat):Int):=by decide +kernel):Bt n x:=by
 show x.natAbs<2^n;lia
def bY (x:Int){m:Int}(h:0<m):0<=x%m/\x%m<m:=⟨Int.emod_nonneg x (by lia),Int.emod_lt_of_pos x h⟩
def aEr:Cr "int" = some (.type "int"):=by decide +kernel
def aG8:Cr "bool" = some (.type "bool"):=by decide +kernel
def dG:Cr "tuple" = some (.type "tuple"):=by decide +kernel
def aEp:Cr "str" = some (.type "str"):=by decide +kernel
def bl {c:Int}(h0:0<=c:=by decide)(h:c<18446744073709551616:=by decide):Bt 1000000 c:=b6 (dD 64 h0 h)
def bk {c:Int}(h0:0<=c:=by decide)(h:c<18446744073709551616:=by decide):Bt 1000 c:=(dD 64 h0 h).mono
def aIc:FnScope ["_law_script","_law_k"] ["_law_script","_law_k"] (aG aFr):=fnScOk
def aGk {f:Gj}{fd:Ay}(F:Fun K "_law_cell_at" "_law_cell_at" aFr f fd)(T:Txt mg):FnOk P w K mg base CX0 1 f fd ["_law_script","_law_k"] (nH K):=by
 refine F.okA aIc (λcdv A outer s H vs Q E hr h=>?_)
 ·obtain ⟨a,ns,j,rfl,hS,h0,k⟩:=h
  refine ⟨_,(aC (bD (aM yB (pv 1) (aV bA rfl T.len BO (aA (pv 0) aB)))
    (aE (aL (aZ aX (pv 0) (pv 1) (λ_ _=>rfl))))
    aS)
   (aE (aL aH))),?_⟩
  refine ⟨_,rfl,_,rfl,a,_,rfl,.inl hS,_,_,rfl,rfl,_,rfl,ite2 (λhc=>?_) (λ_=>k _)⟩;have hc':j<((ns.map V.int).length:Int):=of_decide_eq_true hc;rw [Ag] at hc';obtain ⟨i,rfl⟩:=BC h0;obtain ⟨c,hc⟩:∃ c,ns[i]?=some c:=⟨_,Ae (show i<ns.length by lia)⟩;exact ⟨_,rfl,_,rfl,a,_,(i:Int),.int c,rfl,rfl,hS,aU (by rw [Aq,hc];rfl),k c⟩
def uG:Cr "abs" = some (.builtin "abs"):=by decide +kernel
theorem lenC (x:Str):x.length=(cps x).length:=by simp [Str.length,cps]
theorem lenA (x y:Str):(x++y).length=x.length+y.length:=by rw [lenC,dR,As,<- lenC,<- lenC]
def eJ {x:Str}{ws:Gh}:inV (.str x) (ws.map V.str)=true↔x∈ws:=by
 unfold inV;rw [List.any_map,List.any_eq_true];constructor
 ·rintro ⟨y,hy,e⟩
  have:y=x:=by simpa [eqV] using e
  exact this▸hy
 ·intro h
  exact ⟨x,h,by simp [eqV]⟩
def fP (ws:Gh):(ws.map V.str).all eC=true:=by
 rw [List.all_map,CT];intro x _;rfl
def uZ {ws:Gh}{x:Str}(h:ws.Nodup)(n:x∉ws):(ws++[x]).Nodup:=by
 rw [List.nodup_append];refine ⟨h,by simp,λy hy z hz e=>?_⟩;rw [Az.mp hz] at e;exact n (e▸hy)
def lM {X:Cx}{scope:Scope}(h:∀ y∈scope.names,y.2=.local\/y.2=.globalImplicit):ClOk X scope []:=by
 refine ⟨closureFor_none λx hx z=>?_,λx c e=>by simp at e,λx e=>?_⟩
 ·rcases h x hx with q|q<;>rw [q] at z<;>cases z
 ·exfalso
  have e':∃ k,(k=CS\/k=Bc)/\(relabel scope X.env).names.lookup x=some k:=by
   rcases e with e|e
   ·exact ⟨_,.inl rfl,e⟩
   ·exact ⟨_,.inr rfl,e⟩
  obtain ⟨k,hk,e⟩:=e';have hm:=De e;obtain ⟨y,hy,hy2⟩:=AK.mp hm;have hl:=h y hy;obtain ⟨n,kk⟩:=y;simp only at hl
  rcases hl with hl|hl<;>subst hl<;>simp at hy2<;>rcases hk with rfl|rfl<;>exact absurd hy2.2 (by decide)
def list_eq {α:Type}{ys l:List α}(hl:ys.length=l.length)(h:∀ (i:Nat) x y,l[i]?=some x->ys[i]?=some y->y=x):ys=l:=by
 refine EJ λi=>?_
 by_cases hi:i<l.length
 ·have e1:=Ae hi
  have e2:ys[i]?=some (ys[i]'(by lia)):=Ae (by lia);rw [e1,e2,h i _ _ e1 e2]
 ·rw [Bs (by lia),Bs (by lia)]
end
end K53
namespace L2
def jn (sep:Str):Gh->Str
 |[x]=>x
 |l=>AE.Str.glued sep l
def rJoin (K:Ab):V->Gq->Hp->VK->Prop:=λz vs H Q=>∃ sep a ss,z=.str sep/\vs=[.ref a]/\SqL K H a (ss.map V.str)/\sep.length<=10/\ss.length<=100/\(∀ x∈ss,x.length<=1000)/\Q (.str (jn sep ss)) H
def aG3 {x:Str}{g:TG}{tb:TS}{D:Ends}{σ:St}{H:Hp}(Pv:Nat->Gs)(h0:Pv 0 σ H)
  (hs:∀ i c σ H,x.cps[i]?=some c->Pv i σ H->g (.str ⟨#[c]⟩) σ H λσ2 H2=>tb { D with nx:=Pv (i+1),ct:=Pv (i+1),bk:=D.nx } σ2 H2) (hd:∀ σ H,Pv x.cps.size σ H->D.nx σ H) :
  ∃ W:Nat->Nat->Gs,(∃ m,W 0 m σ H)/\∀ i m σ H,W i m σ H ->
   ((Its x).stop i H/\D.nx σ H)\/((Its x).go i H/\∃ N:Gs,(∀ σ' H',N σ' H'->∃ m',m'<m/\W (i+1) m' σ' H')/\∀ v H',(Its x).yld i H v H'->g v σ H' λσ2 H2=>tb { D with nx:=N,ct:=N,bk:=D.nx } σ2 H2):=by
 refine ⟨λi m σ H=>m=x.cps.size-i/\i<=x.cps.size/\Pv i σ H,⟨x.cps.size,by simp,BF _,h0⟩,?_⟩
 rintro i m σ H ⟨rfl,hi,p⟩
 by_cases hlt:i<x.cps.size
 ·refine .inr ⟨⟨x.cps[i],FC hlt⟩,Pv (i+1),λσ' H' p'=>⟨x.cps.size-(i+1),by lia,rfl,hlt,p'⟩,λv H' y=>?_⟩
  obtain ⟨e,c,hc,rfl⟩:=y;subst e;exact hs i c σ _ hc p
 ·have e:i=x.cps.size:=by lia
  subst e;exact .inl ⟨Array.getElem?_eq_none (Aj _),hd σ H p⟩
section
variable {X:Cx}
def tx:V->Str
 |.int n=>toString n
 |.str x=>x
 |_=>Str.empty
def TxOk (v:V):Prop:=(∃ n:Nat,v=.int n/\n<10^60)\/∃ x,v=.str x/\x.length<=100
end
end L2
namespace K53
open L2 GM TM
def SmB (a:Gj)(H H':Hp):Prop:=∀ b o,b≠a->H b=some o->H' b=some o
def SmB.refl {a:Gj}{H:Hp}:SmB a H H:=λ_ _ _ h=>h
theorem SmB.trans {a:Gj}{H H1 H2:Hp}(h:SmB a H H1)(k:SmB a H1 H2):SmB a H H2:=λb o n e=>k b o n (h b o n e)
def SmB.of {a:Gj}{H H':Hp}(h:Same H H'):SmB a H H':=λb o _ e=>h b o e
theorem SmB.upd {a:Gj}{H:Hp}{o:HO}:SmB a H (upd H a o):=λb u n e=>by rw [aJ n];exact e
def SmB.own {a p:Gj}{H H':Hp}{o:HO}(h:SmB a H H')(n:H p=none):SmB a H (L2.upd H' p o):=λb u nb e=>by
 have ne:b≠p:=λz=>by rw [z,n] at e;cases e
 rw [aJ ne];exact h b u nb e
theorem SmB.none {a p:Gj}{H H':Hp}(h:SmB a H H')(n:H' p=none)(pa:p≠a):H p=none:=by
 cases e:H p with
 |none=>rfl
 |some o=>
  have:=h p o pa e;rw [n] at this;cases this
def Lf (H:Hp)(a:Gj):Prop:=∃ n:Int,H a=some (.lst [.int n])/\0<=n
def Lf.keep {H H':Hp}{a:Gj}(h:Lf H a)(s:Same H H'):Lf H' a:=by
 obtain ⟨n,e,r⟩:=h;exact ⟨n,s _ _ e,r⟩
def Lf.there {H:Hp}{a b:Gj}(h:Lf H a)(n:H b=none):b≠a:=λz=>by
 obtain ⟨_,e,_⟩:=h;rw [<- z,n] at e;cases e
def Lf.own {H:Hp}{a p:Gj}{o:HO}(h:Lf H a)(n:p≠a):Lf (upd H p o) a:=by
 obtain ⟨m,e,r⟩:=h;exact ⟨m,by rw [aJ (Bi n)];exact e,r⟩
def lX:Sp:=λvs H Q _=>∃ c k:Int,vs=[.int c,.int k]/\0<=k/\k<=1000/\∀ n:Int,0<=n->n<2147483647->Q (.int n) H
def eG:Sp:=λvs H Q _=>∃ t b:Int,vs=[.int t,.int b]/\0<=t/\1<=b/\Bt 9000 b/\∀ p H',Same H H'->H p=none->H' p=some (.tup [.int (t/G t b),.int (b/G t b)])->Q (.ref p) H'
def lY:Sp:=λvs H Q _=>∃ (a:Gj) (m:Int),vs=[.ref a,.int m]/\Lf H a/\1<=m/\Bt 9000 m/\∀ (d:Int) H',0<=d->d<m->SmB a H H'->Lf H' a->Q (.int d) H'
def wM:Sp:=λvs H Q _=>∃ a:Gj,vs=[.ref a]/\Lf H a/\∀ (ws:Gh) p H',ws.length=6->ws.Nodup->(∀ x∈ws,Wr x)->SmB a H H'->H p=none->p≠a->H' p=some (.lst (ws.map V.str))->Q (.ref p) H'
structure Rm (t b:Int):Prop where
 t1:1<=t
 b1:1<=b
 g:G t b=1
 st:Bt 100 t
 sb:Bt 100 b
def aDn:Sp:=λvs H Q _=>∃ n:Int,vs=[.int n]/\0<=n/\n<2147483647/\∀ t b p H',Rm t b->t<=12/\b<=12->Same H H'->H p=none->H' p=some (.tup [.int t,.int b])->Q (.ref p) H'
def tJ {t b:Int}(h0:1<=t)(h1:1<=b)(ht:Bt 100 t)(hb:Bt 100 b):Rm (t/G t b) (b/G t b):=by
 have a:=iF (t:=t) (b:=b) (by lia) h1;have g:=rH (a:=t) (b:=b) (by lia);have l:=Int.le_of_dvd (by lia) (aBf t b);refine ⟨(Int.le_ediv_iff_mul_le g).mpr (by lia),(Int.le_ediv_iff_mul_le g).mpr (by have:=aBe (a:=t) (b:=b) (by lia);lia),a.3,ht.le a.1 (Ci _ (by lia)),hb.le (by have:=a.2;lia) (Ci _ (by lia))⟩
def oE {t b:Int}(h1:1<=b)(hs:Bt 9000 b):0<G t b/\Bt 9000 (G t b):=by
 have p:=rH (a:=t) (b:=b) (by lia);exact ⟨p,hs.le (by lia) (aBe (by lia))⟩
def b9 {c:Int}(h0:0<=c:=by decide)(h:c<18446744073709551616:=by decide):Bt 9000 c:=(dD 64 h0 h).mono
def e18:(10:Int)^Int.toNat 18=1000000000000000000:=by decide +kernel
section
variable {P:Aw}{w:World}{K:Ab}{mg:Gb}{base:Heap}
def aFd:FnScope ["_law_cell","_law_k"] ["_law_cell","_law_k"] (aG xA):=fnScOk
def aCl {f:Gj}{fd:Ay}(F:Fun K "_law_mixed" "_law_mixed" xA f fd):FnOk P w K mg base CX0 1 f fd ["_law_cell","_law_k"] lX:=by
 refine F.okA aFd (λcdv A outer s H vs Q E hr h=>?_)
 ·obtain ⟨c,k,rfl,k0,k1,q⟩:=h
  refine ⟨_,aE (aL (aP bU (aP bJ (aP bL (aP bL (aP bU (pv 0) aH) (aP bJ (pv 1) (pv 1))) aH) aH) aH)),?_⟩;have c1:=bY c (m:=1000003) (by decide);have bk1:Bt 32 k:=dD 32 (c:=1001) k0 (by lia);have b3:Bt 66 (c%1000003+k*k+1):=((dD 64 (c:=1000003) c1.1 c1.2).add (bk1.mul bk1)).add (dD 65 (x:=1) (c:=2) (by decide) (by decide));refine ⟨_,rfl,_,_,rfl,rfl,(by show (0:Int)<1000003;decide),_,rfl,_,rfl,_,_,rfl,rfl,⟨b6 bk1,b6 bk1⟩,_,_,rfl,rfl,_,_,rfl,rfl,_,_,rfl,rfl,⟨b6 b3,bl⟩,_,_,rfl,rfl,(by show (0:Int)<2147483647;decide),?_⟩;have e:=bY ((c%1000003+k*k+1)*48271) (m:=2147483647) (by decide);exact q _ e.1 e.2
def iW:FnScope ["_law_top","_law_bottom","_law_one","_law_other"] ["_law_top","_law_bottom"] (aG qA):=fnScOk
def yO {f:Gj}{fd:Ay}(F:Fun K "_law_lowest" "_law_lowest" qA f fd):FnOk P w K mg base CX0 1 f fd ["_law_top","_law_bottom"] eG:=by
 refine F.ok iW (λvs H Q E h=>?_) (λcdv A outer s H vs Q E hr h=>?_)
 ·obtain ⟨a,b,rfl,_⟩:=h
  rfl
 ·obtain ⟨a,b,rfl,ha,hb,bb,k⟩:=h
  refine ⟨_,(aC (aK (i:=2) iW.nd (pv 0))
   (aC (aK (i:=3) iW.nd (pv 1))
   (aC (sJ AJ (aM aIx (pv 3) aH)
   (aE (aIp (i:=2) (j:=3) rfl iW.nd rfl rfl (by decide) rfl rfl (aA (pv 3) (aA (aP bU (pv 2) (pv 3)) aB)) rfl)))
   (aE (aL (aT (aA (aP bK (pv 0) (pv 2)) (aA (aP bK (pv 1) (pv 2)) aB)))))))),?_⟩
  refine ⟨_,rfl,_,rfl,?_⟩;refine rK (λσ H'=>H'=H/\∃ (x y:Int),σ=[some (.int a),some (.int b),some (.int x),some (.int y)]/\0<=x/\0<=y/\G x y=G a b) (λσ _=>match σ with|[_,_,_,some (.int y)]=>y.toNat|_=>0) ⟨rfl,a,b,rfl,ha,by lia,rfl⟩ ?_ ?_
  ·rintro σ H' ⟨rfl,x,y,rfl,hx,hy,e⟩
   refine ⟨_,rfl,_,_,rfl,rfl,_,rfl,?_⟩;refine ite2 (λhc=>?_) (λhc=>?_)
   ·have hy0:0<y:=of_decide_eq_true hc
    have t:=tU e hy (by lia);refine ⟨_,rfl,_,rfl,_,rfl,_,_,rfl,rfl,(by show 0<y;lia),_,_,rfl,⟨rfl,y,x%y,rfl,hy,t.1,t.2⟩,?_⟩;have:=Int.emod_lt_of_pos x (show 0<y by lia);have:=t.1;show (x%y).toNat<y.toNat;lia
   ·have hy0:y=0:=by
     have:¬ 0<y:=λz=>hc (decide_eq_true z);lia
    subst hy0;rw [aEv hx] at e;subst e;have g:=oE (t:=a) hb bb;refine ⟨_,rfl,_,rfl,_,_,rfl,rfl,g,_,rfl,_,rfl,_,_,rfl,rfl,g,zLn2,λp hp=>?_⟩;exact k p _ (Gu hp) hp aD
  ·rintro σ H' Q1 Q2 hq ⟨v,e,i,j,e1,e2,z,ez,q⟩
   exact ⟨v,e,i,j,e1,e2,z,ez,hq _ _ q⟩
def wU:FnScope ["_law_left","_law_many","_law_found"] ["_law_left","_law_many"] (aG xF):=fnScOk
def aCs {f:Gj}{fd:Ay}(F:Fun K "_law_digit" "_law_digit" xF f fd):FnOk P w K mg base CX0 1 f fd ["_law_left","_law_many"] lY:=by
 refine F.okA wU (λcdv A outer s H vs Q E hr h=>?_)
 ·obtain ⟨a,m,rfl,⟨n,ha,n0⟩,m1,bm,k⟩:=h
  refine ⟨_,(aC (aK (i:=2) wU.nd (aP bU (aZ aX (pv 0) aH (λ_ _=>rfl)) (pv 1)))
   (aC (fK (aP bK (aZ aX (pv 0) aH (λ_ _=>rfl)) (pv 1)) (jZ (pv 0) aH set_list))
   (aE (aL (pv 2))))),?_⟩
  refine ⟨_,rfl,a,_,0,.int n,rfl,rfl,Gw ha,aU (j:=0) rfl,_,rfl,_,_,rfl,rfl,(by show 0<m;lia),?_⟩;refine ⟨_,rfl,a,_,0,.int n,rfl,rfl,Gw ha,aU (j:=0) rfl,_,rfl,_,_,rfl,rfl,⟨by lia,bm⟩,_,rfl,a,_,0,0,rfl,rfl,ha,rfl,?_⟩;have e:=bY n (show (0:Int)<m by lia);exact ⟨_,rfl,k _ _ e.1 e.2 SmB.upd ⟨_,aD,Int.ediv_nonneg n0 (by lia)⟩⟩
def aKm:FnScope ["_law_number"] ["_law_number"] (aG aFj):=fnScOk
def aI6 {f:Gj}{fd:Ay}(F:Fun K "_law_few" "_law_few" aFj f fd)(cL:Cal P w K mg base CX0 1 "_law_lowest" ["_law_top","_law_bottom"] eG):FnOk P w K mg base CX0 2 f fd ["_law_number"] aDn:=by
 refine F.okA aKm (λcdv A outer s H vs Q E hr h=>?_)
 ·obtain ⟨n,rfl,n0,nl,k⟩:=h
  refine ⟨_,aE (aL (aI cL hr (aA (aP bL aH (aP bU (pv 0) aH)) (aA (aP bL aH (aP bU (aP bK (pv 0) aH) aH)) aB)))),?_⟩;have e1:=bY n (m:=12) (by decide);have e2:=bY (n/12) (m:=4) (by decide);refine ⟨_,rfl,_,_,rfl,rfl,(by show (0:Int)<12;decide),_,_,rfl,rfl,_,rfl,_,_,rfl,rfl,⟨by decide,b9⟩,_,_,rfl,rfl,(by show (0:Int)<4;decide),_,_,rfl,rfl,?_⟩;exact ⟨_,_,rfl,by lia,by lia,b9 (by lia) (by lia),λp H' sm np hp=>k _ _ p H' (tJ (by lia) (by lia) (dD 100 (c:=2000000000000000000) (by lia) (by lia)) (dD 100 (c:=2000000000000000000) (by lia) (by lia))) ⟨Ez (Ci _ (by lia)) (by lia),Ez (Ci _ (by lia)) (by lia)⟩ sm np hp⟩
end
def one (c:Nat):Str:=⟨#[c]⟩
theorem mW (c:Nat):cps (one c)=[c]:=rfl
def aHe {c:Nat}(h:97<=c/\c<=122):Wr (one c):=⟨(by show 1<=1;decide),(by show 1<=8;decide),λx hx=>by
 rw [mW] at hx;rw [Az.mp hx];exact h⟩
def one_inj {c d:Nat}(e:one c=one d):c=d:=by
 have:=congrArg cps e;rw [mW,mW] at this;exact (List.cons.inj this).1
def wL:Sp:=λvs H Q _=>∃ c:Int,vs=[.int c]/\∀ (ws:Gh) p H',ws.length=6->ws.Nodup->(∀ x∈ws,Wr x)->Same H H'->H p=none->H' p=some (.lst (ws.map V.str))->Q (.ref p) H'
section
variable {P:Aw}{w:World}{K:Ab}{mg:Gb}{base:Heap}
def eP:FnScope ["_law_left","_law_letters","_law_found","_law_k","_law_word","_law_j","_law_tail"] ["_law_left"] (aG wZ):=fnScOk
def aCj {f:Gj}{fd:Ay}(F:Fun K "_law_names" "_law_names" wZ f fd)(T:Txt mg)(cD:Cal P w K mg base CX0 1 "_law_digit" ["_law_left","_law_many"] lY):FnOk P w K mg base CX0 2 f fd ["_law_left"] wM:=by
 refine F.okA eP (λcdv A outer s H vs Q E hr h=>?_)
 ·obtain ⟨a,rfl,lf,k⟩:=h
  refine ⟨_,(aC (aK (i:=1) eP.nd aR)
   (aC (aK (i:=2) eP.nd (cZ aB))
   (aC (bR AJ rfl (cY rfl T.range (aA aH aB)) (aQ (i:=3) eP.nd)
    (aC (aK (i:=4) eP.nd aR)
    (aC (bR AJ rfl (cY rfl T.range (aA (aP bL aH (aI cD hr (aA (pv 0) (aA aH aB)))) aB)) (aQ (i:=5) eP.nd)
     (aE (aK (i:=4) eP.nd (aP fR (pv 4) (aZ zN (pv 1) (aI cD hr (aA (pv 0) (aA aH aB))) (λ_ _=>rfl))))))
    (aC (bR AJ rfl (aDz (pv 1)) (aQ (i:=6) eP.nd)
     (aE (bD (aM eK (pv 4) (pv 2) rfl) (aE (aK (i:=4) eP.nd (pv 6))) aS)))
    (aE (cV (iP Bk Bb Ba bO (pv 2) (aA (pv 4) aB))))))))
   (aE (aL (pv 2)))))),?_⟩
  have zL:LET.length<=Av:=by decide +kernel
  refine ⟨zLn0,λp hp=>?_⟩;have pa:p≠a:=lf.there hp;refine ⟨6,rfl,by decide,by decide,?_⟩;refine eB (λi σ H'=>∃ (ws:Gh) (v3 v4 v5 v6:Gr),σ=[some (.ref a),some (.str LET),some (.ref p),v3,v4,v5,v6]/\ws.length=i/\ws.Nodup/\(∀ x∈ws,Wr x)/\SmB a H H'/\Lf H' a/\H' p=some (.lst (ws.map V.str)))
   ⟨[],none,none,none,none,rfl,rfl,Ej,(λ_ h=>nomatch h),SmB.refl.own hp,lf.own pa,aD⟩ ?_ ?_
  ·rintro i σ H2 hi ⟨ws,v3,v4,v5,v6,rfl,wl,nd,wr,s2,lf2,hp2⟩
   have hi6:i<6:=hi;refine ⟨_,rfl,a,8,rfl,lf2,by decide,b9,λe H3 e0 el s3 lf3=>⟨_,_,rfl,rfl,1+e,rfl,by lia,by lia,?_⟩⟩;refine eB (λj σ H'=>∃ (x:Str) (v5:Gr),σ=[some (.ref a),some (.str LET),some (.ref p),some (.int (0+i)),some (.str x),v5,v6]/\x.length=j/\(∀ c∈cps x,97<=c/\c<=122)/\SmB a H H'/\Lf H' a/\H' p=some (.lst (ws.map V.str)))
    ⟨"",v5,rfl,rfl,(λ_ h=>nomatch h),s2.trans s3,lf3,s3 _ _ pa hp2⟩ ?_ ?_
   ·rintro j σ H4 hj ⟨x,u5,rfl,xl,xc,s4,lf4,hp4⟩
    refine ⟨_,rfl,_,rfl,_,rfl,a,26,rfl,lf4,by decide,b9,λg H5 g0 gl s5 lf5=>?_⟩;obtain ⟨gn,rfl⟩:=BC g0;have lx:x.length<=8:=by lia
    refine ⟨LET,(gn:Int),97+gn,rfl,rfl,zL,aU (uI (by lia)),_,_,rfl,rfl,bP (by show x.length+1<=1000;lia),?_⟩;refine ⟨_,_,rfl,?_,λc hc=>?_,s4.trans s5,lf5,s5 _ _ pa hp4⟩
    ·rw [lenA,xl]
     rfl
    ·rw [dR] at hc
     rcases Bm.mp hc with h|h
     ·exact xc c h
     ·have:c=97+gn:=by simpa [cps] using h
      lia
   ·rintro σ H4 ⟨x,u5,rfl,xl,xc,s4,lf4,hp4⟩
    have wx:Wr x:=⟨by lia,by lia,xc⟩;refine ⟨_,rfl,LET,rfl,?_⟩;refine aG3 (λj σ H'=>∃ (y:Str) (v6:Gr),σ=[some (.ref a),some (.str LET),some (.ref p),some (.int (0+i)),some (.str y),u5,v6]/\H'=H4/\Wr y/\(y∉ws\/j=0\/∃ q,j=q+1/\y=one (97+q)/\∀ r,r<q->one (97+r)∈ws)) ⟨x,v6,rfl,rfl,wx,.inr (.inl rfl)⟩ ?_ ?_
    ·rintro j c σ H5 hc ⟨y,v6',rfl,rfl,wy,inv⟩
     have hj:j<26:=by
      have:=(CB.mp hc).1;exact this
     have ec:c=97+j:=by
      have h1:=uI hj;have h2:(cps LET)[j]?=some c:=by simpa [cps] using hc
      rw [h1] at h2;exact (AA h2).symm
     subst ec;refine ⟨_,rfl,_,rfl,p,_,rfl,.inl (Gw hp4),rfl,fP ws,_,rfl,ite2 (λhin=>?_) (λhno=>?_)⟩
     ·have hin':y∈ws:=eJ.mp hin
      refine ⟨_,rfl,one (97+j),_,rfl,rfl,aHe (by lia),.inr (.inr ⟨j,rfl,rfl,λr hr=>?_⟩)⟩
      rcases inv with h|h|⟨q,e,ey,h⟩
      ·exact absurd hin' h
      ·lia
      ·by_cases z:r=q
       ·rw [z,<- ey]
        exact hin'
       ·exact h r (by lia)
     ·exact ⟨y,_,rfl,rfl,wy,.inl λz=>hno (eJ.mpr z)⟩
    ·rintro σ H5 ⟨y,v6',rfl,rfl,wy,inv⟩
     have ny:y∉ws:=by
      rcases inv with h|h|⟨q,e,ey,h⟩
      ·exact h
      ·exact absurd h (by decide)
      ·exfalso
       have q25:q=25:=by
        have:LET.cps.size=26:=by decide +kernel
        lia
       have:=aIq (λr=>one (97+r)) 25 ws (λr hr=>h r (by lia)) (λr1 r2 _ _ e=>by have:=one_inj e;lia);lia
     refine ⟨_,rfl,.inl ⟨rfl,_,Gw hp4⟩,_,rfl,p,_,_,rfl,rfl,hp4,bQ (by rw [Ag];lia),?_⟩;refine ⟨ws++[y],_,_,_,_,rfl,by rw [As,wl];rfl,uZ nd ny,λz hz=>?_,s4.own hp,lf4.own pa,by rw [AW];exact aD⟩
     rcases Bm.mp hz with h|h
     ·exact wr z h
     ·rw [Az.mp h]
      exact wy
  ·rintro σ H2 ⟨ws,v3,v4,v5,v6,rfl,wl,nd,wr,s2,lf2,hp2⟩
   exact ⟨_,rfl,k ws p H2 wl nd wr s2 hp pa hp2⟩
def ndW1:(["_law_tail","_law_word"]:Gh).Nodup:=by decide +kernel
def ndW2:(["_law_k","_law_word","_law_letters","_law_number"]:Gh).Nodup:=by decide +kernel
abbrev lT:Gh:=["","a","aa","ab","b","ba"]
def aG7 {x y:Str}(h:cps x=cps y):x=y:=by
 obtain ⟨⟨x⟩⟩:=x;obtain ⟨⟨y⟩⟩:=y;simp [cps] at h;rw [h]
def aA9 {x y z:Str}(h:x++y=x++z):y=z:=by
 have:=congrArg cps h;rw [dR,dR] at this;exact aG7 (List.append_cancel_left this)
def aDi {x y:Str}(l1:1<=x.length)(l:x.length+y.length<=8)(hx:∀ c∈cps x,97<=c/\c<=122)(hy:∀ c∈cps y,97<=c/\c<=122):Wr (x++y):=by
 refine ⟨by rw [lenA];lia,by rw [lenA];exact l,λc hc=>?_⟩;rw [dR] at hc
 rcases Bm.mp hc with h|h
 ·exact hx c h
 ·exact hy c h
def rO:∀ t∈lT,t.length<=2/\∀ c∈cps t,97<=c/\c<=122:=by decide +kernel
def aBm:lT.Nodup:=by decide +kernel
def wG {ys:Gq}{ws:Gh}(hl:ys.length=ws.length)(h:∀ (i:Nat) y b,ys[i]?=some y->ws[i]?=some b->y=.str b):ys=ws.map V.str:=by
 refine list_eq (by rw [Ag];exact hl) λi x y hx hy=>?_;rw [Aq] at hx;cases e:ws[i]? with
 |none=>rw [e] at hx;cases hx
 |some b=>
  rw [e] at hx;cases hx;exact h i y b hy e
theorem kN {α β:Type}{f:α->β}:∀ {l:List α},(∀ x∈l,∀ y∈l,f x=f y->x=y)->l.Nodup->(l.map f).Nodup
 |[],_,_=>Ej
 |x::r,h,n=>by
  rw [Ca] at n;rw [Ak,Ca];refine ⟨λz=>?_,kN (λa ha b hb=>h a (Ah _ ha) b (Ah _ hb)) n.2⟩;obtain ⟨y,hy,e⟩:=AK.mp z;have:=h y (Ah _ hy) x (Al ..) e;rw [this] at hy;exact n.1 hy
def iB:FnScope ["_law_cell","_law_letters","_law_number","_law_word","_law_k"] ["_law_cell"] (aG jR):=fnScOk
def aCc {f:Gj}{fd:Ay}(F:Fun K "_law_wares" "_law_wares" jR f fd)(T:Txt mg)(cN:Cal P w K mg base CX0 2 "_law_names" ["_law_left"] wM)(cM:Cal P w K mg base CX0 2 "_law_mixed" ["_law_cell","_law_k"] lX):FnOk P w K mg base CX0 3 f fd ["_law_cell"] wL:=by
 refine F.okA iB (λcdv A outer s H vs Q E hr h=>?_)
 ·obtain ⟨c,rfl,k⟩:=h
  refine ⟨_,(aC (aK (i:=1) iB.nd aR)
   (aC (bD (aM cJ (aP bU (pv 0) aH) aH)
    (aE (aL (aI cN hr (aA (cZ (aA (aP bK (aV jH rfl T.abs' uG (aA (pv 0) aB)) aH) aB)) aB))))
    aS)
   (aC (aK (i:=2) iB.nd (aI cM hr (aA (pv 0) (aA aH aB))))
   (aC (aK (i:=3) iB.nd aR)
   (aC (bR AJ rfl (cY rfl T.range (aA (aP bL aH (aP bU (pv 2) aH)) aB)) (aQ (i:=4) iB.nd)
    (aE (aK (i:=3) iB.nd (aP fR (pv 3) (aZ zN (pv 1) (aP bU (aP bK (aI cM hr (aA (pv 0) (aA (aP bL (pv 4) aH) aB))) aH) aH) (λ_ _=>rfl))))))
   (aC (bD (aM cJ (aP bU (aP bK (pv 2) aH) aH) aH)
    (aE (aL (iY (N':=["_law_tail","_law_word"]) (λσ=>[none,some 3].map λt=>t.bind λj=>(σ[j]?).join) rfl rfl (by decide +kernel) (by decide +kernel)
     (vG (sc:=aG jR) rfl (by decide +kernel)) (λ_ _ _=>iK (sc:=aG jR) (N:=["_law_cell","_law_letters","_law_number","_law_word","_law_k"]) [none,some 3] rfl rfl rfl rfl (by decide +kernel))
     (iL (aT (aA aR (aA aR (aA aR (aA aR (aA aR (aA aR aB)))))))) (λ_ _ _ _ _ _=>aQ (i:=0) ndW1) (λ_ _ _ _ _ _=>eR)
     (λ_ _ _ _ _ _=>aP fR (pv 1) (pv 0)))))
    aS)
   (aE (aL (iY (N':=["_law_k","_law_word","_law_letters","_law_number"]) (λσ=>[none,some 3,some 1,some 2].map λt=>t.bind λj=>(σ[j]?).join) rfl rfl (by decide +kernel) (by decide +kernel)
     (vG (sc:=aG jR) rfl (by decide +kernel)) (λ_ _ _=>iK (sc:=aG jR) (N:=["_law_cell","_law_letters","_law_number","_law_word","_law_k"]) [none,some 3,some 1,some 2] rfl rfl rfl rfl (by decide +kernel))
     (cY rfl T.range (aA aH aB)) (λ_ _ _ _ _ _=>aQ (i:=0) ndW2) (λ_ _ _ _ _ _=>eR)
     (λ_ _ _ _ _ _=>aP fR (pv 1) (aZ zN (pv 2) (aP bU (aP bL (aP bK (pv 3) aH) (aP bJ aH (pv 0))) aH) (λ_ _=>rfl)))))))))))),?_⟩
  have zL:LET.length<=Av:=by decide +kernel
  refine ⟨_,rfl,_,_,rfl,rfl,(by show (0:Int)<2;decide),rfl,_,rfl,ite2 (λ_=>?_) (λ_=>?_)⟩
  ·refine ⟨_,rfl,c,rfl,?_⟩
   have ha:0<=(if c<0 then -c else c):=by split<;>lia
   generalize (if c<0 then -c else c)=n at *
   refine ⟨_,_,rfl,rfl,⟨by decide,b9⟩,zLn1,λz hz=>⟨z,rfl,⟨_,aD,Int.ediv_nonneg ha (by decide)⟩,λws p H' wl nd wr sm hp pz hp'=>?_⟩⟩;have hpn:H p=none:=by
    cases e:H p with
    |none=>rfl
    |some o=>
     have:=Gu (o:=.lst [.int (n/2)]) hz _ _ e;rw [hp] at this;cases this
   exact k ws p H' wl nd wr (λb o e=>sm b o (λq=>by rw [q,hz] at e;cases e) (Gu hz _ _ e)) hpn hp'
  refine ⟨_,rfl,c,0,rfl,by decide,by decide,λn n0 nl=>?_⟩;have e5:=bY n (m:=5) (by decide);refine ⟨_,rfl,_,_,rfl,rfl,(by show (0:Int)<5;decide),_,_,rfl,rfl,_,rfl,by lia,by lia,?_⟩;refine eB (λi σ H'=>∃ (x:Str) (v4:Gr),σ=[some (.int c),some (.str LET),some (.int n),some (.str x),v4]/\x.length=i/\(∀ d∈cps x,97<=d/\d<=122)/\H'=H) ⟨"",none,rfl,rfl,(λ_ h=>nomatch h),rfl⟩ ?_ ?_
  ·rintro i σ H' hi ⟨x,v4,rfl,xl,xc,rfl⟩
   refine ⟨_,rfl,_,rfl,_,rfl,_,rfl,_,_,rfl,rfl,c,_,rfl,by lia,by lia,λm m0 ml=>?_⟩;have e:=bY (m/64) (m:=26) (by decide);obtain ⟨gn,hg⟩:=BC e.1;refine ⟨_,_,rfl,rfl,⟨by decide,b9⟩,_,_,rfl,rfl,(by show (0:Int)<26;decide),LET,_,97+gn,rfl,rfl,zL,(by rw [hg];exact aU (uI (by lia))),_,_,rfl,rfl,bP (by show x.length+1<=1000;lia),?_⟩;refine ⟨_,_,rfl,?_,λd hd=>?_,rfl⟩
   ·rw [lenA,xl]
    rfl
   ·rw [dR] at hd
    rcases Bm.mp hd with h|h
    ·exact xc d h
    ·have:d=97+gn:=by simpa [cps] using h
     lia
  ·rintro σ H' ⟨x,v4,rfl,xl,xc,rfl⟩
   have xl1:1<=x.length:=by lia
   have xl5:x.length<=5:=by lia
   refine ⟨_,rfl,_,_,rfl,rfl,⟨by decide,b9⟩,_,_,rfl,rfl,(by show (0:Int)<2;decide),rfl,_,rfl,ite2 (λ_=>?_) (λ_=>?_)⟩
   ·refine ⟨zLn6,λq hq=>⟨q,rfl,⟨_,Gv aD⟩,λD hD=>?_⟩⟩
    refine hJ (Ys.tup (xs:=lT.map V.str) (Gv aD)) (λi _ y _=>∀ t,lT[i]?=some t->y=.str (x++t)) (λ_ _ _ _ _ h _=>h) hD (by decide) (λi y H2 R hy sm hR=>?_) (λys H2 sm hD' yl hy=>?_)
    ·rw [Aq] at hy
     cases et:lT[i]? with
     |none=>rw [et] at hy;cases hy
     |some t=>
      rw [et] at hy;cases hy;have:=(rO t (Ao et)).1;refine ⟨(Keep.refl _).set rfl,_,rfl,_,rfl,_,_,rfl,rfl,bP (by lia),hR _ _ (Same.refl _) λt' e'=>?_⟩;rw [et] at e';cases e';rfl
    ·have ey:=wG (ws:=lT.map λt=>x++t) (yl.trans (by rfl)) λi y b h1 h2=>by
      rw [Aq] at h2;cases et:lT[i]? with
      |none=>rw [et] at h2;cases h2
      |some t=>
       rw [et] at h2;cases h2;exact hy i (.str t) y (by rw [Aq,et];rfl) h1 t et
     subst ey;refine k _ D H2 rfl (kN (λa _ b _ e=>aA9 e) aBm) (λz hz=>?_) ((Gu hq).trans sm) ?_ hD'
     ·obtain ⟨t,ht,rfl⟩:=AK.mp hz
      have tt:=rO t ht;exact aDi xl1 (by lia) xc tt.2
     ·cases e:H' D with
      |none=>rfl
      |some o=>
       have h9:upd H' q (.tup (lT.map V.str)) D=none:=hD;have:=Gu (o:=.tup (lT.map V.str)) hq _ _ e;rw [h9] at this;cases this
   ·refine ⟨6,rfl,by decide,by decide,λD hD=>?_⟩
    refine hJ (Ys.rng (lo:=0) (n:=6)) (λi _ y _=>y=.str (x++one (97+((n/10+3*((0:Int)+i))%26).toNat))) (λ_ _ _ _ _ h _=>h) hD (by decide) (λi y H2 R hy sm hR=>?_) (λys H2 sm hD' yl hy=>?_)
    ·obtain ⟨hi,rfl⟩:=aB4 hy
     have e:=bY (n/10+3*((0:Int)+i)) (m:=26) (by decide);have bi:Bt 64 ((0:Int)+i):=dD 64 (c:=100) (by lia) (by lia);obtain ⟨gn,hg⟩:=BC e.1;refine ⟨(Keep.refl _).set rfl,_,rfl,_,rfl,_,rfl,_,_,rfl,rfl,⟨by decide,b9⟩,_,rfl,_,_,rfl,rfl,⟨bl,b6 bi⟩,_,_,rfl,rfl,_,_,rfl,rfl,(by show (0:Int)<26;decide),LET,_,97+gn,rfl,rfl,zL,(by rw [hg];exact aU (uI (by lia))),_,_,rfl,rfl,bP (by show x.length+1<=1000;lia),hR _ _ (Same.refl _) ?_⟩;rw [hg];rfl
    ·have ey:=wG (ws:=(Bf 6).map λi=>x++one (97+((n/10+3*((0:Int)+(i:Nat)))%26).toNat)) (yl.trans (by rfl)) λi y b h1 h2=>by
      rw [Aq] at h2;cases et:(Bf 6)[i]? with
      |none=>rw [et] at h2;cases h2
      |some t=>
       rw [et] at h2;cases h2;have ti:i=t:=by
        obtain ⟨hl,e⟩:=Ac.mp et
        simpa using e
       subst ti;obtain ⟨v,hv⟩:∃ v,(rngV 0 6)[i]?=some v:=⟨_,Ae (by rw [gP];have:=(Ac.mp et).1;simpa using this)⟩;exact hy i v y hv h1
     subst ey;refine k _ D H2 rfl (kN (λa ha b hb e=>?_) List.nodup_range) (λz hz=>?_) sm hD hD'
     ·have h1:=one_inj (aA9 e)
      have ha':=CL.mp ha;have hb':=CL.mp hb;lia
     ·obtain ⟨t,ht,rfl⟩:=AK.mp hz
      have e:=bY (n/10+3*((0:Int)+(t:Nat))) (m:=26) (by decide);refine aDi xl1 (by show x.length+1<=8;lia) xc (λd hd=>?_);rw [mW] at hd;rw [Az.mp hd];lia
end
def jL:∀ {ss:Gh},sortedS ss=true->ss.Pairwise (λa b=>a.cps.toList<=b.cps.toList)
 |[],_=>.nil
 |x::r,h=>by
  have key:∀ (r:Gh) (x:Str),risingS x r=true->(∀ y∈r,x.cps.toList<=y.cps.toList)/\r.Pairwise (λa b=>a.cps.toList<=b.cps.toList):=by
   intro r
   induction r with
   |nil=>intro x _;exact ⟨(λ_ h=>nomatch h),.nil⟩
   |cons y r ih=>
    intro x hx;have hx':(!ltCps y.cps.toList x.cps.toList&&risingS y r)=true:=hx;simp only [Cf,Bool.not_eq_true'] at hx';obtain ⟨h1,h2⟩:=hx';rw [ltCps_eq] at h1;have le:x.cps.toList<=y.cps.toList:=List.not_lt.mp (of_decide_eq_false h1);obtain ⟨i1,i2⟩:=ih y h2;refine ⟨λz hz=>?_,.cons i1 i2⟩
    rcases AB.mp hz with rfl|hz
    ·exact le
    ·exact List.le_trans le (i1 z hz)
  obtain ⟨k1,k2⟩:=key r x h;exact .cons k1 k2
abbrev ltS (a b:Str):Prop:=a.cps.toList<b.cps.toList
structure Six (ss:Gh):Prop where
 l:ss.length=6
 up:ss.Pairwise ltS
 wr:∀ x∈ss,Wr x
structure Six0 (ss:Gh):Prop where
 l:ss.length=6
 nd:ss.Nodup
 wr:∀ x∈ss,Wr x
def aHw {x y:Str}(h:x.cps.toList=y.cps.toList):x=y:=by
 obtain ⟨x⟩:=x;obtain ⟨y⟩:=y;exact congrArg Str.mk (Array.toList_inj.mp h)
def Six.of {ws ss:Gh}(h:Six0 ws)(p:ss.Perm ws)(s:sortedS ss=true):Six ss:=by
 refine ⟨p.length_eq.trans h.l,?_,λx hx=>h.wr x (p.mem_iff.mp hx)⟩;have n:ss.Nodup:=p.nodup_iff.mpr h.nd;refine (List.pairwise_and_iff.mpr ⟨jL s,n⟩).imp λ{a b} hab=>?_
 rcases List.le_iff_lt_or_eq.mp hab.1 with q|q
 ·exact q
 ·exact absurd (aHw q) hab.2
def prS (ss:Gh)(q:Nat×Nat):Str×Str:=(ss.getD q.1 "",ss.getD q.2 "")
structure Qs (qs:List (Nat×Nat))(j k:Nat):Prop where
 pw:qs.Pairwise λq r=>q.1<r.1\/(q.1=r.1/\q.2<r.2)
 rg:∀ q∈qs,q.1<q.2/\q.2<6/\(q.1<j\/(q.1=j/\q.2<k))
theorem Qs.add {qs:List (Nat×Nat)}{j k:Nat}(h:Qs qs j k)(jk:j<k)(k6:k<6):Qs (qs++[(j,k)]) j (k+1):=by
 refine ⟨List.pairwise_append.mpr ⟨h.pw,List.pairwise_singleton _ _,λq hq r hr=>?_⟩,λq hq=>?_⟩
 ·rw [Az.mp hr]
  exact (h.rg q hq).2.2
 ·rcases Bm.mp hq with z|z
  ·have:=h.rg q z
   lia
  ·rw [Az.mp z]
   exact ⟨jk,k6,.inr ⟨rfl,Cg _⟩⟩
def Qs.more {qs:List (Nat×Nat)}{j k:Nat}(h:Qs qs j k):Qs qs j (k+1):=⟨h.pw,λq hq=>by have:=h.rg q hq;lia⟩
def Qs.next {qs:List (Nat×Nat)}{j k m:Nat}(h:Qs qs j k):Qs qs (j+1) m:=⟨h.pw,λq hq=>by have:=h.rg q hq;lia⟩
def Qs.nil:Qs [] 0 m:=⟨.nil,λq hq=>nomatch hq⟩
structure GoodPs (ps:Gf):Prop where
 l:ps.length<=25
 r:aJ1 ps
 ok:∀ p∈ps,Wr p.1/\Wr p.2/\ltS p.1 p.2
theorem Six.get {ss:Gh}(h:Six ss){i:Nat}(hi:i<6):ss[i]?=some (ss.getD i ""):=by
 have:=Ae (l:=ss) (i:=i) (by rw [h.l];exact hi);rw [this,Ck,this];rfl
theorem Six.lt {ss:Gh}(h:Six ss){i k:Nat}(ik:i<k)(hk:k<6):ltS (ss.getD i "") (ss.getD k ""):=by
 have h1:i<ss.length:=by have:=h.l;lia
 have h2:k<ss.length:=by have:=h.l;lia
 have:=Dy.mp h.up i k h1 h2 ik;rw [Ck,Ck,Ae h1,Ae h2];exact this
theorem Six.w {ss:Gh}(h:Six ss){i:Nat}(hi:i<6):Wr (ss.getD i ""):=h.wr _ (Ao (h.get hi))
theorem aGp {x y:Str}(h:ltS x y):x≠y:=λe=>by
 subst e;exact List.lt_irrefl _ h
def aGr {a b c d:Str}(h:ltS a c):ltP (a,b) (c,d):=by
 show HT.lexLtS [a,b] [c,d]=true;rw [HT.lexLtS_cons,if_neg (aGp h)];exact decide_eq_true h
def aGq {a b d:Str}(h:ltS b d):ltP (a,b) (a,d):=by
 show HT.lexLtS [a,b] [a,d]=true;rw [HT.lexLtS_cons,if_pos rfl,HT.lexLtS_cons,if_neg (aGp h)];exact decide_eq_true h
def Qs.good {qs:List (Nat×Nat)}{ss:Gh}{j k:Nat}(h:Qs qs j k)(s:Six ss)(l:qs.length<=25):GoodPs (qs.map (prS ss)):=by
 refine ⟨by rw [Ag];exact l,λi p q hp hq=>?_,λp hp=>?_⟩
 ·rw [Aq] at hp hq
  obtain ⟨x,hx,rfl⟩:=Bg.mp hp;obtain ⟨y,hy,rfl⟩:=Bg.mp hq;obtain ⟨l1,rfl⟩:=Ac.mp hx;obtain ⟨l2,rfl⟩:=Ac.mp hy;have pw:=Dy.mp h.pw i (i+1) l1 l2 (Cg _);have r1:=h.rg _ (DP l1);have r2:=h.rg _ (DP l2)
  rcases pw with z|⟨z1,z2⟩
  ·exact aGr (s.lt z (by lia))
  ·show ltP (ss.getD _ "",ss.getD _ "") (ss.getD _ "",ss.getD _ "")
   rw [z1];exact aGq (s.lt z2 (by lia))
 ·obtain ⟨q,hq,rfl⟩:=AK.mp hp
  have r:=h.rg q hq;exact ⟨s.w (by lia),s.w r.2.1,s.lt r.1 r.2.1⟩
def PsT (H:Hp)(us:Gq)(ps:Gf):Prop:=us.length=ps.length/\∀ (i:Nat) u p,us[i]?=some u->ps[i]?=some p->∃ q,u=.ref q/\H q=some (.tup [.str p.1,.str p.2])
def PsT.nil {H:Hp}:PsT H [] []:=⟨rfl,λi u p h=>by simp at h⟩
def PsT.keep {H H':Hp}{us:Gq}{ps:Gf}(h:PsT H us ps)(s:Tk H H'):PsT H' us ps:=⟨h.1,λi u p hu hp=>by
 obtain ⟨q,e,sq⟩:=h.2 i u p hu hp;exact ⟨q,e,s _ _ sq⟩⟩
theorem PsT.add {H:Hp}{us:Gq}{ps:Gf}{q:Gj}{p:Str×Str}(h:PsT H us ps)(k:H q=some (.tup [.str p.1,.str p.2])):PsT H (us++[.ref q]) (ps++[p]):=by
 refine ⟨by rw [As,As,h.1];rfl,λj x d hx hd=>?_⟩
 by_cases hj:j<us.length
 ·rw [AG hj] at hx
  rw [AG (by rw [<- h.1];exact hj)] at hd;exact h.2 j x d hx hd
 ·rw [AH (by lia)] at hx
  rw [AH (by rw [<- h.1];lia),<- h.1] at hd;obtain ⟨hl,e⟩:=Ac.mp hx;simp at hl;rw [hl] at hx hd;cases hx;cases hd;exact ⟨q,rfl,k⟩
def iX {H H':Hp}{p:Gj}{o:HO}(s:Same H H')(n:H p=none):Same H (upd H' p o):=λb u e=>by
 rw [aJ (λz=>by rw [z,n] at e;cases e)];exact s _ _ e
def same_none {H H':Hp}{p:Gj}(s:Same H H')(n:H' p=none):H p=none:=by
 cases e:H p with
 |none=>rfl
 |some o=>
  have:=s _ _ e;rw [n] at this;cases this
def uH {ss:Gh}(h:Six ss){i:Nat}{e:Int}(hi:i<6)(he:e=(i:Int)):atI (ss.map V.str) e=some (.str (ss.getD i "")):=by
 rw [he];exact aU (by rw [Aq,h.get hi];rfl)
def gN {H H1 H2:Hp}{a:Gj}(s:Same H H1)(k:SmB a H1 H2)(n:H a=none):Same H H2:=λb o e=>k b o (λz=>by rw [z,n] at e;cases e) (s b o e)
def SmB.tk {H H':Hp}{a:Gj}(k:SmB a H H')(l:Lf H a):Tk H H':=λb ys e=>k b _ (λz=>by
 obtain ⟨_,h,_⟩:=l;rw [z,h] at e;cases e) e
def RmsT (H:Hp)(us:Gq):Prop:=∀ u∈us,∃ q t b,u=.ref q/\H q=some (.tup [.int t,.int b])/\Rm t b
def RmsT.nil {H:Hp}:RmsT H []:=λu h=>nomatch h
def RmsT.keep {H H':Hp}{us:Gq}(h:RmsT H us)(s:Tk H H'):RmsT H' us:=λu hu=>by
 obtain ⟨q,t,b,e,sq,r⟩:=h u hu;exact ⟨q,t,b,e,s _ _ sq,r⟩
theorem RmsT.add {H:Hp}{us:Gq}{q:Gj}{t b:Int}(h:RmsT H us)(k:H q=some (.tup [.int t,.int b]))(r:Rm t b):RmsT H (us++[.ref q]):=λu hu=>by
 rcases Bm.mp hu with z|z
 ·exact h u z
 ·rw [Az.mp z]
  exact ⟨q,t,b,rfl,k,r⟩
structure Bn (H:Hp)(p r q:Gj)(rs us:Gq)(ps:Gf):Prop where
 hp:H p=some (.tup [.ref r,.ref q])
 hr:H r=some (.tup rs)
 rm:RmsT H rs
 l1:1<=rs.length
 l16:rs.length<=16
 hq:H q=some (.tup us)
 pt:PsT H us ps
 g:GoodPs ps
def Bn.keep {H H':Hp}{p r q:Gj}{rs us:Gq}{ps:Gf}(h:Bn H p r q rs us ps)(s:Same H H'):Bn H' p r q rs us ps:=⟨s _ _ h.hp,s _ _ h.hr,h.rm.keep s.tk,h.l1,h.l16,s _ _ h.hq,h.pt.keep s.tk,h.g⟩
inductive spBench (K:Ab)(vs:Gq)(H:Hp)(Q:VK)(Ex:XK):Prop
 |mk (a:Gj) (ns:List Int) (w:Gj) (ws:Gh) (e0:vs=[.ref a,.ref w]) (e1:SqL K H a (ns.map V.int)) (e2:SqL K H w (ws.map V.str)) (e3:Six0 ws) (e4:∀ p r q rs us ps H',Same H H'->Bn H' p r q rs us ps->Q (.ref p) H'):spBench K vs H Q Ex
def abs_nonneg (c:Int):0<=(if c<0 then -c else c):=by split<;>lia
def aLk (t:Int):G t 1=1:=by
 have h1:=rH (a:=t) (b:=1) (by decide);have h2:=aBe (a:=t) (b:=1) (by decide);lia
def aIf {t:Int}(h:1<=t)(ht:Bt 100 t):Rm t 1:=⟨h,by decide,aLk t,ht,dD 100 (c:=2) (by decide) (by decide)⟩
section
variable {P:Aw}{w:World}{K:Ab}{mg:Gb}{base:Heap}
def fX:FnScope ["_law_script","_law_wares_here","_law_left","_law_rooms","_law_k","_law_top","_law_pairs","_law_some","_law_j"] ["_law_script","_law_wares_here"] (aG aFq):=fnScOk
def aGj {f:Gj}{fd:Ay}(F:Fun K "_law_free_bench" "_law_free_bench" aFq f fd)(T:Txt mg)(cC:Cal P w K mg base CX0 1 "_law_cell_at" ["_law_script","_law_k"] (nH K))(cD:Cal P w K mg base CX0 1 "_law_digit" ["_law_left","_law_many"] lY)(cL:Cal P w K mg base CX0 1 "_law_lowest" ["_law_top","_law_bottom"] eG):FnOk P w K mg base CX0 2 f fd ["_law_script","_law_wares_here"] (spBench K):=by
 refine F.okA fX (λcdv A outer s H vs Q E hr h=>?_)
 ·obtain ⟨a,ns,w,ws,rfl,ha,hw,six0,k⟩:=h
  refine ⟨_,(aC (aK (i:=2) fX.nd (cZ (aA (aV jH rfl T.abs' uG (aA (aI cC hr (aA (pv 0) (aA aH aB))) aB)) aB)))
   (aC (aK (i:=3) fX.nd (cZ aB))
   (aC (bR AJ rfl (cY rfl T.range (aA (aP bL aH (aI cD hr (aA (pv 2) (aA aH aB)))) aB)) (aQ (i:=4) fX.nd)
    (aC (aK (i:=5) fX.nd (aP bL aH (aI cD hr (aA (pv 2) (aA (aP xV aH aH) aB)))))
    (aE (cV (iP Bk Bb Ba bO (pv 3) (aA (aI cL hr (aA (pv 5) (aA (aP bL aH (aI cD hr (aA (pv 2) (aA (aP xV aH aH) aB)))) aB))) aB))))))
   (aC (aK (i:=6) fX.nd (cZ aB))
   (aC (aK (i:=2) fX.nd (cZ (aA (aV jH rfl T.abs' uG (aA (aI cC hr (aA (pv 0) (aA aH aB))) aB)) aB)))
   (aC (aK (i:=7) fX.nd (aV lO rfl T.sorted' boot_sorted (aA (pv 1) aB)))
   (aC (bR AJ rfl (cY rfl T.range (aA aH aB)) (aQ (i:=8) fX.nd)
    (aE (bR AJ rfl (jX rfl T.range (aA (aP bL (pv 8) aH) (aA aH aB))) (aQ (i:=4) fX.nd)
     (aE (bD (aM cJ (aI cD hr (aA (pv 2) (aA aH aB))) aH)
      (aE (cV (iP Bk Bb Ba bO (pv 6) (aA (aT (aA (aZ aX (pv 7) (pv 8) (λ_ _=>rfl)) (aA (aZ aX (pv 7) (pv 4) (λ_ _=>rfl)) aB))) aB))))
      aS)))))
   (aE (aL (aT (aA (aY bG rfl T.tup' dG (aA (pv 3) aB)) (aA (aY bG rfl T.tup' dG (aA (pv 6) aB)) aB)))))))))))),?_⟩
  refine ⟨_,rfl,a,ns,1,rfl,ha,by decide,λc=>⟨c,rfl,zLn1,λl hl=>?_⟩⟩;have c0:=abs_nonneg c;generalize (if c<0 then -c else c)=n at *
  have s1:Same H (upd H l (.lst [.int n])):=Gu hl;refine ⟨zLn0,λd hd=>?_⟩;have dl:d≠l:=λe=>by rw [e,aD] at hd;cases hd
  have hd0:H d=none:=same_none s1 hd;have e18':(10:Int)^Int.toNat 18=1000000000000000000:=e18;refine ⟨_,rfl,l,16,rfl,⟨n,by rw [aJ (Bi dl)];exact aD,c0⟩,by decide,b9,λm H1 m0 ml sb lf=>⟨_,_,rfl,rfl,_,rfl,by lia,by lia,?_⟩⟩;have s2:Same H H1:=gN (s1.trans (Gu hd)) sb hl;have hd1:H1 d=some (.lst []):=sb d _ dl aD;refine eB (λi σ H'=>∃ (rs:Gq) (v4 v5:Gr),σ=[some (.ref a),some (.ref w),some (.ref l),some (.ref d),v4,v5,none,none,none]/\Same H H'/\Lf H' l/\H' d=some (.lst rs)/\rs.length=i/\RmsT H' rs)
   ⟨[],none,none,rfl,s2,lf,hd1,rfl,RmsT.nil⟩ ?_ ?_
  ·rintro i σ H2 hi ⟨rs,v4,v5,rfl,s3,lf2,hd2,rl,rm⟩
   refine ⟨_,rfl,_,_,rfl,rfl,⟨by decide,by decide,bk⟩,l,_,rfl,lf2,?_,?_,λt H3 t0 tl sb3 lf3=>⟨_,_,rfl,rfl,?_⟩⟩
   ·rw [e18'];decide
   ·rw [e18'];exact b9
   have hd3:=sb3 _ _ dl hd2;refine ⟨_,rfl,.inl ⟨rfl,_,Gw hd3⟩,_,rfl,_,rfl,_,_,rfl,rfl,⟨by decide,by decide,bk⟩,l,_,rfl,lf3,?_,?_,λb H4 b0 bl' sb4 lf4=>⟨_,_,rfl,rfl,?_⟩⟩
   ·rw [e18'];decide
   ·rw [e18'];exact b9
   rw [e18'] at bl' tl;refine ⟨1+t,1+b,rfl,by lia,by lia,b9 (by lia) (by lia),λp H5 s5 hp5 hp5'=>?_⟩;have hd4:=sb4 _ _ dl hd3;have hd5:=s5 _ _ hd4;have pd:p≠d:=λe=>by rw [e,hd4] at hp5;cases hp5
   refine ⟨d,rs,_,rfl,rfl,hd5,bQ (by lia),?_⟩;refine ⟨rs++[.ref p],_,_,rfl,iX ((gN (gN s3 sb3 hl) sb4 hl).trans s5) hd0,(lf4.keep s5).own dl,aD,by rw [As,rl];rfl,?_⟩;refine ((((rm.keep (sb3.tk lf2)).keep (sb4.tk lf3)).keep s5.tk).keep (Tk.lst hd5)).add (by rw [aJ pd];exact hp5') (tJ (by lia) (by lia) (dD 100 (c:=2000000000000000000) (by lia) (by lia)) (dD 100 (c:=2000000000000000000) (by lia) (by lia)))
  ·rintro σ H2 ⟨rs,v4,v5,rfl,s3,lf2,hd2,rl,rm⟩
   have rl1:1<=rs.length:=by lia
   have rl16:rs.length<=16:=by lia
   refine ⟨zLn0,λg hg=>?_⟩;have hg0:H g=none:=same_none s3 hg;have gd:g≠d:=λe=>by rw [e,hd2] at hg;cases hg
   have s4:=s3.trans (Gu (o:=.lst []) hg);refine ⟨_,rfl,a,ns,2,rfl,s4.seq ha,by decide,λc'=>⟨c',rfl,zLn1,λl2 hl2=>?_⟩⟩;have c0':=abs_nonneg c';generalize (if c'<0 then -c' else c')=n' at *
   have s5:=s4.trans (Gu (o:=.lst [.int n']) hl2);have hl20:H l2=none:=same_none s4 hl2;have lg:l2≠g:=λe=>by rw [e,aD] at hl2;cases hl2
   have ld:l2≠d:=λe=>by rw [e,Gu hg _ _ hd2] at hl2;cases hl2
   refine ⟨_,rfl,w,ws,rfl,s5.seq hw,by have:=six0.l;lia,λz ss pm st hz=>?_⟩;have six:=Six.of six0 pm st;have hz0:H z=none:=same_none s5 hz;have zl:z≠l2:=λe=>by rw [e,aD] at hz;cases hz
   have zg:z≠g:=λe=>by rw [e,Gu hl2 _ _ aD] at hz;cases hz
   have zd:z≠d:=λe=>by rw [e,Gu hl2 _ _ (Gu hg _ _ hd2)] at hz;cases hz
   have s6:=s5.trans (Gu (o:=.lst (ss.map V.str)) hz);refine ⟨6,rfl,by decide,by decide,?_⟩;refine eB (λi σ H'=>∃ (us:Gq) (qs:List (Nat×Nat)) (v4 v8:Gr),σ=[some (.ref a),some (.ref w),some (.ref l2),some (.ref d),v4,v5,some (.ref g),some (.ref z),v8]/\Same H H'/\Lf H' l2/\H' d=some (.lst rs)/\RmsT H' rs/\H' g=some (.lst us)/\H' z=some (.lst (ss.map V.str))/\PsT H' us (qs.map (prS ss))/\Qs qs i 0/\qs.length<=5*min i 5)
    ⟨[],[],_,none,rfl,s6,⟨n',Gu hz _ _ aD,c0'⟩,Gu hz _ _ (Gu hl2 _ _ (Gu hg _ _ hd2)),((rm.keep (Gu hg).tk).keep (Gu hl2).tk).keep (Gu hz).tk,Gu hz _ _ (Gu hl2 _ _ aD),aD,PsT.nil,Qs.nil,by decide⟩ ?_ ?_
   ·rintro j σ H3 hj ⟨us,qs,v4,v8,rfl,s7,lf3,hd3,rm3,hg3,hz3,pt,hq,ql⟩
    have hj6:j<6:=hj;refine ⟨_,rfl,_,_,rfl,rfl,_,_,rfl,by lia,?_⟩;refine eB (λi σ H'=>∃ (us:Gq) (qs:List (Nat×Nat)) (v4:Gr),σ=[some (.ref a),some (.ref w),some (.ref l2),some (.ref d),v4,v5,some (.ref g),some (.ref z),some (.int (0+j))]/\Same H H'/\Lf H' l2/\H' d=some (.lst rs)/\RmsT H' rs/\H' g=some (.lst us)/\H' z=some (.lst (ss.map V.str))/\PsT H' us (qs.map (prS ss))/\Qs qs j (j+1+i)/\qs.length<=5*min j 5+i)
     ⟨us,qs,v4,rfl,s7,lf3,hd3,rm3,hg3,hz3,pt,⟨hq.pw,λq h=>by have:=hq.rg q h;lia⟩,by lia⟩ ?_ ?_
    ·rintro i σ H4 hi ⟨us,qs,v4,rfl,s8,lf4,hd4,rm4,hg4,hz4,pt,hq,ql⟩
     have hi6:j+1+i<6:=by lia
     refine ⟨_,rfl,l2,2,rfl,lf4,by decide,b9,λm H5 m0 ml sb5 lf5=>?_⟩;have s9:=gN s8 sb5 hl20;have hd5:=sb5 _ _ (Bi ld) hd4;have hg5:=sb5 _ _ (Bi lg) hg4;have hz5:=sb5 _ _ zl hz4;have rm5:=rm4.keep (sb5.tk lf4);have pt5:=pt.keep (sb5.tk lf4);refine ⟨rfl,_,rfl,ite2 (λ_=>?_) (λ_=>?_)⟩
     ·refine ⟨_,rfl,.inl ⟨rfl,_,Gw hg5⟩,_,rfl,_,rfl,z,_,_,_,rfl,rfl,Gw hz5,uH six (i:=j) hj6 (by lia),_,rfl,_,rfl,z,_,_,_,rfl,rfl,Gw hz5,uH six (i:=j+1+i) hi6 (by lia),zLn2,λq hq'=>?_⟩
      have qg:q≠g:=λe=>by rw [e,hg5] at hq';cases hq'
      have ul:us.length=qs.length:=by rw [pt.1,Ag]
      have e1:(upd H5 q (.tup [.str (ss.getD j ""),.str (ss.getD (j+1+i) "")])) g=some (.lst us):=Gu hq' _ _ hg5;refine ⟨g,us,_,rfl,rfl,e1,bQ (by lia),us++[.ref q],qs++[(j,j+1+i)],_,rfl,iX (s9.trans (Gu hq')) hg0,(lf5.keep (Gu hq')).own (Bi lg),?_,(rm5.keep (Gu hq').tk).keep (Tk.lst e1),aD,?_,?_,hq.add (by lia) hi6,by rw [As,Bo];lia⟩
      ·rw [aJ (Bi gd)]
       exact Gu hq' _ _ hd5
      ·rw [aJ zg]
       exact Gu hq' _ _ hz5
      ·rw [AW]
       refine ((pt5.keep (Gu hq').tk).keep (Tk.lst e1)).add ?_;rw [aJ qg];exact aD
     ·exact ⟨us,qs,_,rfl,s9,lf5,hd5,rm5,hg5,hz5,pt5,hq.more,by lia⟩
    ·rintro σ H4 ⟨us,qs,v4,rfl,s8,lf4,hd4,rm4,hg4,hz4,pt,hq,ql⟩
     exact ⟨us,qs,_,_,rfl,s8,lf4,hd4,rm4,hg4,hz4,pt,hq.next,by lia⟩
   ·rintro σ H3 ⟨us,qs,v4,v8,rfl,s7,lf3,hd3,rm3,hg3,hz3,pt,hq,ql⟩
    refine ⟨_,rfl,d,rs,rfl,.inl ⟨Gw hd3,λr hr'=>?_⟩⟩;have t1:=Gu (o:=.tup rs) hr';refine ⟨_,rfl,g,us,rfl,.inl ⟨Gw (t1 _ _ hg3),λq hq'=>⟨zLn2,λp hp=>?_⟩⟩⟩;have t2:=Gu (o:=.tup us) hq';have t3:=Gu (o:=.tup [.ref r,.ref q]) hp;refine k p r q rs us _ _ (((s7.trans t1).trans t2).trans t3) ⟨aD,t3 _ _ (t2 _ _ aD),((rm3.keep t1.tk).keep t2.tk).keep t3.tk,rl1,rl16,t3 _ _ aD,((pt.keep t1.tk).keep t2.tk).keep t3.tk,hq.good six (by lia)⟩
end
def qK {H:Hp}{a b:Gj}{o:HO}(h:H a=some o)(h':H b=none):a≠b:=λe=>by rw [e,h'] at h;cases h
def sm0I {H H1:Hp}{p:Gj}(h:Same H H1)(n:H1 p=none):H p=none:=same_none h n
section
variable {P:Aw}{w:World}{K:Ab}{mg:Gb}{base:Heap}
def fG:FnScope ["_law_script","_law_wares_here","_law_number","_law_rooms","_law_k","_law_pairs","_law_some","_law_j"] ["_law_script","_law_wares_here"] (aG xG):=fnScOk
def aCf {f:Gj}{fd:Ay}(F:Fun K "_law_small" "_law_small" xG f fd)(T:Txt mg)(cC:Cal P w K mg base CX0 2 "_law_cell_at" ["_law_script","_law_k"] (nH K))(cF:Cal P w K mg base CX0 2 "_law_free_bench" ["_law_script","_law_wares_here"] (spBench K))(cM:Cal P w K mg base CX0 2 "_law_mixed" ["_law_cell","_law_k"] lX):FnOk P w K mg base CX0 3 f fd ["_law_script","_law_wares_here"] (spBench K):=by
 refine F.okA fG (λcdv A outer s H vs Q E hr h=>?_)
 ·obtain ⟨a,ns,w,ws,rfl,ha,hw,six0,k⟩:=h
  refine ⟨_,(aC (bD (aM cJ (aP bU (aI cC hr (aA (pv 0) (aA aH aB))) aH) aH)
    (aE (aL (aI cF hr (aA (pv 0) (aA (pv 1) aB)))))
    aS)
   (aC (aK (i:=2) fG.nd (aI cM hr (aA (aI cC hr (aA (pv 0) (aA aH aB))) (aA aH aB))))
   (aC (aK (i:=3) fG.nd (cZ aB))
   (aC (bR AJ rfl (cY rfl T.range (aA (aP bL aH (aP bU (pv 2) aH)) aB)) (aQ (i:=4) fG.nd)
    (aE (cV (iP Bk Bb Ba bO (pv 3) (aA (aT (aA (aP bL aH (aP bU (aP bK (aI cM hr (aA (aI cC hr (aA (pv 0) (aA aH aB))) (aA (aP bL (pv 4) aH) aB))) aH) aH)) (aA aH aB))) aB)))))
   (aC (aK (i:=5) fG.nd (cZ aB))
   (aC (aK (i:=6) fG.nd (aV lO rfl T.sorted' boot_sorted (aA (pv 1) aB)))
   (aC (bR AJ rfl (cY rfl T.range (aA aH aB)) (aQ (i:=7) fG.nd)
    (aE (bR AJ rfl (jX rfl T.range (aA (aP bL (pv 7) aH) (aA aH aB))) (aQ (i:=4) fG.nd)
     (aE (bD (aM cJ (aP bU (aP bK (aI cM hr (aA (aI cC hr (aA (pv 0) (aA aH aB))) (aA (aP bL (aP bJ aH (pv 7)) (pv 4)) aB))) aH) (aP bL aH (aP bU (aP bK (pv 2) aH) aH))) aH)
      (aE (cV (iP Bk Bb Ba bO (pv 5) (aA (aT (aA (aZ aX (pv 6) (pv 7) (λ_ _=>rfl)) (aA (aZ aX (pv 6) (pv 4) (λ_ _=>rfl)) aB))) aB))))
      aS)))))
   (aE (aL (aT (aA (aY bG rfl T.tup' dG (aA (pv 3) aB)) (aA (aY bG rfl T.tup' dG (aA (pv 5) aB)) aB)))))))))))),?_⟩
  refine cut7 ?_
  intros
  refine ⟨_,rfl,a,ns,0,rfl,ha,by decide,λc=>⟨_,_,rfl,rfl,(by show (0:Int)<2;decide),rfl,_,rfl,ite2 (λ_=>?_) (λ_=>?_)⟩⟩
  ·exact ⟨_,rfl,_,rfl,a,ns,w,ws,rfl,ha,hw,six0,k⟩
  refine ⟨_,rfl,a,ns,1,rfl,ha,by decide,λc1=>⟨c1,1,rfl,by decide,by decide,λn n0 nl=>?_⟩⟩;have e4:=bY n (m:=4) (by decide);refine ⟨zLn0,λd hd=>?_⟩;have s1:Same H (upd H d (.lst [])):=Gu hd;refine ⟨_,rfl,_,_,rfl,rfl,(by show (0:Int)<4;decide),_,_,rfl,rfl,_,rfl,by lia,by lia,?_⟩;refine dP (λi σ H'=>∃ (rs:Gq) (v4:Gr),σ=[some (.ref a),some (.ref w),some (.int n),some (.ref d),v4,none,none,none]/\Same H H'/\H' d=some (.lst rs)/\rs.length=i/\RmsT H' rs) ⟨[],none,rfl,s1,aD,rfl,RmsT.nil⟩ ?_ ?_
  ·intro i σ H2 D2 hN hi hh
   obtain ⟨rs,v4,rfl,s3,hd2,rl,rm⟩:=hh;have hi4:i<4:=by lia
   refine ⟨_,rfl,.inl ⟨rfl,_,Gw hd2⟩,_,rfl,a,ns,1,rfl,s3.seq ha,by decide,λc2=>⟨_,rfl,_,_,rfl,rfl,c2,_,rfl,by lia,by lia,λg g0 gl=>?_⟩⟩;have e40:=bY (g/8) (m:=40) (by decide);refine ⟨_,_,rfl,rfl,⟨by decide,b9⟩,_,_,rfl,rfl,(by show (0:Int)<40;decide),_,_,rfl,rfl,zLn2,λq h1=>?_⟩;obtain ⟨H3,eH3,t1,hq'⟩:=updX (o:=.tup [.int (1+g/8%40),.int 1]) h1;rw [eH3];have hd3:=t1 _ _ hd2;have qd:q≠d:=λe=>by rw [e,hd3] at hq';cases hq'
   refine ⟨d,rs,_,rfl,rfl,hd3,bQ (by lia),?_⟩;exact hN _ _ ⟨rs++[.ref q],_,rfl,iX (s3.trans t1) hd,aD,by rw [As,rl];rfl,((rm.keep t1.tk).keep (Tk.lst hd3)).add (by rw [aJ qd];exact hq') (aIf (by lia) (dD 100 (c:=2000000000000000000) (by lia) (by lia)))⟩
  intro σ H2 hh;obtain ⟨rs,v4,rfl,s2,hd2,rl,rm⟩:=hh;refine ⟨zLn0,λdp hdp=>?_⟩;obtain ⟨H3,eH3,t1,hdp3⟩:=updX (o:=.lst []) hdp;rw [eH3];have s3:=s2.trans t1;have dne:d≠dp:=qK hd2 hdp;have hdp0:=sm0I s2 hdp;have hd3:=t1 _ _ hd2;have rm3:=rm.keep t1.tk;refine ⟨_,rfl,w,ws,rfl,s3.seq hw,by have:=six0.l;lia,λz ss pm st hz=>?_⟩;have six:=Six.of six0 pm st;obtain ⟨H4,eH4,t4,hz4⟩:=updX (o:=.lst (ss.map V.str)) hz;rw [eH4];have zd:z≠d:=λe=>by rw [e,hd3] at hz;cases hz
  have zp:z≠dp:=λe=>by rw [e,hdp3] at hz;cases hz
  have s4:=s3.trans t4;have hd4:=t4 _ _ hd3;have hdp4:=t4 _ _ hdp3;have rm4:=rm3.keep t4.tk;refine ⟨6,rfl,by decide,by decide,?_⟩;refine dP (λi σ H'=>∃ (us:Gq) (qs:List (Nat×Nat)) (v4 v7:Gr),σ=[some (.ref a),some (.ref w),some (.int n),some (.ref d),v4,some (.ref dp),some (.ref z),v7]/\Same H H'/\H' d=some (.lst rs)/\RmsT H' rs/\H' dp=some (.lst us)/\H' z=some (.lst (ss.map V.str))/\PsT H' us (qs.map (prS ss))/\Qs qs i 0/\qs.length<=5*min i 5)
   ⟨[],[],v4,none,rfl,s4,hd4,rm4,hdp4,hz4,PsT.nil,Qs.nil,by decide⟩ ?_ ?_
  ·intro j σ H5 D2 hN hj hh
   obtain ⟨us,qs,v4,v7,rfl,s5,hd5,rm5,hdp5,hz5,pt,hq,ql⟩:=hh;have hj6:j<6:=hj;refine ⟨_,rfl,_,_,rfl,rfl,_,_,rfl,by lia,?_⟩;refine dP (λi σ H'=>∃ (us:Gq) (qs:List (Nat×Nat)) (v4:Gr),σ=[some (.ref a),some (.ref w),some (.int n),some (.ref d),v4,some (.ref dp),some (.ref z),some (.int (0+j))]/\Same H H'/\H' d=some (.lst rs)/\RmsT H' rs/\H' dp=some (.lst us)/\H' z=some (.lst (ss.map V.str))/\PsT H' us (qs.map (prS ss))/\Qs qs j (j+1+i)/\qs.length<=5*min j 5+i)
    ⟨us,qs,v4,rfl,s5,hd5,rm5,hdp5,hz5,pt,⟨hq.pw,λq h=>by have:=hq.rg q h;lia⟩,by lia⟩ ?_ ?_
   ·intro i σ H6 D3 hN2 hi hh
    obtain ⟨us,qs,v4,rfl,s6,hd6,rm6,hdp6,hz6,pt,hq,ql⟩:=hh;have hi6:j+1+i<6:=by lia
    have bj:Bt 64 ((0:Int)+j):=dD 64 (c:=100) (by lia) (by lia);have e20:=bY (n/8) (m:=20) (by decide);refine ⟨_,rfl,a,ns,2,rfl,s6.seq ha,by decide,λc3=>⟨_,rfl,_,_,rfl,rfl,⟨bl,b6 bj⟩,_,rfl,_,_,rfl,rfl,c3,_,rfl,by lia,by lia,λm m0 ml=>?_⟩⟩;refine ⟨_,_,rfl,rfl,⟨by decide,b9⟩,_,rfl,_,_,rfl,rfl,⟨by decide,b9⟩,_,_,rfl,rfl,(by show (0:Int)<20;decide),_,_,rfl,rfl,_,_,rfl,rfl,(by show (0:Int)<3+n/8%20;lia),rfl,_,rfl,ite2 (λ_=>?_) (λ_=>?_)⟩
    ·refine ⟨_,rfl,.inl ⟨rfl,_,Gw hdp6⟩,_,rfl,_,rfl,z,_,_,_,rfl,rfl,Gw hz6,uH six (i:=j) hj6 (by lia),_,rfl,_,rfl,z,_,_,_,rfl,rfl,Gw hz6,uH six (i:=j+1+i) hi6 (by lia),zLn2,λq hq'=>?_⟩
     have qd:q≠dp:=λe=>by rw [e,hdp6] at hq';cases hq'
     have ul:us.length=qs.length:=by rw [pt.1,Ag]
     obtain ⟨H7,eH7,t7,hq7⟩:=updX (o:=.tup [.str (ss.getD j ""),.str (ss.getD (j+1+i) "")]) hq';rw [eH7];have e1:=t7 _ _ hdp6;refine ⟨dp,us,_,rfl,rfl,e1,bQ (by lia),hN2 _ _ ⟨us++[.ref q],qs++[(j,j+1+i)],_,rfl,iX (s6.trans t7) hdp0,by rw [aJ dne];exact t7 _ _ hd6,(rm6.keep t7.tk).keep (Tk.lst e1),aD,by rw [aJ zp];exact t7 _ _ hz6,?_,hq.add (by lia) hi6,by rw [As,Bo];lia⟩⟩;rw [AW];refine ((pt.keep t7.tk).keep (Tk.lst e1)).add ?_;rw [aJ qd];exact hq7
    ·exact hN2 _ _ ⟨us,qs,_,rfl,s6,hd6,rm6,hdp6,hz6,pt,hq.more,by lia⟩
   ·intro σ H6 hh
    obtain ⟨us,qs,v4,rfl,s6,hd6,rm6,hdp6,hz6,pt,hq,ql⟩:=hh;exact hN _ _ ⟨us,qs,_,_,rfl,s6,hd6,rm6,hdp6,hz6,pt,hq.next,by lia⟩
  ·intro σ H5 hh
   obtain ⟨us,qs,v4,v7,rfl,s5,hd5,rm5,hdp5,hz5,pt,hq,ql⟩:=hh;refine ⟨_,rfl,d,rs,rfl,.inl ⟨Gw hd5,λr hr'=>?_⟩⟩;obtain ⟨H6,eH6,t6,hr6⟩:=updX (o:=.tup rs) hr';rw [eH6];refine ⟨_,rfl,dp,us,rfl,.inl ⟨Gw (t6 _ _ hdp5),λq hq'=>?_⟩⟩;obtain ⟨H7,eH7,t7,hq7⟩:=updX (o:=.tup us) hq';rw [eH7];refine ⟨zLn2,λp hp=>?_⟩;have t8:=Gu (o:=.tup [.ref r,.ref q]) hp;exact k p r q rs us _ _ (((s5.trans t6).trans t7).trans t8) ⟨aD,t8 _ _ (t7 _ _ hr6),((rm5.keep t6.tk).keep t7.tk).keep t8.tk,by lia,by lia,t8 _ _ hq7,((pt.keep t6.tk).keep t7.tk).keep t8.tk,hq.good six (by lia)⟩
end
end K53
namespace L2
open PySem.W
structure CalK (P:Aw)(w:World)(K:Frag)(mg:Gb)(base:Heap)(CX:CXT)(k:Nat)(x:Str)(ps ks:Gh)(gV:Gq->Gq->Gq)(sp:Sp):Prop where
 ex:∃ (f:Gj) (fd:Ay) (g:Gi->Gi->Gi),mg x=some (.ref f)/\keepIn K (.ref f)=true/\KBinds K fd ps ks g gV/\FnOk P w K mg base CX k f fd ps sp
section
variable {X:Cx}
end
end L2
namespace K53
open L2 GM TM
def rV (K:Ab):Sp:=λvs H Q _=>∃ x:Str,vs=[.str x]/\Wr x/\∀ H',Same H H'->Q (.bl true) H'
section
variable {P:Aw}{w:World}{K:Ab}{mg:Gb}{base:Heap}{f:Gj}{fd:Ay}
def nd1:(["sign"]:Gh).Nodup:=by decide +kernel
theorem aGs (c:Nat):(!(AE.Str.occurrences LET ⟨#[c]⟩ 0 LET.length 1).isEmpty)=decide (97<=c/\c<=122):=by
 rw [StrLaws.found_one];have e:LET.cps.toList=(Bf 26).map (97 + ·):=by decide +kernel
 rw [e];refine decide_eq_decide.mpr ⟨λh=>?_,λh=>?_⟩
 ·obtain ⟨j,hj,rfl⟩:=AK.mp h
  have:=CL.mp hj;lia
 ·exact AK.mpr ⟨c-97,CL.mpr (by lia),by lia⟩
def aBy:FnScope ["thing"] ["thing"] (aG qB):=fnScOk
def yP {tk tk':Tok}(F:Fun K "is_ware" "is_ware" qB f fd)(T:Txt mg)(mM:mg "MOST_LETTERS" = some (.int 8 tk))(mL:mg "LETTERS" = some (.str LET tk')):FnOk P w K mg base CX0 1 f fd ["thing"] (rV K):=by
 refine F.okA aBy (λcdv A outer s H vs Q E hr h=>?_)
 ·obtain ⟨x,rfl,wx,k⟩:=h
  refine ⟨_,(aC (bD (eZ (dX (aV aA5 rfl T.isi Ei (aA (pv 0) (aA (gE (v:=.ty "str") rfl T.str' aEp rfl) aB)))))
    (aE (aL kJ)) aS)
   (aE (aL (lG (sR aF4 aF4 aH (aV oU rfl T.len BO (aA (pv 0) aB)) (eT (v:=.int 8) rfl mM ⟨_,rfl⟩)) (kA (aV (oV rfl) rfl T.all' boot_all (aA (qH (N':=["sign"]) (cl:=[]) (λ_=>[none]) rfl rfl (by decide +kernel) (by decide +kernel) (lM (by decide +kernel)) (λ_ _=>oY)
      (aDz (pv 0)) (λ_ _ _ _ _=>aQ (i:=0) nd1) (λ_ _ _ _ _=>eR) (λ_ _ _ _ _=>dU yC (pv 0) (eT (v:=.str LET) rfl mL ⟨_,rfl⟩) rfl)) aB))))))),?_⟩
  have l1:=wx.l1;have l8:=wx.l8;have le:=lenC x;refine ⟨_,rfl,_,"str",true,rfl,.inl .str_str,_,rfl,iteF ⟨_,rfl,x,rfl,bP (by lia),_,_,rfl,rfl,_,rfl,?_⟩⟩;rw [decide_eq_true (by lia:(1:Int)<=(x.length:Int))];refine iteT ⟨_,_,rfl,rfl,_,rfl,?_⟩;rw [decide_eq_true (by lia:(x.length:Int)<=8)];refine iteT ⟨_,rfl,x,rfl,λD hD=>?_⟩;refine aDd (λi ys H'=>ys=((cps x).take i).map (λc=>V.bl (decide (97<=c/\c<=122)))/\Same H H'/\H' D=some (.lst ys)) ⟨by simp,Gu hD,aD⟩ ?_ ?_ ?_
  ·rintro i ys H' hi ⟨rfl,_,hD'⟩
   refine ⟨hD',?_⟩;rw [Ag,Dr];exact bQ (by lia)
  ·rintro i c ys H' hc ⟨rfl,sm,hD'⟩
   refine ⟨(Keep.refl _).set rfl,?_⟩;unfold aBn;dsimp only;rw [if_pos rfl];refine ⟨_,rfl,_,_,rfl,rfl,hD',Nx.mk (Ac.mp hc).1 ⟨?_,λb o hb=>?_,aD⟩⟩
   ·rw [aGs,Dd,hc,AW]
    rfl
   ·rw [aJ (aW hb hD)]
    exact sm b o hb
  ·rintro ys H' ⟨rfl,sm,hD'⟩
   rw [Dk (Aj _)] at hD';refine ⟨D,(cps x).map (λc=>decide (97<=c/\c<=122)),rfl,Gw (by rw [Cb];exact hD'),?_⟩;rw [show ((cps x).map (λc=>decide (97<=c/\c<=122))).all id=true by
    rw [List.all_map,CT];exact λc hc=>decide_eq_true (wx.lt c hc)]
   exact k _ sm
def aH8:FnScope ["one","other"] ["one","other"] (aG aFk):=fnScOk
end
def aBs:Sp:=λvs H Q _=>∃ t b:Int,vs=[.int t,.int b]/\0<=t/\1<=b/\Bt 9000 b/\RetT H Q [t/G t b,b/G t b]
section
variable {P:Aw}{w:World}{K:Ab}{mg:Gb}{base:Heap}
def aH7:FnScope ["top","bottom","divisor"] ["top","bottom"] (aG sLow):=fnScOk
def aI3 {f:Gj}{fd:Ay}(F:Fun K "lowest_terms" "lowest_terms" sLow f fd)(cG:Cal P w K mg base CX0 1 "common_divisor" ["one","other"] aE7):FnOk P w K mg base CX0 2 f fd ["top","bottom"] aBs:=by
 refine F.ok aH7 (λvs H Q E h=>?_) (λcdv A outer s H vs Q E hr h=>?_)
 ·obtain ⟨a,b,rfl,_⟩:=h
  rfl
 ·obtain ⟨t,b,rfl,ht,hb,hs,k⟩:=h
  refine ⟨_,aC (aK (i:=2) aH7.nd (aI cG hr (aA (pv 0) (aA (pv 1) aB))))
   (aE (aL (aT (aA (aP bK (pv 0) (pv 2)) (aA (aP bK (pv 1) (pv 2)) aB))))),?_⟩
  refine ⟨_,rfl,_,rfl,t,b,rfl,ht,by lia,?_⟩;have g:=oE (t:=t) hb hs;refine ⟨_,rfl,_,rfl,_,_,rfl,rfl,g,_,rfl,_,rfl,_,_,rfl,rfl,g,zLn2,λp hp=>?_⟩;exact k p _ (Gu hp) aD
end
def Pr (H:Hp)(v:V)(x:Str×Int×Int):Prop:=∃ p q,v=.ref p/\H p=some (.tup [.str x.1,.ref q])/\H q=some (.tup [.int x.2.1,.int x.2.2])
def Pr.keep {H H':Hp}{v:V}{x:Str×Int×Int}(h:Pr H v x)(k:Tk H H'):Pr H' v x:=by
 obtain ⟨p,q,e,h1,h2⟩:=h;exact ⟨p,q,e,k _ _ h1,k _ _ h2⟩
inductive PrL (H:Hp):Gq->Gc->Prop where
 |nil:PrL H [] []
 |cons {v x vs xs}:Pr H v x->PrL H vs xs->PrL H (v::vs) (x::xs)
def PrL.keep {H H':Hp}{vs:Gq}{xs:Gc}(h:PrL H vs xs)(k:Tk H H'):PrL H' vs xs:=by
 induction h with
 |nil=>exact .nil
 |cons p _ ih=>exact .cons (p.keep k) ih
def PrL.snoc {H:Hp}{vs:Gq}{xs:Gc}{v:V}{x:Str×Int×Int}(h:PrL H vs xs)(p:Pr H v x):PrL H (vs++[v]) (xs++[x]):=by
 induction h with
 |nil=>exact .cons p .nil
 |cons q _ ih=>exact .cons q ih
theorem PrL.length {H:Hp}{vs:Gq}{xs:Gc}(h:PrL H vs xs):vs.length=xs.length:=by
 induction h with
 |nil=>rfl
 |cons _ _ ih=>simp [ih]
structure Two (K:Ab)(H:Hp)(p q:Gj)(t1 b1 t2 b2:Int):Prop where
 sp:SqT K H p [.int t1,.int b1]
 sq:H q=some (.tup [.int t2,.int b2])
 ht1:0<=t1
 hb1:1<=b1
 am:Amt t2 b2
 st1:Bt 4000 t1
 sb1:Bt 4000 b1
 st2:Bt 4000 t2
 sb2:Bt 4000 b2
inductive spPlus (K:Ab)(vs:Gq)(H:Hp)(Q:VK)(Ex:XK):Prop
 |mk (p q:Gj) (t1 b1 t2 b2:Int) (e0:vs=[.ref p,.ref q]) (e1:Two K H p q t1 b1 t2 b2) (e2:RetT H Q [(t1*b2+t2*b1)/G (t1*b2+t2*b1) (b1*b2),(b1*b2)/G (t1*b2+t2*b1) (b1*b2)]):spPlus K vs H Q Ex
theorem PrL.get {H:Hp}{vs:Gq}{xs:Gc}(h:PrL H vs xs):∀ {i:Nat} {v:V},vs[i]?=some v->∃ x,xs[i]?=some x/\Pr H v x:=by
 induction h with
 |nil=>intro i v e;simp at e
 |cons p _ ih=>
  intro i v e;cases i with
  |zero=>cases e;exact ⟨_,rfl,p⟩
  |succ i=>exact ih (by simpa using e)
def nOf (M:Int)(x:Str×Int×Int):Int:=x.2.1*(M/x.2.2)
def sumN (M:Int)(xs:Gc):Int:=(xs.map (nOf M)).sum
theorem jI {M:Int}{xs:Gc}{i:Nat}{x:Str×Int×Int}(h:xs[i]?=some x):sumN M (xs.take (i+1))=sumN M (xs.take i)+nOf M x:=by
 unfold sumN;rw [Dd,h,AW,Fs];simp
def dH {M t b N:Int}(hM:0<M)(h:Fr M t b N):t<=N/\b<=M:=by
 have hb:=Int.le_of_dvd hM h.dvd;refine ⟨?_,hb⟩;have n0:=h.nonneg hM;have:=CV hb n0;rw [<- h.e] at this;exact Int.le_of_mul_le_mul_right this hM
def Over (M:Int)(xs:Gc):Prop:=∀ x∈xs,Amt x.2.1 x.2.2/\x.2.2∣M
def lW (K:Ab):Sp:=λvs H Q _=>∃ (m:Gj) (us:Gq) (xs:Gc) (M:Int),vs=[.ref m]/\SqT K H m us/\PrL H us xs/\Over M xs/\0<M/\Bt 3000 M/\(∀ i,Bt 3000 (sumN M (xs.take i))) /\
 ∀ (f:Gj) (t b:Int) H',Same H H'->SqT K H' f [.int t,.int b]->Fr M t b (sumN M xs)->Q (.ref f) H'
section
variable {P:Aw}{w:World}{K:Ab}{mg:Gb}{base:Heap}
def Two.botS {K:Ab}{H:Hp}{p q:Gj}{t1 b1 t2 b2:Int}(T:Two K H p q t1 b1 t2 b2):1<=b1*b2/\Bt 8000 (b1*b2):=by
 have:=EU T.hb1 T.am.b1 (by decide) (by have:=T.hb1;lia);exact ⟨by lia,T.sb1.mul T.sb2⟩
def aH5:FnScope ["one","other"] ["one","other"] (aG aFh):=fnScOk
def aF9 {f aN:Gj}{fd:Ay}(F:Fun K "plus" "plus" aFh f fd)(mN:mg "NOUGHT" = some (.ref aN))(sN:∀ H:Hp,SqT K H aN [.int 0,.int 1])(cL:Cal P w K mg base CX0 2 "lowest_terms" ["top","bottom"] aBs):FnOk P w K mg base CX0 3 f fd ["one","other"] (spPlus K):=by
 refine F.okA aH5 (λcdv A outer s H vs Q E hr h=>?_)
 ·obtain ⟨p,q,t1,b1,t2,b2,rfl,T,k⟩:=h
  refine ⟨_,aC (bD (aM (aI0 hr.units) (pv 0) (eT (v:=.ref aN) rfl mN rfl)) (aE (aL (pv 1))) aS)
   (aE (aL (aI cL hr (aA (aP bL (aP bJ (pit 0 0) (pit 1 1)) (aP bJ (pit 1 0) (pit 0 1))) (aA (aP bJ (pit 0 1) (pit 1 1)) aB))))),?_⟩
  have bs:=T.botS;have hs:=Gv (K:=K) T.sq;have m1:=Bu T.ht1 (show 0<=b2 by have:=T.am.b1;lia);have m2:=Bu T.am.t0 (show 0<=b1 by have:=T.hb1;lia);have a0:=T.am.t0;have a1:=T.am.b1;refine ⟨_,rfl,p,aN,[t1,b1],[0,1],rfl,rfl,T.sp,sN H,_,rfl,ite2 (λhc=>?_) (λ_=>?_)⟩
  ·have e:=of_decide_eq_true hc
   injection e with e1 e;injection e with e2 e;subst e1 e2;refine ⟨_,rfl,?_⟩;have u:=iE (t:=0*b2+t2*1) (b:=1*b2) (by lia) (by lia) T.am (by rw [BV,Int.zero_add,Int.one_mul,Int.mul_one]);rw [u.1,u.2] at k;exact k q H (Same.refl H) T.sq
  ·refine ⟨p,_,_,rfl,T.sp,rfl,q,_,_,rfl,hs,rfl,_,_,rfl,rfl,⟨b6 T.st1,b6 T.sb2⟩,q,_,_,rfl,hs,rfl,p,_,_,rfl,T.sp,rfl,_,_,rfl,rfl,⟨b6 T.st2,b6 T.sb1⟩,_,_,rfl,rfl,?_⟩
   exact ⟨p,_,_,rfl,T.sp,rfl,q,_,_,rfl,hs,rfl,_,_,rfl,rfl,⟨b6 T.sb1,b6 T.sb2⟩,_,_,rfl,by lia,bs.1,bs.2.mono,k⟩
def gJ:FnScope ["one","found","ware","part"] ["one"] (aG pS):=fnScOk
def yH {f aN:Gj}{fd:Ay}(F:Fun K "whole" "whole" pS f fd)(mN:mg "NOUGHT" = some (.ref aN))(sN:∀ H:Hp,SqT K H aN [.int 0,.int 1])(cP:Cal P w K mg base CX0 3 "plus" ["one","other"] (spPlus K)):FnOk P w K mg base CX0 4 f fd ["one"] (lW K):=by
 refine F.okA gJ (λcdv A outer s H vs Q E hr h=>?_)
 ·obtain ⟨m,us,xs,M,rfl,hm,pr,ov,M0,bM,bS,k⟩:=h
  refine ⟨_,(aC (aK (i:=1) gJ.nd (eT (v:=.ref aN) rfl mN rfl))
   (aC (bR AJ rfl (iL (pv 0)) (fM rfl (bE (aQ (i:=2) gJ.nd) (bE (aQ (i:=3) gJ.nd) dY)))
    (aE (aK (i:=1) gJ.nd (aI cP hr (aA (pv 1) (aA (pv 3) aB))))))
   (aE (aL (pv 1))))),?_⟩
  refine ⟨_,rfl,m,rfl,⟨_,hm⟩,?_⟩;refine mS (xs:=us) (λi σ H'=>∃ (g:Gj) (t b:Int) (v2 v3:Gr),σ=[some (.ref m),some (.ref g),v2,v3]/\SqT K H' g [.int t,.int b]/\Fr M t b (sumN M (xs.take i))/\Same H H')
   ⟨aN,0,1,none,none,rfl,sN H,Fr.zero,Same.refl H⟩ ?_ ?_ ?_
  ·rintro i σ H' hi ⟨_,_,_,_,_,rfl,_,_,s2⟩
   exact s2.tup hm
  ·rintro i v σ H2 hv ⟨g,t,b,v2,v3,rfl,hg,fr,s2⟩
   obtain ⟨x,hx,p,q,rfl,h1,h2⟩:=pr.get hv;refine ⟨p,_,rfl,Gv (s2 _ _ h1),rfl,_,_,rfl,_,_,rfl,rfl,?_⟩;obtain ⟨am,dv⟩:=ov x (Ao hx);have frx:Fr M x.2.1 x.2.2 (nOf M x):=Fr.of am dv;have sm:=dH M0 fr;have smx:=dH M0 frx;have n1:=fr.nonneg M0;have n2:=frx.nonneg M0;have fb:=fr.am;have bN:=bS i;have bN1:=bS (i+1);rw [jI hx] at bN1;have bx:Bt 3000 (nOf M x):=bN1.le n2 (by lia);refine ⟨_,rfl,_,rfl,g,q,t,b,x.2.1,x.2.2,rfl,⟨hg,s2 _ _ h2,fb.t0,fb.b1,am,(bN.le fb.t0 sm.1).mono,(bM.le (by have:=fb.b1;lia) sm.2).mono,(bx.le am.t0 smx.1).mono,(bM.le (by have:=am.b1;lia) smx.2).mono⟩,λr H3 s3 h3=>?_⟩;refine ⟨r,_,_,_,_,rfl,Gv h3,?_,s2.trans s3⟩;rw [jI hx];exact fr.plus frx
  ·rintro σ H2 ⟨g,t,b,v2,v3,rfl,hg,fr,s2⟩
   rw [pr.length,AN] at fr;exact ⟨_,rfl,k g t b H2 s2 hg fr⟩
end
def NW (M:Int)(xs:Gc)(y:Str):Int:=sumN M (xs.filter λx=>decide (x.1=y))
theorem aHc {M:Int}{xs:Gc}{i:Nat}{x:Str×Int×Int}(h:xs[i]?=some x)(y:Str):NW M (xs.take (i+1)) y=NW M (xs.take i) y+(if x.1=y then nOf M x else 0):=by
 unfold NW sumN;rw [Dd,h,CQ,AW,Fs]
 congr 1
 by_cases e:x.1=y
 ·simp [e]
 ·simp [e]
theorem eE {M:Int}{xs:Gc}{y:Str}(h:y∉xs.map (·.1)):NW M xs y=0:=by
 unfold NW;rw [List.filter_eq_nil_iff.mpr (λx hx e=>h (AK.mpr ⟨x,hx,of_decide_eq_true e⟩))];rfl
def bW {M:Int}{xs:Gc}(hM:0<M)(h:Over M xs):0<=sumN M xs:=by
 induction xs with
 |nil=>exact DB _
 |cons x r ih=>
  have h1:=ih λy hy=>h y (Ah _ hy);have h2:=(Fr.of (h x Al).1 (h x Al).2).nonneg hM;show 0<=((x::r).map (nOf M)).sum;rw [Ak,AI];exact Int.add_nonneg h2 h1
theorem rQ {M:Int}(hM:0<M)(p:Str×Int×Int->Bool):∀ {xs:Gc},Over M xs->sumN M (xs.filter p)<=sumN M xs
 |[],_=>DB _
 |x::r,h=>by
  have h1:=rQ hM p (xs:=r) λy hy=>h y (Ah _ hy);have h2:=(Fr.of (h x Al).1 (h x Al).2).nonneg hM;have e2:sumN M (x::r)=nOf M x+sumN M r:=by unfold sumN;rw [Ak,AI]
  rw [e2];cases hp:p x with
  |true=>
   rw [ED hp];have e1:sumN M (x::r.filter p)=nOf M x+sumN M (r.filter p):=by unfold sumN;rw [Ak,AI]
   rw [e1];exact Int.add_le_add_left h1 _
  |false=>
   rw [EE (by rw [hp];exact AC)];have:0<=nOf M x:=h2;lia
theorem fD {M:Int}(hM:0<M):∀ {xs:Gc} (i:Nat),Over M xs->sumN M (xs.take i)<=sumN M xs
 |[],i,_=>by rw [List.take_nil];exact DB _
 |x::r,0,h=>bW hM h
 |x::r,i+1,h=>by
  have h1:=fD hM (xs:=r) i λy hy=>h y (Ah _ hy);have e2:sumN M (x::r)=nOf M x+sumN M r:=by unfold sumN;rw [Ak,AI]
  have e1:sumN M (x::r.take i)=nOf M x+sumN M (r.take i):=by unfold sumN;rw [Ak,AI]
  rw [List.take_succ_cons,e1,e2];exact Int.add_le_add_left h1 _
def Over.take {M:Int}{xs:Gc}(h:Over M xs)(i:Nat):Over M (xs.take i):=λx hx=>h x (List.mem_of_mem_take hx)
def Over.filter {M:Int}{xs:Gc}(h:Over M xs)(p:Str×Int×Int->Bool):Over M (xs.filter p):=λx hx=>h x (Ft.mp hx).1
def rG {M:Int}(hM:0<M){xs:Gc}(h:Over M xs)(i:Nat)(y:Str):0<=NW M (xs.take i) y/\NW M (xs.take i) y<=sumN M xs:=
 ⟨bW hM ((h.take i).filter _),Ez (rQ hM _ (h.take i)) (fD hM i h)⟩
def aJ2 (M:Int)(xs ys:Gc):Prop:=∃ ks:Gh,sortedS ks=true/\ks.Nodup/\(∀ y,y∈ks↔y∈xs.map (·.1))/\ys.map (·.1)=ks.filter (λy=>decide (NW M xs y≠0))/\∀ p∈ys,Fr M p.2.1 p.2.2 (NW M xs p.1)
theorem sS {M:Int}(hM:0<M){f:Str->Int}:∀ {ys zs:Gc},ys.map (·.1)=zs.map (·.1)->(∀ p∈ys,Fr M p.2.1 p.2.2 (f p.1))->(∀ p∈zs,Fr M p.2.1 p.2.2 (f p.1))->ys=zs
  |[],[],_,_,_=>rfl
  |[],_::_,e,_,_=>by simp at e
  |_::_,[],e,_,_=>by simp at e
  |(w1,t1,b1)::ys,(w2,t2,b2)::zs,e,h1,h2=>by
    simp only [Ak,List.cons.injEq] at e;obtain ⟨e1,e2⟩:=e;subst e1;have a1:=h1 _ Al;have a2:=h2 _ Al;obtain ⟨u1,u2⟩:=Fr.uniq hM a1 a2;simp only at u1 u2;subst u1 u2;rw [sS hM e2 (λp hp=>h1 p (Ah _ hp)) (λp hp=>h2 p (Ah _ hp))]
structure DK (kvs:Gp)(ks:Gh):Prop where
 keys:kvs.map (·.1)=ks.map AQ
 nd:ks.Nodup
def DK.nil:DK [] []:=⟨rfl,.nil⟩
theorem DK.len {kvs:Gp}{ks:Gh}(h:DK kvs ks):kvs.length=ks.length:=by
 have:=congrArg List.length h.keys;rwa [Ag,Ag] at this
theorem DK.get {kvs:Gp}{ks:Gh}(h:DK kvs ks)(y:Str):(valV kvs (AQ y)).isSome=true↔y∈ks:=by
 rw [<- eN,List.any_eq_true];constructor
 ·rintro ⟨kv,hm,e⟩
  have e':kv.1=AQ y:=of_decide_eq_true e;have:kv.1∈ks.map AQ:=by rw [<- h.keys];exact AK.mpr ⟨kv,hm,rfl⟩
  obtain ⟨z,hz,ez⟩:=AK.mp this;rw [e'] at ez;cases ez;exact hz
 ·intro hy
  have:AQ y∈kvs.map (·.1):=by rw [h.keys];exact AK.mpr ⟨y,hy,rfl⟩
  obtain ⟨kv,hm,e⟩:=AK.mp this;exact ⟨kv,hm,decide_eq_true e⟩
def DK.put {kvs:Gp}{ks:Gh}(h:DK kvs ks)(y:Str)(v:V):∃ ks',DK (putK kvs (AQ y) v) ks'/\(∀ z,z∈ks'↔z∈ks\/z=y)/\ks'.length<=ks.length+1:=by
 unfold putK;split
 ·rename_i hany
  have hy:y∈ks:=(h.get y).mp (by rw [<- eN];exact hany);refine ⟨ks,⟨?_,h.nd⟩,λz=>⟨.inl,λq=>q.elim id λe=>e▸hy⟩,CU _⟩;rw [<- h.keys,Cb];refine Dg λkv _=>?_;show (if kv.1=AQ y then (kv.1,v) else kv).1=kv.1;split<;>rfl
 ·rename_i hany
  have hy:y∉ks:=λq=>hany (by rw [eN];exact (h.get y).mpr q);refine ⟨ks++[y],⟨by rw [AW,AW,h.keys];rfl,?_⟩,λz=>by simp,by simp⟩;exact List.nodup_append.mpr ⟨h.nd,by simp,λa ha b hb e=>hy (by rw [Az.mp hb] at e;exact e▸ha)⟩
def DN (M:Int)(xs:Gc)(kvs:Gp)(ks:Gh):Prop:=DK kvs ks/\(∀ y,y∈ks↔y∈xs.map (·.1))/\∀ y,y∈ks->valV kvs (AQ y)=some (.int (NW M xs y))
def DA (H:Hp)(M:Int)(xs:Gc)(kvs:Gp)(ks:Gh):Prop:=DK kvs ks/\(∀ y,y∈ks↔y∈xs.map (·.1))/\∀ y,y∈ks->∃ (p:Gj) (t b:Int),valV kvs (AQ y)=some (.ref p)/\H p=some (.tup [.int t,.int b])/\Fr M t b (NW M xs y)
def DA.keep {H H':Hp}{M:Int}{xs:Gc}{kvs:Gp}{ks:Gh}(h:DA H M xs kvs ks)(k:Tk H H'):DA H' M xs kvs ks:=⟨h.1,h.2.1,λy hy=>by
 obtain ⟨p,t,b,e1,e2,e3⟩:=h.2.2 y hy;exact ⟨p,t,b,e1,k _ _ e2,e3⟩⟩
theorem uJ {xs:Gc}{i:Nat}{x:Str×Int×Int}(h:xs[i]?=some x)(y:Str):y∈(xs.take (i+1)).map (·.1)↔y∈(xs.take i).map (·.1)\/y=x.1:=by
 rw [Dd,h,AW,Bm];simp
def DA.step {H:Hp}{M:Int}{xs:Gc}{kvs:Gp}{ks:Gh}{i:Nat}{x:Str×Int×Int}{r:Gj}{t b:Int}(hx:xs[i]?=some x)(h:DA H M (xs.take i) kvs ks)(hr:H r=some (.tup [.int t,.int b]))(fr:Fr M t b (NW M (xs.take i) x.1+nOf M x)) :
  ∃ ks',DA H M (xs.take (i+1)) (putK kvs (AQ x.1) (.ref r)) ks'/\ks'.length<=ks.length+1:=by
 obtain ⟨ks',d',m',l'⟩:=h.1.put x.1 (.ref r);refine ⟨ks',⟨d',λy=>by rw [m',h.2.1,uJ hx],λy hy=>?_⟩,l'⟩;rw [lS,aHc hx]
 by_cases e:y=x.1
 ·subst e
  rw [if_pos rfl,if_pos rfl];exact ⟨r,t,b,rfl,hr,fr⟩
 ·rw [if_neg (λz=>e (AQ.inj z)),if_neg (λz=>e z.symm),Int.add_zero]
  exact h.2.2 y (((m' y).mp hy).resolve_right e)
def Tk.dk {H:Hp}{l:Gj}{kvs:Gp}{o:HO}(h:H l=some (.dK kvs)):Tk H (upd H l o):=λb ys e=>by
 have ne:b≠l:=λz=>by rw [z,h] at e;cases e
 rw [aJ ne];exact e
def vTx:V->Str
 |.str s=>s
 |_=>""
def MixP (M:Int)(xs:Gc)(x y:V)(H:Hp):Prop:=∃ (p q:Gj) (t b:Int),y=.ref p/\H p=some (.tup [x,.ref q])/\H q=some (.tup [.int t,.int b])/\Fr M t b (NW M xs (vTx x))
theorem tG {M:Int}{xs:Gc}{H:Hp}:∀ (ss:Gh) (ys:Gq),ys.length=ss.length->(∀ (i:Nat) (x y:V),(ss.map V.str)[i]?=some x->ys[i]?=some y->MixP M xs x y H)->∃ zs,PrL H ys zs/\zs.map (·.1)=ss/\∀ p∈zs,Fr M p.2.1 p.2.2 (NW M xs p.1)
 |[],[],_,_=>⟨[],.nil,rfl,(λ_ h=>nomatch h)⟩
 |s::ss,y::ys,hl,h=>by
  obtain ⟨zs,z1,z2,z3⟩:=tG ss ys (by simpa using hl) λi x y hx hy=>h (i+1) x y (by simpa using hx) (by simpa using hy);obtain ⟨p,q,t,b,rfl,hp,hq,fr⟩:=h 0 (.str s) y rfl rfl;refine ⟨(s,t,b)::zs,.cons ⟨p,q,rfl,hp,hq⟩ z1,by rw [Ak,z2],λr hr=>?_⟩
  rcases AB.mp hr with rfl|hr
  ·exact fr
  ·exact z3 r hr
 |[],_::_,hl,_=>by simp at hl
 |_::_,[],hl,_=>by simp at hl
theorem tZ (p:V->Bool)(q:Str->Bool)(e:∀ s,p (.str s)=q s):∀ ss:Gh,(ss.map V.str).filter p=(ss.filter q).map V.str
 |[]=>rfl
 |s::r=>by
  rw [Ak,Es,Es,e,tZ p q e r];split<;>rfl
def jK (K:Ab):Sp:=λvs H Q _=>∃ (l:Gj) (us:Gq) (xs:Gc) (M:Int),vs=[.ref l]/\SqL K H l us/\PrL H us xs/\xs.length<=63/\Over M xs/\0<M/\Bt 3000 M/\Bt 3000 (sumN M xs) /\
 ∀ m zs ys H',Same H H'->H' m=some (.tup zs)->PrL H' zs ys->aJ2 M xs ys->Q (.ref m) H'
section
variable {P:Aw}{w:World}{K:Ab}{mg:Gb}{base:Heap}
def gL:FnScope ["pairs","sums","ware","part"] ["pairs"] (aG gO):=fnScOk
def nd2:(["ware","sums"]:Gh).Nodup:=by decide +kernel
def uX {f aN:Gj}{fd:Ay}(F:Fun K "mixture" "mixture" gO f fd)(T:Txt mg)(mN:mg "NOUGHT" = some (.ref aN))(sN:∀ H:Hp,SqT K H aN [.int 0,.int 1])(cP:Cal P w K mg base CX0 3 "plus" ["one","other"] (spPlus K)):FnOk P w K mg base CX0 4 f fd ["pairs"] (jK K):=by
 refine F.okA gL (λcdv A outer s H vs Q E hr h=>?_)
 ·obtain ⟨l,us,xs,M,rfl,hl,pr,xl,ov,M0,bM,bS,k⟩:=h
  refine ⟨_,(aC (aK (i:=1) gL.nd mG)
   (aC (bR AJ rfl (jY (pv 0)) (fM rfl (bE (aQ (i:=2) gL.nd) (bE (aQ (i:=3) gL.nd) dY)))
    (aE (mF (iR hr) (pv 1) (pv 2) (aI cP hr (aA (sQ (iR hr) (pv 1) (pv 2) (eT (v:=.ref aN) rfl mN rfl) ⟨rfl,rfl,rfl,rfl⟩) (aA (pv 3) aB))) rfl)))
   (aE (aL (aY bG rfl T.tup' dG (aA (iY (N':=["ware","sums"]) (λσ=>[none,some 1].map λt=>t.bind λj=>(σ[j]?).join) rfl rfl (by decide +kernel) (by decide +kernel)
     (vG (sc:=aG gO) rfl (by decide +kernel)) (λ_ _ _=>iK (sc:=aG gO) (N:=["pairs","sums","ware","part"]) [none,some 1] rfl rfl rfl rfl (by decide +kernel))
     (jY (aV (rD rfl) rfl T.sorted' boot_sorted (aA (pv 1) aB))) (λ_ _ _ _ _ _=>aQ (i:=0) nd2)
     (λ_ _ _ _ _ _=>aB7 (aM (aF3 (K:=K) rfl hr.units) (kH (iR hr) (pv 1) (pv 0) (λ_ _=>rfl)) (eT (v:=.ref aN) rfl mN rfl)))
     (λ_ _ _ _ _ _=>aT (aA (pv 0) (aA (kH (iR hr) (pv 1) (pv 0) (λ_ _=>rfl)) aB)))) aB)))))),?_⟩
  intro d hd;have s1:Same H (upd H d (.dK [])):=Gu hd;refine ⟨_,rfl,l,rfl,⟨_,s1.seq hl⟩,?_⟩;refine mT (xs:=us) (λi σ H'=>∃ (kvs:Gp) (ks:Gh) (v4 v5:Gr),σ=[some (.ref l),some (.ref d),v4,v5]/\Same H H'/\H' d=some (.dK kvs)/\DA H' M (xs.take i) kvs ks/\ks.length<=i)
   ⟨[],[],none,none,rfl,s1,aD,⟨.nil,λy=>by simp,λy hy=>by simp at hy⟩,Aj _⟩ ?_ ?_ ?_
  ·rintro i σ H' _ ⟨_,_,_,_,rfl,sm,_⟩
   exact sm.seq hl
  ·rintro i v σ H2 hv ⟨kvs,ks,v4,v5,rfl,s2,hd2,da,kl⟩
   obtain ⟨x,hx,p,q,rfl,h1,h2⟩:=pr.get hv;have hi:=(Ac.mp hx).1;have xm:=Ao hx;obtain ⟨am,dv⟩:=ov x xm;have frx:Fr M x.2.1 x.2.2 (nOf M x):=Fr.of am dv;obtain ⟨g,t,b,eg,hg,fr⟩:∃ (g:Gj) (t b:Int),(valV kvs (AQ x.1)).getD (.ref aN)=.ref g/\SqT K H2 g [.int t,.int b]/\Fr M t b (NW M (xs.take i) x.1):=by
    by_cases hy:x.1∈ks
    ·obtain ⟨p,t,b,e1,e2,e3⟩:=da.2.2 _ hy
     exact ⟨p,t,b,by rw [e1];rfl,Gv e2,e3⟩
    ·have:valV kvs (AQ x.1)=none:=by
      cases e:valV kvs (AQ x.1) with
      |none=>rfl
      |some v=>exact absurd ((da.1.get x.1).mp (by rw [e];rfl)) hy
     refine ⟨aN,0,1,by rw [this];rfl,sN _,?_⟩;rw [eE (λz=>hy ((da.2.1 _).mpr z))];exact Fr.zero
   have two:Two K H2 g q t b x.2.1 x.2.2:=by
    have nw:=rG M0 ov i x.1;have sm:=dH M0 fr;have smx:=dH M0 frx;have nx:nOf M x<=sumN M xs:=by
     have e:=jI (M:=M) hx;have:=fD M0 (i+1) ov;have:=bW M0 (ov.take i);lia
    exact ⟨hg,s2 _ _ h2,fr.am.t0,fr.am.b1,am,(bS.le fr.am.t0 (by lia)).mono,(bM.le (by have:=fr.am.b1;lia) sm.2).mono,(bS.le am.t0 (by lia)).mono,(bM.le (by have:=am.b1;lia) smx.2).mono⟩
   refine ⟨p,_,rfl,Gv (s2 _ _ h1),rfl,_,_,rfl,_,_,rfl,rfl,?_⟩;refine ⟨_,rfl,d,rfl,.inl ⟨kvs,.inl hd2⟩,_,rfl,_,DGet.k (k:=AQ x.1) hd2,?_⟩;rw [eg];refine ⟨_,rfl,_,q,t,b,x.2.1,x.2.2,rfl,two,λr H3 s3 h3=>?_⟩;obtain ⟨ks',da',kl'⟩:=(da.keep (Same.tk s3)).step hx h3 (fr.plus frx);have hd3:=s3 _ _ hd2;refine ⟨_,rfl,_,rfl,d,_,rfl,DPut.k (k:=AQ x.1) hd3 (bQ (by rw [da.1.len];lia)),?_⟩;refine ⟨_,ks',_,_,rfl,λb o hb=>?_,aD,da'.keep (Tk.dk hd3),by lia⟩;rw [aJ (aW hb hd)];exact s3 _ _ (s2 _ _ hb)
  ·rintro σ H2 ⟨kvs,ks,v4,v5,rfl,s2,hd2,da,kl⟩
   rw [pr.length,AN] at da;have kl2:ks.length<=63:=by have:=pr.length;lia
   refine ⟨_,rfl,d,kvs,ks,rfl,hd2,da.1.keys,(by rw [da.1.len];lia),λa ss' pm so ha=>?_⟩;have hd3:upd H2 a (.lst (ss'.map V.str)) d=some (.dK kvs):=Gu ha _ _ hd2;have da3:=da.keep (Same.tk (Gu ha (o:=.lst (ss'.map V.str))));have sl:(ss'.map V.str).length=ss'.length:=Ag ..;have pl:=pm.length_eq;refine ⟨a,rfl,⟨_,Gw aD⟩,λD hD=>?_⟩;refine aAz (Ys.list (Gw aD)) (λv=>decide (NW M xs (vTx v)≠0)) (MixP M xs) ?_ hD (by lia) (λi x H' R1 R2 hx sm h1 h2=>?_) (λys H4 sm4 hD4 yl hy=>?_)
   ·rintro x y H5 H6 ⟨p,q,t,b,e,hp,hq,fr⟩ tk
    exact ⟨p,q,t,b,e,tk _ _ hp,tk _ _ hq,fr⟩
   ·rw [Aq] at hx
    obtain ⟨c,hc,rfl⟩:=Bg.mp hx;obtain ⟨g,t,b,e1,e2,e3⟩:=da3.2.2 c (pm.mem_iff.mp (Ao hc));have hdd:=sm _ _ hd3;have e2':=sm _ _ e2;have nz:=e3.nought M0;have gg:DGet H' d (.str c) (some (.ref g)):=by
     have:=DGet.k (k:=AQ c) hdd;rw [e1] at this;exact this
    refine ⟨(Keep.refl _).set rfl,_,rfl,_,rfl,d,_,rfl,gg,g,aN,[t,b],[0,1],rfl,rfl,Gv e2',sN _,_,rfl,ite2 (λhf=>?_) (λhf=>?_)⟩
    ·have hn:NW M xs c≠0:=λz=>by
      have t0:=nz.mp z;rw [z,t0] at e3;obtain ⟨_,u2⟩:=Fr.uniq M0 e3 Fr.zero;rw [t0,u2] at hf;exact absurd hf (by decide)
     refine ⟨_,rfl,_,rfl,_,rfl,d,_,rfl,gg,(show 2<=Av by decide +kernel),λl' hl'=>?_⟩;exact h1 (decide_eq_true hn) _ _ (Gu hl') ⟨l',g,t,b,rfl,aD,Gu hl' _ _ e2',e3⟩
    ·have hn:NW M xs c=0:=nz.mpr (by
      by_cases e:[t,b]=[0,1]
      ·injection e
      ·exact absurd (by rw [decide_eq_false e];rfl) hf)
     exact h2 (decide_eq_false λz=>z hn) _ (Same.refl _)
   ·have ef:=tZ (λv=>decide (NW M xs (vTx v)≠0)) (λy=>decide (NW M xs y≠0)) (λ_=>rfl) ss'
    rw [ef] at yl hy;obtain ⟨zs,z1,z2,z3⟩:=tG _ ys (by rw [yl,Ag]) hy;refine ⟨D,ys,rfl,.inl ⟨Gw hD4,λm hm=>?_⟩⟩;have s5:Same H4 (upd H4 m (.tup ys)):=Gu hm;exact k m ys zs _ (((s2.trans (Gu ha)).trans sm4).trans s5) aD (z1.keep (Same.tk s5)) ⟨ss',so,pm.nodup_iff.mpr da.1.nd,λy=>by rw [pm.mem_iff,da.2.1],z2,z3⟩
end
def dOf (x:Str×Int×Int):Dt:=.t [.s x.1,.t [.i x.2.1,.i x.2.2]]
def PrL.append {H:Hp}{vs us:Gq}{xs ys:Gc}(h:PrL H vs xs)(k:PrL H us ys):PrL H (vs++us) (xs++ys):=by
 induction h with
 |nil=>exact k
 |cons p _ ih=>exact .cons p ih
theorem aJq {M:Int}{x:Str×Int×Int}{N:Int}(h:Fr M x.2.1 x.2.2 N):nOf M x=N:=by
 have e:=h.e;obtain ⟨c,hc⟩:=h.dvd;have b1:=h.am.b1;unfold K53.nOf;rw [hc,Int.mul_ediv_cancel_left _ (by lia)];rw [hc] at e;have e2:x.2.2*(x.2.1*c)=x.2.2*N:=by
  rw [BK _ N,<- e,<- BX,<- BX,BK x.2.2]
 exact Int.eq_of_mul_eq_mul_left (by lia) e2
theorem aDm {y:Str}{n:Int}:∀ {ks:Gh},ks.Nodup->y∈ks->(ks.map λk=>if y=k then n else 0).sum=n
 |[],_,h=>by simp at h
 |k::ks,nd,h=>by
  rw [Ak,AI];have nd':=Ca.mp nd
  by_cases e:y=k
  ·subst e
   rw [if_pos rfl];have:∀ (ks:Gh),y∉ks->(ks.map λk=>if y=k then n else 0).sum=0:=by
    intro ks
    induction ks with
    |nil=>intro _;rfl
    |cons z r ih=>
     intro hz;rw [Ak,AI,if_neg (λe:y=z=>hz (e▸Al)),ih (λq=>hz (Ah _ q))];rfl
   rw [this ks nd'.1];lia
  ·rw [if_neg e,aDm nd'.2 ((AB.mp h).resolve_left e)]
   lia
theorem kX {M:Int}{x:Str×Int×Int}{xs:Gc}(y:Str):NW M (x::xs) y=(if x.1=y then nOf M x else 0)+NW M xs y:=by
 unfold NW sumN
 by_cases e:x.1=y
 ·rw [ED (by simpa using e),if_pos e,Ak,AI]
 ·rw [EE (by simpa using e),if_neg e]
  lia
theorem sum_add {f g:Str->Int}:∀ (ks:Gh),(ks.map λk=>f k+g k).sum=(ks.map f).sum+(ks.map g).sum
 |[]=>rfl
 |k::r=>by
  rw [Ak,Ak,Ak,AI,AI,AI,sum_add r];lia
theorem lQ {M:Int}{ks:Gh}(nd:ks.Nodup):∀ {xs:Gc},(∀ x∈xs,x.1∈ks)->(ks.map (NW M xs)).sum=sumN M xs
 |[],_=>by
  have:∀ r:Gh,(r.map (NW M [])).sum=0:=by
   intro r
   induction r with
   |nil=>rfl
   |cons k r ih=>rw [Ak,AI,ih];rfl
  exact this ks
 |x::xs,h=>by
  have e:(ks.map (NW M (x::xs)))=ks.map λk=>(if x.1=k then nOf M x else 0)+NW M xs k:=Dg λk _=>kX k;rw [e,sum_add,aDm nd (h x Al),lQ nd λy hy=>h y (Ah _ hy)];unfold sumN;rw [Ak,AI]
abbrev leS (a b:Str):Prop:=a.cps.toList<=b.cps.toList
def aFw {a b:Gh}(h:a.Perm b)(ha:a.Pairwise leS)(hb:b.Pairwise leS):a=b:=
 h.eq_of_pairwise (le:=leS) (λx y _ _ h1 h2=>TM.ext (EZ h1 h2)) ha hb
structure IsMx (M:Int)(f:Str->Int)(ys:Gc):Prop where
 pw:(ys.map (·.1)).Pairwise leS
 nd:(ys.map (·.1)).Nodup
 mem:∀ y,y∈ys.map (·.1)↔f y≠0
 fr:∀ p∈ys,Fr M p.2.1 p.2.2 (f p.1)
def IsMx.of {M:Int}{xs ys:Gc}(h:aJ2 M xs ys):IsMx M (NW M xs) ys:=by
 obtain ⟨ks,so,nd,mm,em,fr⟩:=h;refine ⟨?_,?_,λy=>?_,fr⟩
 ·rw [em]
  exact (jL so).filter _
 ·rw [em]
  exact nd.filter _
 ·rw [em,Ft]
  constructor
  ·exact λz=>of_decide_eq_true z.2
  ·intro z
   refine ⟨(mm y).mpr ?_,decide_eq_true z⟩
   by_cases hy:y∈xs.map (·.1)
   ·exact hy
   ·exact absurd (eE hy) z
def IsMx.congr {M:Int}{f g:Str->Int}{ys:Gc}(h:IsMx M f ys)(e:∀ y,f y=g y):IsMx M g ys:=by
 have:f=g:=funext e;exact this▸h
def IsMx.uniq {M:Int}(hM:0<M){f:Str->Int}{ys zs:Gc}(h:IsMx M f ys)(k:IsMx M f zs):ys=zs:=by
 have e:ys.map (·.1)=zs.map (·.1):=aFw ((List.perm_ext_iff_of_nodup h.nd k.nd).mpr λy=>by rw [h.mem,k.mem]) h.pw k.pw;exact sS hM e h.fr k.fr
def IsMx.over {M:Int}{f:Str->Int}{ys:Gc}(h:IsMx M f ys):Over M ys:=λx hx=>⟨(h.fr x hx).am,(h.fr x hx).dvd⟩
theorem IsMx.nw {M:Int}{f:Str->Int}{ys:Gc}(h:IsMx M f ys)(y:Str):NW M ys y=f y:=by
 have key:∀ (ys:Gc),(ys.map (·.1)).Nodup->(∀ p∈ys,Fr M p.2.1 p.2.2 (f p.1))->NW M ys y=if y∈ys.map (·.1) then f y else 0:=by
  intro ys
  induction ys with
  |nil=>intro _ _;rfl
  |cons x r ih=>
   intro nd fr;rw [Ak] at nd;have nd':=Ca.mp nd;rw [kX,ih nd'.2 λp hp=>fr p (Ah _ hp)]
   by_cases e:x.1=y
   ·subst e
    rw [if_pos rfl,if_neg nd'.1,if_pos (by simp),aJq (fr x Al)];lia
   ·rw [if_neg e]
    by_cases m:y∈r.map (·.1)
    ·rw [if_pos m,if_pos (by rw [Ak];exact Ah _ m)]
     lia
    ·rw [if_neg m,if_neg (by
      rw [Ak,AB]
      rintro (z|z)
      ·exact e z.symm
      ·exact m z)]
     rfl
 rw [key ys h.nd h.fr];split
 ·rfl
 ·rename_i hn
  by_cases z:f y=0
  ·exact z.symm
  ·exact absurd ((h.mem y).mpr z) hn
theorem kY {M:Int}(xs ys:Gc)(y:Str):NW M (xs++ys) y=NW M xs y+NW M ys y:=by
 unfold NW sumN;rw [CQ,AW,Fs]
theorem pL {M:Int}(xs ys:Gc):sumN M (xs++ys)=sumN M xs+sumN M ys:=by
 unfold sumN;rw [AW,Fs]
def Brt (M N ta ba:Int):Gc->Gc->Prop
 |[],[]=>True
 |x::xs,z::zs=>z.1=x.1/\Fr (N*ba) z.2.1 z.2.2 (nOf M x*ta)/\Brt M N ta ba xs zs
 |_,_=>False
structure Tw (K:Ab)(H:Hp)(p q:Gj)(t1 b1 t2 b2:Int):Prop where
 sp:SqT K H p [.int t1,.int b1]
 sq:SqT K H q [.int t2,.int b2]
 a1:Amt t1 b1
 a2:Amt t2 b2
 st1:Bt 4000 t1
 sb1:Bt 4000 b1
 st2:Bt 4000 t2
 sb2:Bt 4000 b2
inductive spTimes (K:Ab)(vs:Gq)(H:Hp)(Q:VK)(Ex:XK):Prop
 |mk (p q:Gj) (t1 b1 t2 b2:Int) (e0:vs=[.ref p,.ref q]) (e1:Tw K H p q t1 b1 t2 b2) (e2:RetT H Q [(t1*t2)/G (t1*t2) (b1*b2),(b1*b2)/G (t1*t2) (b1*b2)]):spTimes K vs H Q Ex
def aHy (K:Ab):Sp:=λvs H Q _=>∃ (m1 m2:Gj) (us1 us2:Gq) (ys1 ys2:Gc) (M:Int),vs=[.ref m1,.ref m2]/\SqT K H m1 us1/\PrL H us1 ys1/\SqT K H m2 us2/\PrL H us2 ys2 /\
 ys1.length+ys2.length<=63/\Over M ys1/\Over M ys2/\0<M/\Bt 3000 M/\Bt 3000 (sumN M (ys1++ys2)) /\
 ∀ m zs ys H',Same H H'->H' m=some (.tup zs)->PrL H' zs ys->IsMx M (λy=>NW M ys1 y+NW M ys2 y) ys->Q (.ref m) H'
def mul1 {a b:Int}(ha:1<=a)(hb:1<=b):1<=a*b:=by
 have:=EU ha hb (by decide) (by lia);lia
inductive spLess (K:Ab)(vs:Gq)(H:Hp)(Q:VK)(Ex:XK):Prop
 |mk (p q:Gj) (t1 b1 t2 b2:Int) (e0:vs=[.ref p,.ref q]) (e1:Tw K H p q t1 b1 t2 b2) (e2:Q (.bl (decide (t1*b2<t2*b1))) H):spLess K vs H Q Ex
inductive spMinus (K:Ab)(vs:Gq)(H:Hp)(Q:VK)(Ex:XK):Prop
 |mk (p q:Gj) (t1 b1 t2 b2:Int) (e0:vs=[.ref p,.ref q]) (e1:Tw K H p q t1 b1 t2 b2) (e2:t2*b1<=t1*b2) (e3:RetT H Q [(t1*b2-t2*b1)/G (t1*b2-t2*b1) (b1*b2),(b1*b2)/G (t1*b2-t2*b1) (b1*b2)]):spMinus K vs H Q Ex
def fT {M1 M2 t1 b1 n1 t2 b2 n2:Int}(h1:0<M1)(h2:0<M2)(f1:Fr M1 t1 b1 n1)(f2:Fr M2 t2 b2 n2)(le:n2*M1<=n1*M2):t2*b1<=t1*b2/\Fr (M1*M2) ((t1*b2-t2*b1)/G (t1*b2-t2*b1) (b1*b2)) ((b1*b2)/G (t1*b2-t2*b1) (b1*b2)) (n1*M2-n2*M1):=by
 have e1:=f1.e;have e2:=f2.e;have a1:=f1.am.b1;have a2:=f2.am.b1;have bb:1<=b1*b2:=mul1 a1 a2;have MM:0<M1*M2:=Ce h1 h2;have key:(t1*b2-t2*b1)*(M1*M2)=(n1*M2-n2*M1)*(b1*b2):=by grind
 have le':0<=t1*b2-t2*b1:=by
  have r:0<=(n1*M2-n2*M1)*(b1*b2):=Bu (by lia) (by lia);rw [<- key] at r;exact Int.nonneg_of_mul_nonneg_left r MM
 refine ⟨by lia,iF le' bb,?_⟩;have c:=fO (t1*b2-t2*b1) (b1*b2);generalize (t1*b2-t2*b1)/G (t1*b2-t2*b1) (b1*b2)=x at *
 generalize b1*b2/G (t1*b2-t2*b1) (b1*b2)=y at *
 refine BM (show b1*b2≠0 by lia) ?_
 grind
section
variable {P:Aw}{w:World}{K:Ab}{mg:Gb}{base:Heap}
def aFb:FnScope ["one","other"] ["one","other"] (aG wW):=fnScOk
def aCe {f:Gj}{fd:Ay}(F:Fun K "times" "times" wW f fd)(cL:Cal P w K mg base CX0 2 "lowest_terms" ["top","bottom"] aBs):FnOk P w K mg base CX0 3 f fd ["one","other"] (spTimes K):=by
 refine F.okA aFb (λcdv A outer s H vs Q E hr h=>?_)
 ·obtain ⟨p,q,t1,b1,t2,b2,rfl,T,k⟩:=h
  refine ⟨_,aE (aL (aI cL hr (aA (aP bJ (pit 0 0) (pit 1 0)) (aA (aP bJ (pit 0 1) (pit 1 1)) aB)))),?_⟩;refine ⟨p,_,_,rfl,T.sp,rfl,q,_,_,rfl,T.sq,rfl,_,_,rfl,rfl,⟨b6 T.st1,b6 T.st2⟩,?_⟩;exact ⟨p,_,_,rfl,T.sp,rfl,q,_,_,rfl,T.sq,rfl,_,_,rfl,rfl,⟨b6 T.sb1,b6 T.sb2⟩,_,_,rfl,Bu T.a1.t0 T.a2.t0,mul1 T.a1.b1 T.a2.b1,(T.sb1.mul T.sb2).mono,k⟩
def uR:FnScope ["one","other"] ["one","other"] (aG jS):=fnScOk
def qJ {f:Gj}{fd:Ay}(F:Fun K "together" "together" jS f fd)(T:Txt mg)(cM:Cal P w K mg base CX0 4 "mixture" ["pairs"] (jK K)):FnOk P w K mg base CX0 5 f fd ["one","other"] (aHy K):=by
 refine F.okA uR (λcdv A outer s H vs Q E hr h=>?_)
 ·obtain ⟨m1,m2,us1,us2,ys1,ys2,M,rfl,q1,p1,q2,p2,yl,o1,o2,M0,bM,bS,k⟩:=h
  refine ⟨_,(aE (aL (aI cM hr (aA (aP aD4 (aY bC rfl T.list' dS (aA (pv 0) aB)) (aY bC rfl T.list' dS (aA (pv 1) aB))) aB)))),?_⟩;refine ⟨_,rfl,m1,us1,rfl,.inr q1,λc1 hc1=>?_⟩;have s1:Same H (upd H c1 (.lst us1)):=Gu hc1;refine ⟨_,rfl,m2,us2,rfl,.inr (s1.tup q2),λc2 hc2=>?_⟩;have s2:Same (upd H c1 (.lst us1)) (upd (upd H c1 (.lst us1)) c2 (.lst us2)):=Gu hc2;have l1:=p1.length;have l2:=p2.length;refine ⟨c1,c2,us1,us2,rfl,rfl,s2 _ _ aD,aD,bP (by lia),λc3 hc3=>?_⟩;have s3:Same (upd (upd H c1 (.lst us1)) c2 (.lst us2)) (upd (upd (upd H c1 (.lst us1)) c2 (.lst us2)) c3 (.lst (us1++us2))):=Gu hc3;have s13:=(s1.trans s2).trans s3;refine ⟨c3,us1++us2,ys1++ys2,M,rfl,Gw aD,(p1.keep (Same.tk s13)).append (p2.keep (Same.tk s13)),by rw [As];lia,λx hx=>(Bm.mp hx).elim (o1 x) (o2 x),M0,bM,bS,λm zs ys H' s' hm pm mx=>?_⟩;exact k m zs ys H' (s13.trans s') hm pm ((IsMx.of mx).congr λy=>kY ys1 ys2 y)
def aGc {f:Gj}{fd:Ay}(F:Fun K "less" "less" aFk f fd):FnOk P w K mg base CX0 1 f fd ["one","other"] (spLess K):=by
 refine F.okA aH8 (λcdv A outer s H vs Q E hr h=>?_)
 ·obtain ⟨p,q,t1,b1,t2,b2,rfl,T,k⟩:=h
  refine ⟨_,aE (aL (dU yB (aP bJ (pit 0 0) (pit 1 1)) (aP bJ (pit 1 0) (pit 0 1)))),?_⟩;refine ⟨p,_,_,rfl,T.sp,rfl,q,_,_,rfl,T.sq,rfl,_,_,rfl,rfl,⟨b6 T.st1,b6 T.sb2⟩,q,_,_,rfl,T.sq,rfl,p,_,_,rfl,T.sp,rfl,_,_,rfl,rfl,⟨b6 T.st2,b6 T.sb1⟩,_,_,rfl,rfl,k⟩
def aFe:FnScope ["one","other"] ["one","other"] (aG xB):=fnScOk
def aCm {f:Gj}{fd:Ay}(F:Fun K "minus" "minus" xB f fd)(cE:Cal P w K mg base CX0 2 "less" ["one","other"] (spLess K))(cL:Cal P w K mg base CX0 2 "lowest_terms" ["top","bottom"] aBs):FnOk P w K mg base CX0 3 f fd ["one","other"] (spMinus K):=by
 refine F.okA aFe (λcdv A outer s H vs Q E hr h=>?_)
 ·obtain ⟨p,q,t1,b1,t2,b2,rfl,T,le,k⟩:=h
  refine ⟨_,aC (bD (dX (aI cE hr (aA (pv 0) (aA (pv 1) aB)))) (aE aB6) aS)
   (aE (aL (aI cL hr (aA (aP sV (aP bJ (pit 0 0) (pit 1 1)) (aP bJ (pit 1 0) (pit 0 1))) (aA (aP bJ (pit 0 1) (pit 1 1)) aB))))),?_⟩
  refine ⟨_,rfl,_,rfl,p,q,t1,b1,t2,b2,rfl,T,_,rfl,?_⟩;rw [decide_eq_false (by lia)];refine iteF ⟨p,_,_,rfl,T.sp,rfl,q,_,_,rfl,T.sq,rfl,_,_,rfl,rfl,⟨b6 T.st1,b6 T.sb2⟩,q,_,_,rfl,T.sq,rfl,p,_,_,rfl,T.sp,rfl,_,_,rfl,rfl,⟨b6 T.st2,b6 T.sb1⟩,_,_,rfl,rfl,?_⟩;exact ⟨p,_,_,rfl,T.sp,rfl,q,_,_,rfl,T.sq,rfl,_,_,rfl,rfl,⟨b6 T.sb1,b6 T.sb2⟩,_,_,rfl,by lia,mul1 T.a1.b1 T.a2.b1,(T.sb1.mul T.sb2).mono,k⟩
end
def Tw.bot {K:Ab}{H:Hp}{p q:Gj}{t1 b1 t2 b2:Int}(T:Tw K H p q t1 b1 t2 b2):1<=b1*b2/\Bt 8000 (b1*b2):=by
 have:=EU T.a1.b1 T.a2.b1 (by decide) (by have:=T.a1.b1;lia);exact ⟨by lia,T.sb1.mul T.sb2⟩
def Tw.nn {K:Ab}{H:Hp}{p q:Gj}{t1 b1 t2 b2:Int}(T:Tw K H p q t1 b1 t2 b2):0<=t1*b2/\0<=t2*b1/\0<=t1*t2:=
 ⟨Bu T.a1.t0 (by have:=T.a2.b1;lia),Bu T.a2.t0 (by have:=T.a1.b1;lia),Bu T.a1.t0 T.a2.t0⟩
inductive spAdd (K:Ab)(vs:Gq)(H:Hp)(Q:VK)(Ex:XK):Prop
 |mk (p q:Gj) (t1 b1 t2 b2:Int) (e0:vs=[.ref p,.ref q]) (e1:Tw K H p q t1 b1 t2 b2) (e2:RetT H Q [(t1*b2+t2*b1)/G (t1*b2+t2*b1) (b1*b2),(b1*b2)/G (t1*b2+t2*b1) (b1*b2)]):spAdd K vs H Q Ex
inductive spTake (K:Ab)(vs:Gq)(H:Hp)(Q:VK)(Ex:XK):Prop
 |mk (p q:Gj) (t1 b1 t2 b2:Int) (e0:vs=[.ref p,.ref q]) (e1:Tw K H p q t1 b1 t2 b2) (e2:t2*b1<=t1*b2) (e3:RetT H Q [(t1*b2-t2*b1)/G (t1*b2-t2*b1) (b1*b2),(b1*b2)/G (t1*b2-t2*b1) (b1*b2)]):spTake K vs H Q Ex
inductive spBy (K:Ab)(vs:Gq)(H:Hp)(Q:VK)(Ex:XK):Prop
 |mk (p q:Gj) (t1 b1 t2 b2:Int) (e0:vs=[.ref p,.ref q]) (e1:Tw K H p q t1 b1 t2 b2) (e2:RetT H Q [(t1*t2)/G (t1*t2) (b1*b2),(b1*b2)/G (t1*t2) (b1*b2)]):spBy K vs H Q Ex
def pairOf:Gq->Gf->Gh->V
 |u::us,p::ps,xs=>if p.1∈xs/\p.2∈xs then u else pairOf us ps xs
 |_,_,_=>.non
theorem kK {us:Gq}{ps:Gf}{xs:Gh}{i:Nat}{u:V}{p:Str×Str}(hu:us[i]?=some u)(hp:ps[i]?=some p):pairOf (us.drop i) (ps.drop i) xs=if p.1∈xs/\p.2∈xs then u else pairOf (us.drop (i+1)) (ps.drop (i+1)) xs:=by
 obtain ⟨h1,e1⟩:=Ac.mp hu;obtain ⟨h2,e2⟩:=Ac.mp hp;rw [El h1,El h2,e1,e2];rfl
theorem iD {ps:Gf}{xs:Gh}:pairOf [] ps xs=.non:=by
 cases ps<;>rfl
def rT (K:Ab):Sp:=λvs H Q _=>∃ (p r q:Gj) (rs us:Gq) (ps:Gf) (nm:Gj) (xs:Gh),vs=[.ref p,.ref nm]/\Bn H p r q rs us ps/\SqT K H nm (xs.map V.str)/\Q (pairOf us ps xs) H
def RmL (H:Hp)(rs:Gq)(rbs:Gg):Prop:=rs.length=rbs.length/\∀ (i:Nat) v rb,rs[i]?=some v->rbs[i]?=some rb->∃ q,v=.ref q/\H q=some (.tup [.int rb.1,.int rb.2])/\Rm rb.1 rb.2
def RmL.keep {H H':Hp}{rs:Gq}{rbs:Gg}(h:RmL H rs rbs)(k:Tk H H'):RmL H' rs rbs:=⟨h.1,λi v d hv hd=>by
 obtain ⟨q,e,h1,h2⟩:=h.2 i v d hv hd;exact ⟨q,e,k _ _ h1,h2⟩⟩
theorem RmL.get {H:Hp}{vs:Gq}{ds:Gg}(h:RmL H vs ds){i:Nat}{v:V}(hv:vs[i]?=some v):∃ d,ds[i]?=some d/\∃ q,v=.ref q/\H q=some (.tup [.int d.1,.int d.2])/\Rm d.1 d.2:=by
 obtain ⟨d,hd⟩:∃ d,ds[i]?=some d:=⟨_,Ae (by rw [<- h.1];exact (Ac.mp hv).1)⟩;exact ⟨d,hd,h.2 i v d hv hd⟩
theorem RmsT.list {H:Hp}:∀ {rs:Gq},RmsT H rs->∃ rbs,RmL H rs rbs
 |[],_=>⟨[],rfl,λi v rb h=>by simp at h⟩
 |u::r,h=>by
  obtain ⟨q,t,b,rfl,sq,rm⟩:=h u (Al ..);obtain ⟨rbs,l,k⟩:=RmsT.list (rs:=r) λx hx=>h x (Ah _ hx);refine ⟨(t,b)::rbs,by rw [AS,AS,l],λi v rb hv hb=>?_⟩;cases i with
  |zero=>
   cases hv;cases hb;exact ⟨q,rfl,sq,rm⟩
  |succ i=>exact k i v rb (by simpa using hv) (by simpa using hb)
theorem aAf {M t b N rt rb:Int}(hM:0<M)(h:Fr M t b N):decide (rt*b<t*rb)=decide (rt*M<N*rb):=by
 have b0:0<b:=by have:=h.am.b1;lia
 refine decide_eq_decide.mpr ?_;have e1:rt*b*M=rt*M*b:=AV ..;have e2:t*rb*M=N*rb*b:=by rw [AV,h.e,AV]
 rw [<- Fn hM,e1,e2,Fn b0]
section
variable {P:Aw}{w:World}{K:Ab}{mg:Gb}{base:Heap}
def aKn:FnScope ["_law_one","_law_other"] ["_law_one","_law_other"] (aG sAdd):=fnScOk
def aI8 {f:Gj}{fd:Ay}(F:Fun K "_law_add" "_law_add" sAdd f fd)(cL:Cal P w K mg base CX0 1 "_law_lowest" ["_law_top","_law_bottom"] eG):FnOk P w K mg base CX0 2 f fd ["_law_one","_law_other"] (spAdd K):=by
 refine F.okA aKn (λcdv A outer s H vs Q E hr h=>?_)
 ·obtain ⟨p,q,t1,b1,t2,b2,rfl,T,k⟩:=h
  refine ⟨_,aE (aL (aI cL hr (aA (aP bL (aP bJ (pit 0 0) (pit 1 1)) (aP bJ (pit 1 0) (pit 0 1))) (aA (aP bJ (pit 0 1) (pit 1 1)) aB)))),?_⟩;have nn:=T.nn;refine ⟨p,_,_,rfl,T.sp,rfl,q,_,_,rfl,T.sq,rfl,_,_,rfl,rfl,⟨b6 T.st1,b6 T.sb2⟩,q,_,_,rfl,T.sq,rfl,p,_,_,rfl,T.sp,rfl,_,_,rfl,rfl,⟨b6 T.st2,b6 T.sb1⟩,_,_,rfl,rfl,?_⟩;exact ⟨p,_,_,rfl,T.sp,rfl,q,_,_,rfl,T.sq,rfl,_,_,rfl,rfl,⟨b6 T.sb1,b6 T.sb2⟩,_,_,rfl,by lia,T.bot.1,T.bot.2.mono,λz H' s _ e=>k z H' s e⟩
def aH4:FnScope ["_law_one","_law_other"] ["_law_one","_law_other"] (aG aFg):=fnScOk
def aF8 {f:Gj}{fd:Ay}(F:Fun K "_law_take" "_law_take" aFg f fd)(cL:Cal P w K mg base CX0 1 "_law_lowest" ["_law_top","_law_bottom"] eG):FnOk P w K mg base CX0 2 f fd ["_law_one","_law_other"] (spTake K):=by
 refine F.okA aH4 (λcdv A outer s H vs Q E hr h=>?_)
 ·obtain ⟨p,q,t1,b1,t2,b2,rfl,T,le,k⟩:=h
  refine ⟨_,aE (aL (aI cL hr (aA (aP sV (aP bJ (pit 0 0) (pit 1 1)) (aP bJ (pit 1 0) (pit 0 1))) (aA (aP bJ (pit 0 1) (pit 1 1)) aB)))),?_⟩;refine ⟨p,_,_,rfl,T.sp,rfl,q,_,_,rfl,T.sq,rfl,_,_,rfl,rfl,⟨b6 T.st1,b6 T.sb2⟩,q,_,_,rfl,T.sq,rfl,p,_,_,rfl,T.sp,rfl,_,_,rfl,rfl,⟨b6 T.st2,b6 T.sb1⟩,_,_,rfl,rfl,?_⟩;exact ⟨p,_,_,rfl,T.sp,rfl,q,_,_,rfl,T.sq,rfl,_,_,rfl,rfl,⟨b6 T.sb1,b6 T.sb2⟩,_,_,rfl,by lia,T.bot.1,T.bot.2.mono,λz H' s _ e=>k z H' s e⟩
def scBy:FnScope ["_law_one","_law_other"] ["_law_one","_law_other"] (aG sBy):=fnScOk
def aK2 {f:Gj}{fd:Ay}(F:Fun K "_law_by" "_law_by" sBy f fd)(cL:Cal P w K mg base CX0 1 "_law_lowest" ["_law_top","_law_bottom"] eG):FnOk P w K mg base CX0 2 f fd ["_law_one","_law_other"] (spBy K):=by
 refine F.okA scBy (λcdv A outer s H vs Q E hr h=>?_)
 ·obtain ⟨p,q,t1,b1,t2,b2,rfl,T,k⟩:=h
  refine ⟨_,aE (aL (aI cL hr (aA (aP bJ (pit 0 0) (pit 1 0)) (aA (aP bJ (pit 0 1) (pit 1 1)) aB)))),?_⟩;refine ⟨p,_,_,rfl,T.sp,rfl,q,_,_,rfl,T.sq,rfl,_,_,rfl,rfl,⟨b6 T.st1,b6 T.st2⟩,?_⟩;exact ⟨p,_,_,rfl,T.sp,rfl,q,_,_,rfl,T.sq,rfl,_,_,rfl,rfl,⟨b6 T.sb1,b6 T.sb2⟩,_,_,rfl,T.nn.2.2,T.bot.1,T.bot.2.mono,λz H' s _ e=>k z H' s e⟩
def aFa:FnScope ["_law_one","_law_other"] ["_law_one","_law_other"] (aG wV):=fnScOk
def aCd {f:Gj}{fd:Ay}(F:Fun K "_law_under" "_law_under" wV f fd):FnOk P w K mg base CX0 1 f fd ["_law_one","_law_other"] (spLess K):=by
 refine F.okA aFa (λcdv A outer s H vs Q E hr h=>?_)
 ·obtain ⟨p,q,t1,b1,t2,b2,rfl,T,k⟩:=h
  refine ⟨_,aE (aL (dU yB (aP bJ (pit 0 0) (pit 1 1)) (aP bJ (pit 1 0) (pit 0 1)))),?_⟩;refine ⟨p,_,_,rfl,T.sp,rfl,q,_,_,rfl,T.sq,rfl,_,_,rfl,rfl,⟨b6 T.st1,b6 T.sb2⟩,q,_,_,rfl,T.sq,rfl,p,_,_,rfl,T.sp,rfl,_,_,rfl,rfl,⟨b6 T.st2,b6 T.sb1⟩,_,_,rfl,rfl,k⟩
def rY:FnScope ["bench","names","pair"] ["bench","names"] (aG pV):=fnScOk
def yK {f:Gj}{fd:Ay}(F:Fun K "pair_in" "pair_in" pV f fd):FnOk P w K mg base CX0 1 f fd ["bench","names"] (rT K):=by
 refine F.okA rY (λcdv A outer s H vs Q E hr h=>?_)
 ·obtain ⟨p,r,q,rs,us,ps,nm,xs,rfl,bn,hn,k⟩:=h
  refine ⟨_,(aC (bR AJ rfl (iL (pit 0 1)) (aQ (i:=2) rY.nd)
    (aE (bD (PW.pt (fH (aM eK (pit 2 0) (pv 1) rfl) (eQ (aM eK (pit 2 1) (pv 1) rfl)))) (aE (aL (pv 2))) aS)))
   (aE (aL dI))),?_⟩
  have hq:SqT K H q us:=Gv bn.hq;refine ⟨p,_,_,rfl,Gv bn.hp,rfl,q,rfl,⟨_,hq⟩,?_⟩;refine mS (xs:=us) (λi σ H'=>∃ v2:Gr,σ=[some (.ref p),some (.ref nm),v2]/\pairOf us ps xs=pairOf (us.drop i) (ps.drop i) xs/\H'=H) ⟨none,rfl,rfl,rfl⟩ ?_ ?_ ?_
  ·rintro i σ H' hi ⟨_,rfl,_,rfl⟩
   exact hq
  ·rintro i v σ H2 hv ⟨v2,rfl,e,rfl⟩
   obtain ⟨y,hy⟩:∃ y,ps[i]?=some y:=⟨_,Ae (by rw [<- bn.pt.1];exact (Ac.mp hv).1)⟩;obtain ⟨z,rfl,hz⟩:=bn.pt.2 i v y hv hy;have hz':SqT K H2 z [.str y.1,.str y.2]:=Gv hz;rw [kK hv hy] at e;refine ⟨z,_,_,rfl,hz',rfl,_,rfl,nm,_,rfl,.inr hn,rfl,fP xs,_,rfl,ite2 (λh1=>?_) (λh1=>?_)⟩
   ·have m1:=eJ.mp h1
    refine ⟨z,_,_,rfl,hz',rfl,_,rfl,nm,_,rfl,.inr hn,rfl,fP xs,_,rfl,ite2 (λh2=>?_) (λh2=>?_)⟩
    ·rw [if_pos ⟨m1,eJ.mp h2⟩] at e
     rw [e] at k;exact ⟨_,rfl,k⟩
    ·rw [if_neg λz=>h2 (eJ.mpr z.2)] at e
     exact ⟨_,rfl,e,rfl⟩
   ·rw [if_neg λz=>h1 (eJ.mpr z.1)] at e
    exact ⟨_,rfl,e,rfl⟩
  ·rintro σ H2 ⟨v2,rfl,e,rfl⟩
   rw [List.drop_length,iD] at e;rw [e] at k;exact k
end
end K53
namespace L2
open PySem.W
def tTryN (K:Frag)(Dc:Gj)(tb:St->XK->TS)(th:TS):TS:=λD σ H=>tb σ (λcls _ H'=>∃ C,cls=.ref C/\ExK K C/\subIn K (.ref C) (.ref Dc)=some true/\th D σ H') D σ H
section
variable {X:Cx}
end
section
variable {X:Cx}
def xX (hu:X.A.units+64<cLine):OpR X (BW .NotEq) (λx y H Q=>∃ a b xs,x=.ref a/\y=.ref b/\SqT X.K H a xs/\SqT X.K H b []/\Q (.bl (!xs.isEmpty)) H):=by
 intro Z s σ H x y v u Q I rx ry h;obtain ⟨a,b,xs,rfl,rfl,ha,hb,q⟩:=h;cases rx;cases ry;obtain ⟨its,r,p,_⟩:=I.tuple ha;obtain ⟨its',r',p',_⟩:=I.tuple hb;cases r';obtain ⟨o,o1,o2,n,o3⟩:=p;obtain ⟨o',o1',o2',n',o3'⟩:=p';have key:=SeqAt.RcNeAt.tuples (A:=X.A) (s:=s) (l:=a) (b:=b) (items:=its.toArray) (items2:=#[]) (e:=λ_=>true) ⟨o,o1,o2,n,o3⟩ ⟨o',o1',o2',n',o3'⟩ (by lia) (λj h1 h2=>absurd h2 (by simp));cases r with
 |nil=>exact key X.prog X.w X.xe _ ⟨.bl _,H,I,rfl,q⟩
 |cons r t=>exact key X.prog X.w X.xe _ ⟨.bl _,H,I,rfl,q⟩
end
end L2
namespace L2
open PySem.W PySem.Builtin PySem.Builtin.ObjectAttr
section
variable {X:Cx}{o value:Expr}{x:Str}{pos pos':Pos}{ta tv:TE}{C P f:Gj}
def sExM (K:Frag)(C P f:Gj)(ta tv:TE)(x:Str):TS:=λD σ H=>tv σ H λy H1=>ta σ H1 λz H2=>∃ a dx fs,z=.ref a/\H2 a=some (exN a C (some dx))/\H2 dx=some (xdE dx fs)/\fs.length<=90/\ExF K C P f x /\
 D.nx σ (upd H2 dx (xdE dx ((x,y)::fs)))
def jV (ha:PE X o ta)(hv:PE X value tv)(hs:swapsWith value (some (.Attribute o x pos')) pos.line X.env=pure false):PS X (.Assign [.Attribute o x pos'] value pos) (sExM X.K C P f ta tv x):=by
 intro Z s σ H D I h;refine Fd (thn (hv Z s σ H _ I h) λu s1 ⟨y,H1,I1,ry,q⟩=>thn (ha Z s1 σ H1 _ I1 q) λov s2 ⟨z,H2,I2,rx,a,dx,fs,ez,ea,ed,hl,F,q2⟩=>?_) hs;subst ez;obtain rfl:ov=AD a:=rx;obtain ⟨⟨ob,t',⟨o1,o2,o3⟩,o4⟩,_⟩:=I2.hok _ _ ea;obtain ⟨⟨mA,n1,r1,w1⟩,_⟩:=I2.hok _ _ ed;obtain ⟨hh,g,d,tk,os⟩:=s2;refine oO I2.kIn (mX I2.kIn F.i.xi) F.i.k F.sa F.nn ⟨o1,o2⟩ o3 n1 w1 (by rw [Ag];lia) λh' tk' hn' ks=>?_;have hx:∃ u,h'.get? dx=some u:=by
  obtain ⟨o,es,ep,e,q⟩:=id hn';exact ⟨o,e⟩
 refine ⟨σ,_,I2.write (x:=dx) (e:=dx) (t':=tk') (by rw [ed];exact DE) (.inl rfl) ks hx ?_,q2⟩;refine aDh hn' (λg=>?_) (λg hg=>?_)
 ·by_cases z:g=x
  ·subst z
   simp only [DI,beq_self_eq_true,if_true];exact ry
  ·have:((x,y)::fs:Gn).lookup g=fs.lookup g:=by
    simp only [DI];rw [beq_eq_false_iff_ne.mpr z]
   rw [this,if_neg z];exact r1 g
 ·by_cases z:g=x
  ·rw [z];simp
  ·rw [if_neg z] at hg
   exact Ah _ (w1 g hg)
end
end L2
namespace SX
def byT (w:World):Bool:=w.params.followText "set-order"
def kv:Gk->Str
 |.str x _=>x
 |_=>⟨#[]⟩
def vD (t:Cn)(es:Array (Int×Gk))(c:Int)(x:Gk):(layNew t es c x).2.1.led=t.led:=by
 unfold layNew;split
 ·unfold Cn.orStandIn
  simp only;split<;>rfl
 ·rfl
def aCx {m f v:Nat}{l p:Bool}{r:Cn×Array Nat}(h:Cn.laid m f v l p hs=some r):r.1.led=l/\r.1.plain=p:=by
 unfold Cn.laid at h;cases e:Cn.layClean m hs with
 |none=>rw [e] at h;cases h
 |some o=>
  rw [e] at h;cases h;exact ⟨rfl,rfl⟩
def xI (t:Cn)(es:Array (Int×Gk))(n:Nat)(hp:t.plain=false):(relayAll t es n).2.1.led=t.led/\(relayAll t es n).2.1.plain=false:=by
 unfold relayAll;split
 ·next t' o e=>
  have q:=aCx (show Cn.laid _ _ _ t.led t.plain _=some _ from e);simp only;split
  ·exact ⟨q.1,q.2.trans hp⟩
  ·exact ⟨rfl,rfl⟩
 ·exact ⟨rfl,rfl⟩
def setO (es:Array (Int×Gk))(ep:Nat)(t:Cn):Obj:={ cls:=.type "set",dict:=none,data:=.set es ep t,slots:=#[] }
structure SetS (P:Aw)(w:World)(h:Heap)(a:Gj)(ks:Gh):Prop where
 ex:∃ es ep t,h.get? a=some (setO es ep t)/\ElemsOf (strKind P w) es.toList/\t.fits es.size=true/\t.led=(!byT w)/\(t.plain=false\/es.size=0)/\(es.toList.map λe=>kv e.2).Perm ks
 nd:ks.Nodup
 lt:ks.length<EN
def dd (ks:Gh)(x:Str):Gh:=if x∈ks then ks else ks++[x]
def ddl (ss:Gh):Gh:=ss.foldl dd []
theorem aJw :y∈dd ks x↔y∈ks\/y=x:=by
 unfold dd;split
 ·next h=>exact ⟨.inl,λz=>z.elim id λe=>e▸h⟩
 ·simp
def uD (h:ks.Nodup):(dd ks x).Nodup:=by
 unfold dd;split
 ·exact h
 ·next n=>
  rw [List.nodup_append];refine ⟨h,by simp,λa ha b hb=>?_⟩;rw [Az.mp hb];exact λe=>n (e▸ha)
def aEn :(dd ks x).length<=ks.length+1:=by
 unfold dd;split
 ·lia
 ·simp
theorem aDb (ss:Gh)(x:Str):ddl (ss++[x])=dd (ddl ss) x:=by unfold ddl;rw [List.foldl_append];rfl
theorem mV:∀ (ss acc:Gh),acc.Nodup->(ss.foldl dd acc).Nodup/\(∀ y,y∈ss.foldl dd acc↔y∈acc\/y∈ss)/\(ss.foldl dd acc).length<=acc.length+ss.length
 |[],acc,h=>⟨h,λy=>by simp,by simp⟩
 |x::r,acc,h=>by
  obtain ⟨a,b,c⟩:=mV r (dd acc x) (uD h);refine ⟨a,λy=>?_,?_⟩
  ·rw [Fu,b,aJw,AB]
   exact or_assoc
  ·rw [Fu,AS]
   have:=aEn (ks:=acc) (x:=x);lia
def ddl_nodup (ss:Gh):(ddl ss).Nodup:=(mV ss [] Ej).1
theorem ddl_mem :y∈ddl ss↔y∈ss:=((mV ss [] Ej).2.1 y).trans (by simp)
def ddl_len (ss:Gh):(ddl ss).length<=ss.length:=by
 have h:=(mV ss [] Ej).2.2;rw [List.length_nil,Nat.zero_add] at h;exact h
def aEj {w:World}(el:ElemsOf (strKind P w) es)(h:e∈es):∃ t,e.2=.str (kv e.2) t:=by
 obtain ⟨⟨k,hk,_⟩,_⟩:=el e h;obtain ⟨t,ht⟩:=DF (x:=k) (v:=e.2) hk;exact ⟨t,by rw [ht];rfl⟩
def aJt {w:World}(el:ElemsOf (strKind P w) es)(pm:(es.map λe=>kv e.2).Perm ks)(x:Str):x∈ks↔∃ e∈es,(strKind P w).is x e.2=true:=by
 rw [<- pm.mem_iff,AK];constructor
 ·rintro ⟨e,he,rfl⟩
  obtain ⟨t,ht⟩:=aEj el he;exact ⟨e,he,by rw [ht];exact strKind_is P w _ t⟩
 ·rintro ⟨e,he,h⟩
  obtain ⟨t,ht⟩:=DF (x:=x) (v:=e.2) h;exact ⟨e,he,by rw [ht];rfl⟩
section
variable {P:Aw}{w:World}{A:Around}{E:Ga}{s:Gm}
theorem SetS.stored {h:Heap}{a:Gj}{es es':Array (Int×Gk)}{ep:Nat}{t t':Cn}{ks:Gh}(ho:h.get? a=some (setO es ep t))(el:ElemsOf (strKind P w) es'.toList)(hf:t'.fits es'.size=true)(hl:t'.led=(!byT w))(hp:t'.plain=false)
  (pm:(es'.toList.map λe=>kv e.2).Perm ks) (nd:ks.Nodup) (lt:ks.length<EN):(h.update a (Obj.putSet es' t')).get? a=some (setO es' (ep+1) t')/\SetS P w (h.update a (Obj.putSet es' t')) a ks:=by
 have hg:(h.update a (Obj.putSet es' t')).get? a=some (setO es' (ep+1) t'):=by
  have:=Cd (Obj.putSet es' t') ho (by rw [putSet_of es' t' rfl];rfl);rw [putSet_of es' t' rfl] at this;exact this
 exact ⟨hg,⟨_,_,_,hg,el,hf,hl,.inl hp,pm⟩,nd,lt⟩
def rP {g:Bool->Sem Unit}(hg:∀ (b:Bool) (s1:Gm) (Q':Unit->Gm->Prop),Q' () s1->wpAny (model P w) A (g b) Q' E s1){a:Gj}{es es1:Array (Int×Gk)}{ep:Nat}{t t2:Cn}{ks:Gh}{wd:Bool}{R:Option Bool->Gm->Prop}
  (ho:s.heap.get? a=some (setO es ep t)) (el:ElemsOf (strKind P w) es1.toList) (hf:t2.fits es1.size=true) (hl:t2.led=(!byT w)) (hp:t2.plain=false) (pm:(es1.toList.map λe=>kv e.2).Perm ks) (nd:ks.Nodup) (lt:ks.length<EN)
  (h:∀ h',Cv a s.heap h'->SetS P w h' a ks->R (some true) { s with heap:=h' }) :
  wpAny (model P w) A (do
    storeSet a es1 t2
    if (!wd&&t2.tooFull)=true then do
      g (relayAll t2 es1 (DZ es1.size)).2.2;storeSet a (relayAll t2 es1 (DZ es1.size)).1 (relayAll t2 es1 (DZ es1.size)).2.1;pure (some true)
     else pure (some true)) R E s:=by
 have sz:es1.size=ks.length:=by rw [<- BL,<- Ag (f:=λe=>kv e.2),pm.length_eq]
 refine Aa (wpAny_storeSet_of ho rfl ?_ (Ff (by lia)));obtain ⟨o1,S1⟩:=SetS.stored (P:=P) (w:=w) ho el hf hl hp pm nd lt;have b1:=EK s.heap a (Obj.putSet es1 t2);split
 ·have p2:=relayAll_perm t2 es1 (DZ es1.size)
  have f2:=relayAll_fits t2 es1 (DZ es1.size);have l2:=xI t2 es1 (DZ es1.size) hp;generalize relayAll t2 es1 (DZ es1.size)=r at p2 f2 l2 ⊢;obtain ⟨es2,t3,gv⟩:=r;dsimp only at p2 f2 l2 ⊢;have pm2:=(p2.map λe=>kv e.2).trans pm;have sz2:es2.size=ks.length:=by rw [<- BL,<- Ag (f:=λe=>kv e.2),pm2.length_eq]
  refine Aa (hg _ _ _ ?_);refine Aa (wpAny_storeSet_of o1 rfl ?_ (Ff (by lia)));obtain ⟨_,S2⟩:=SetS.stored (P:=P) (w:=w) o1 (el.perm p2) f2 (l2.1.trans hl) l2.2 pm2 nd lt;exact Af (h _ (b1.trans (EK _ a _)) S2)
 ·exact Af (h _ b1 S1)
def add_str {tk:Tok}{Q:Bool->Gm->Prop}(S:SetS P w s.heap a ks)(hr:ks.length+1<EN)(h:∀ b h',Cv a s.heap h'->SetS P w h' a (dd ks x)->Q b { s with heap:=h' }) :
  wpAny (model P w) A (setAddHashed a (.str x tk) ((strKind P w).hash x)) Q E s:=by
 have S0:=S;obtain ⟨⟨es,ep,t,ho,el,hf,hl,hp,pm⟩,nd,lt⟩:=S;have sz:es.size=ks.length:=by rw [<- BL,<- Ag (f:=λe=>kv e.2),pm.length_eq]
 have key:=strKind_is P w x tk;have hsc:(Value.str x tk).scannable=true:=rfl;unfold setAddHashed setAddHashedIn;refine BD (Aa (En ho rfl hf ?_));dsimp only;rw [byScan_of (knd:=strKind P w) hsc (by lia) el];simp only [↓reduceIte];unfold setAddByScan;refine Aa (Aa (DC (Aa (wpAny_setScan_of key ho rfl hf el ?_))));have mem:=aJt el pm x;cases q:List.findIdx? (λe=>(strKind P w).is x e.2) es.toList with
 |some j=>
  dsimp only;obtain ⟨hj,hpj,_⟩:=List.findIdx?_eq_some_iff_getElem.mp q;have hin:x∈ks:=mem.mpr ⟨es.toList[j],DP hj,hpj⟩;refine Af (Af ?_);have e:dd ks x=ks:=by unfold dd;rw [if_pos hin]
  exact h false s.heap (Cv.refl a s.heap) (by rw [e];exact S0)
 |none=>
  dsimp only;have hin:x∉ks:=λz=>by
   obtain ⟨e,he,hpe⟩:=mem.mp z;have:=List.findIdx?_eq_none_iff.mp q e he;rw [hpe] at this;cases this
  have e:dd ks x=ks++[x]:=by unfold dd;rw [if_neg hin]
  have hgw:∀ (b:Bool) {s1:Gm} {Q':Unit->Gm->Prop},Q' () s1->wpAny (model P w) A (match b with|true=>rule "set.scan.the-table-gave-way" | false=>pure ()) Q' E s1:=λb s1 Q' z=>by
   cases b
   ·exact Af z
   ·exact DC z
  have lp:=layNew_perm t es ((strKind P w).hash x) (.str x tk);have lf:=layNew_fits t es ((strKind P w).hash x) (.str x tk);have ll:=vD t es ((strKind P w).hash x) (.str x tk);generalize layNew t es ((strKind P w).hash x) (.str x tk)=r at lp lf ll ⊢;obtain ⟨es1,t1,wd,gv⟩:=r;dsimp only at lp lf ll ⊢;rw [Array.toList_push] at lp;have el1:ElemsOf (strKind P w) es1.toList:=(el.push key hsc).perm lp;have pm1:(es1.toList.map λe=>kv e.2).Perm (dd ks x):=by
   rw [e];refine (lp.map _).trans ?_;rw [AW];exact pm.append_right _
  have nd1:=uD (x:=x) nd;have lt1:(dd ks x).length<EN:=by have:=aEn (ks:=ks) (x:=x);lia
  refine Aa (hgw _ ?_);split
  ·refine Aa ?_
   rw [hashByValue_scannable 8 hsc];refine Af ?_;refine rP (ks:=dd ks x) ?_ ho el1 (Cn.fits_plain_off lf) (ll.trans hl) rfl pm1 nd1 lt1 ?_
   ·intro b s1 Q' z
    cases b
    ·exact Af z
    ·exact DC z
   ·intro h' sb S'
    exact Af (h _ h' sb S')
  ·next np=>
   refine Aa (Af ?_);simp only [↓reduceIte];refine rP (ks:=dd ks x) ?_ ho el1 lf (ll.trans hl) (by simpa using np) pm1 nd1 lt1 ?_
   ·intro b s1 Q' z
    cases b
    ·exact Af z
    ·exact DC z
   ·intro h' sb S'
    exact Af (h _ h' sb S')
end
theorem SetS.at {w:World}(S:SetS P w h a ks)(k:∀ o,h.get? a=some o->h'.get? a=some o):SetS P w h' a ks:=by
 obtain ⟨⟨es,ep,t,ho,r⟩,nd,lt⟩:=S;exact ⟨⟨es,ep,t,k _ ho,r⟩,nd,lt⟩
theorem pM:∀ {vs:Gi} {ss:Gh},ES vs ss->∀ (i:Nat) (v:Gk),vs[i]?=some v->∃ x t,ss[i]?=some x/\v=.str x t
 |_,_,.nil,i,v,h=>by simp at h
 |_,_,.cons y t hr,0,v,h=>by simp at h;exact ⟨y,t,rfl,h.symm⟩
 |_,_,.cons y t hr,i+1,v,h=>by
  obtain ⟨x,u,h1,h2⟩:=pM hr i v (by simpa using h);exact ⟨x,u,by simpa using h1,h2⟩
section
variable {P:Aw}{w:World}{A:Around}{R:Result->Gm->Prop}{I:Gj}{fp wr:List Gj}{G:Array GenState->Array GenState->Prop}{n:Nat}{Pr:Nat->Gk->Prop}{St:Nat->Gm->Prop}
def rM (W:WalksS P w A.in1 I fp wr G n Pr St)(a:Gj)(haf:a∉fp)(ss:Gh)(hl:ss.length=n)(hval:∀ i v,Pr i v->∃ x t,ss[i]?=some x/\v=.str x t)(hb:n+1<EN) :
  ∀ (k i:Nat) (s:Gm),n-i=k->i<=n->St i s->SetS P w s.heap a (ddl (ss.take i))->(∀ s',Moved (a::wr) G s s'->SetS P w s'.heap a (ddl ss)->R (.ok (.ret .none)) s') ->
   Eu (model P w) A (.builtin "set.update.loop" ⟨[.ref a,.ref I],[]⟩) R s:=by
 have haw:a∉wr:=λh=>haf (W.sub _ h);have sub:∀ b∈wr,b∈a::wr:=λb hb=>Ah _ hb;intro k
 induction k with
 |zero=>
  intro i s hk hi st S q;obtain rfl:i=n:=by lia
  refine CG F.entry_set_update_loop ?_;rw [CA FJ _];show wpAny _ A.in1 (pyNext (.ref I) >>= _) _ _ s;refine Aa (W.done s _ _ st λs' hm=>?_);show wpAny _ A.in1 (ret BN) _ _ s';refine Af (q s' (hm.mono sub) ?_);rw [Dk (by lia)] at S;exact S.at λo e=>hm.heap a o haw e
 |succ k ih=>
  intro i s hk hi st S q;have lt:i<n:=by lia
  refine CG F.entry_set_update_loop ?_;rw [CA FJ _];show wpAny _ A.in1 (pyNext (.ref I) >>= _) _ _ s;refine Aa (W.item i s _ _ lt st λv s' hP st' hm=>?_);obtain ⟨x,t,hx,rfl⟩:=hval i v hP;have S':SetS P w s'.heap a (ddl (ss.take i)):=S.at λo e=>hm.heap a o haw e;show wpAny _ A.in1 (holding [Value.str x t] (setAdd a (.str x t)) >>= _) _ _ s';refine Aa (BD ?_);unfold setAdd;refine BD ?_;refine Aa ((strKind P w).pyHash (k:=x) (strKind_is _ _ _ _) ?_);have room:(ddl (ss.take i)).length+1<EN:=by
   have h1:=ddl_len (ss.take i);rw [Dr] at h1;lia
  refine add_str (s:={ s' with toks:=s'.toks+1 }) S' room λb h' sb S2=>?_;have S3:SetS P w h' a (ddl (ss.take (i+1))):=by
   have e:ss.take (i+1)=ss.take i++[x]:=by rw [List.take_succ,hx];rfl
   rw [e,aDb];exact S2
  refine Af ⟨Eo FJ _,ih (i+1) _ (by lia) lt (W.frame _ s' _ _ st' (CU _) λb hb o e=>?_) S3 λs2 m2 z2=>?_⟩
  ·rw [sb.2 b (λh:b=a=>haf (by rw [<- h];exact hb))];exact e
  ·refine q s2 (Moved.trans W.gtrans ((hm.mono sub).then_heap (CU _) λb o hb e=>?_) m2) z2
   rw [sb.2 b (λh:b=a=>hb (by rw [h];exact Al))];exact e
end
section
variable {P:Aw}{w:World}{A:Around}{E:Ga}{s:Gm}
abbrev eL (w:World):Obj:=setO #[] 0 (.fresh 0 0 (!byT w))
def zA (v:Gk)(h:Q1 (.ref s.heap.objs.size) { s with heap:=s.heap.push (eL w) }) :
  Eu (model P w) A (.call (.builtin "set.__new__") ⟨[.type "set",v],[]⟩) (wants Q1 E) s:=by
 refine EO ?_;show wpAny _ A.in1 (do checkBuiltinCall "set.__new__" ⟨[.type "set",v],[]⟩;again (.builtin "set.__new__" ⟨[.type "set",v],[]⟩)) _ _ s;refine Aa (Cq (F.newCall_set_1 v) (Af ⟨Eo F.plain_set_new _,CG F.entry_set_new ?_⟩));rw [CA F.plain_set_new _];unfold AE.«set.__new__» AE.Frozenset.newClass;have sub:=sub_set_self;obtain ⟨hp,g,d,tk,os⟩:=s;dsimp only
 wp_walk
 refine EB (Af ?_);dsimp only;simp only [newObj];refine Aa (wpAny_alloc (Af ?_));exact Af h
def sZ (h:Heap):SetS P w (h.push (eL w)) h.objs.size []:=
 ⟨⟨#[],0,_,Ai _ rfl,λe he=>by simp at he,rfl,rfl,.inr rfl,.refl _⟩,Ej,by decide⟩
def call_set_strs {l:Gj}{Q:Ga}(hh:A.handled=none)(hl:s.heap.IsList l its)(hi:ES its.toList ss)(hb:its.size+1<EN)(h:∀ (h':Heap) (tk:Nat),SetS P w h' s.heap.objs.size (ddl ss)->(∀ b o,s.heap.get? b=some o->h'.get? b=some o)->Q (.ref s.heap.objs.size) { s with heap:=h',toks:=tk }) :
  wpAny (model P w) A (call (.type "set") [.ref l]) Q E s:=by
 obtain ⟨c,tl,hmro⟩:=Cp.mro;have hmade:=Cp.made;have hsub:=Cp.sub;refine Fc (EO ?_);show wpAny _ _ (callAny (.type "set") _) _ _ _;refine Af ⟨EF _ (by decide +kernel),CG F.entry_type_call ?_⟩;rw [Around.under_plain (weight_type_call_type "set" [.ref l] []) rfl];have h1:=Cp.notType;have h2:=Cp.canCreate;have hct:=F.typeCall_set_1 (.ref l)
 repeat (any_goals (first|assumption|wp_step))
 refine CI (zA (.ref l) (E:=E) (Q1:=λobj s1=>obj=.ref s.heap.objs.size/\s1={ s with heap:=s.heap.push (eL w) }) ⟨rfl,rfl⟩) λr s1 hr=>?_;cases r with
 |error e=>exact hr
 |ok fl=>
  cases fl with
  |ret obj=>
   obtain ⟨rfl,rfl⟩:=hr;have hS:(s.heap.push (eL w)).get? s.heap.objs.size=some (eL w):=Ai _ rfl;have hT:Shared.TypeIs { s with heap:=s.heap.push (eL w) } (.ref s.heap.objs.size) "set":=⟨_,hS,rfl⟩;have hli:=Cp.init.lookup;have hbi:=Cp.init.bind (.ref s.heap.objs.size)
   repeat (any_goals (first|assumption|wp_step))
   refine CI (Et (R:=wants (λr s2=>r=.none/\∃ h' tk,s2={ s with heap:=h',toks:=tk }/\SetS P w h' s.heap.objs.size (ddl ss)/\(∀ b o,s.heap.get? b=some o->h'.get? b=some o)) E) Cp.init.plain F.entry_set_init (check_set_init_1 hT ?_)) λr2 s2 hr2=>?_
   ·obtain ⟨ol,hol,hcl,nl,hdl⟩:=hl
    obtain ⟨ocls,odict,odata,oslots⟩:=ol;simp only at hcl hdl;subst hcl;subst hdl;have hol':(s.heap.push (eL w)).get? l=some { cls:=.type "list",dict:=odict,data:=.seq its nl,slots:=oslots }:=Ad _ hol;have hsls:=F.sub_list_set;have hslf:=F.sub_list_frozenset;have hne:(Dp "list" == Dp "dict")=false:=by decide
    have hl1:(s.heap.push (eL w)).IsList l its:=⟨_,hol',rfl,nl,rfl⟩;unfold AE.«set.__init__» noKeywords AE.Frozenset.updateFrom;generalize hPI:pyIter=PI
    wp_walk
    subst hPI;refine wpAny_pyIter_list hl1 ?_;refine Aa (wpAny_runValue ?_);have hlS:l<s.heap.objs.size:=Ar hol;have hh3:A.in1.in1.in1.handled=none:=by simp [hh]
    have hz:(s.heap.push (eL w)).objs.size=s.heap.objs.size+1:=BP ..;have hneI:l≠(s.heap.push (eL w)).objs.size:=by
     rw [hz];exact Au (Cw hlS)
    have haf:s.heap.objs.size∉[(s.heap.push (eL w)).objs.size,l]:=by
     simp only [AB,Er,or_false,not_or];rw [hz];exact ⟨Au (Cg _),DH hlS⟩
    have hlen:ss.length=its.size:=by rw [<- BL];exact (ES.length hi).symm
    refine rM ((Walks.list hh3 _ l hneI its).toS) s.heap.objs.size haf ss hlen (λi v hv=>pM hi i v (by rw [Bl];exact hv)) hb (its.size-0) 0 _ (by lia) (BF _) ⟨⟨_,Ai _ rfl,rfl,rfl⟩,(hl1.push _)⟩ ((sZ s.heap).at λo e=>Ad _ e) λs' hm S'=>?_;obtain ⟨h',g',d',tk',os'⟩:=s';have eg:g'=s.gens:=hm.gens;have ed:d'=s.drawn:=hm.drawn;have eo:os'=s.os:=hm.os;subst eg;subst ed;subst eo;show wpAny _ _ _ _ _ _;refine Af ?_;show wpAny _ _ (ret BN) _ _ _;refine Af ⟨rfl,h',tk',rfl,S',λb o e=>?_⟩;have hb0:=Ar e;refine hm.heap b o ?_ (Ad _ (Ad _ e));simp only [AB,Er,or_false,not_or];rw [hz];exact ⟨Au hb0,Au (Cw hb0)⟩
   ·cases r2 with
    |error e=>exact hr2
    |ok f2=>
     cases f2 with
     |ret r=>
      obtain ⟨rfl,h',tk,rfl,S',hk'⟩:=hr2
      repeat (any_goals (first|assumption|wp_step))
      exact h _ _ S' hk'
     |_=>exact hr2.elim
  |_=>exact hr.elim
end
end SX
namespace DX
theorem gR:plainId "dict.update.loop" = true:=by decide +kernel
def oQ:entryFor table "dict.update.loop" = some AE.«dict.update.loop»:=entryFor_of_tree (by kernel_rfl)
section
variable {P:Aw}{w:World}{A:Around}{E:Ga}{s:Gm}
def TupAt (h:Heap)(z:Gj)(x y:Gk):Prop:=∃ o n,h.get? z=some o/\o.cls=.type "tuple" /\ o.data=.seq #[x,y] n
def mH {Q:Gi->Gm->Prop}(ht:TupAt s.heap z x y)(h:Q [x,y] s):wpAny (model P w) A (AE.Dict.pairItems (.ref z)) Q E s:=by
 obtain ⟨o,n,ho,hc,hd⟩:=ht;unfold AE.Dict.pairItems;refine Aa (Eg (T:="tuple") ⟨_,ho,hc⟩ ?_)
 wp_walk
 rw [hd];exact Af (Af h)
end
section
variable {P:Aw}{w:World}{K:Type}[DecidableEq K]{knd:KeyKind P w K}{A:Around}{R:Result->Gm->Prop}
def uP (acc:List (K×Value))(k:K)(v:Value):(stored acc k v).length<=acc.length+1:=by
 unfold stored;split
 ·rw [Ag];lia
 ·rw [As];exact Aj _
end
section
variable {P:Aw}{w:World}{K:Type}[DecidableEq K]{knd:KeyKind P w K}{A:Around}{E:Ga}{s:Gm}
abbrev nuD:Obj:={ cls:=.type "dict",data:=.dict #[] }
end
end DX
namespace L2
section
variable {X:Cx}
def rDictL (K:Ab):Gq->Hp->VK->Prop:=λxs H Q=>∃ (a:Gj) (us:Gq) (kvs:Gp),xs=[.ref a]/\H a=some (.lst us)/\us.length=kvs.length/\(kvs.map (·.1)).Nodup /\
 (∀ (i:Nat) u kv,us[i]?=some u->kvs[i]?=some kv->∃ z,u=.ref z/\H z=some (.tup [kV kv.1,kv.2]))/\∀ p,H p=none->Q (.ref p) (upd H p (.dK kvs))
theorem tY:∀ (kvs acc:Gp),(kvs.map (·.1)).Nodup->(∀ kv∈kvs,∀ kw∈acc,kv.1≠kw.1)->kvs.foldl (λacc kv=>putK acc kv.1 kv.2) acc=acc++kvs
 |[],acc,_,_=>by simp
 |kv::r,acc,nd,h=>by
  rw [Ak] at nd;have nd':=Ca.mp nd;have e:putK acc kv.1 kv.2=acc++[kv]:=by
   unfold putK;rw [if_neg];intro z;obtain ⟨kw,hk,e⟩:=List.any_eq_true.mp z;exact h kv (Al ..) kw hk (of_decide_eq_true e).symm
  rw [Fu,e,tY r (acc++[kv]) nd'.2 λk1 h1 k2 h2=>?_,List.append_assoc]
  ·rfl
  ·rcases Bm.mp h2 with h2|h2
   ·exact h k1 (Ah _ h1) k2 h2
   ·rw [Az.mp h2]
    exact λz=>nd'.1 (z▸Cu h1)
theorem zI:∀ {kvs:List (Key×V)} {vs:List (Key×Value)} {acc:List (Key×V)} {bcc:List (Key×Value)},KV kvs vs->KV acc bcc->KV (kvs.foldl (λacc kv=>putK acc kv.1 kv.2) acc) (vs.foldl (λacc kv=>stored acc kv.1 kv.2) bcc)
 |[],[],_,_,_,h=>h
 |kv::r,v::q,acc,bcc,.cons ⟨e,rv⟩ t,h=>by
  have h1:=h.put kv.1 rv;rw [e] at h1;rw [Fu,Fu,e];exact zI t h1
end
end L2
namespace L2.TS
abbrev Ky:=List Nat
def zH {a b:Ky}(hn:a≠b)(hl:¬ a<b):b<a:=by
 by_cases hb:b<a
 ·exact hb
 ·exact absurd (EZ (List.not_lt.mp hb) (List.not_lt.mp hl)) hn
def ka (f:Gk->Ky)(xs:Array Keyed)(i:Nat):Ky:=(xs[i]?.map λp=>f p.1).getD []
theorem zM {i j:Nat}(e:xs[i]?=ys[j]?):ka f xs i=ka f ys j:=by
 unfold ka;rw [e]
def Up (f:Gk->Ky)(xs:Array Keyed)(n:Nat):Prop:=∀ i j,i<j->j<n->ka f xs i<ka f xs j
def Dn (f:Gk->Ky)(xs:Array Keyed)(n:Nat):Prop:=∀ i j,i<j->j<n->ka f xs j<ka f xs i
def Df (f:Gk->Ky)(xs:List Keyed):Prop:=xs.Pairwise λp q=>f p.1≠f q.1
structure Sb (f:Gk->Ky)(kd:SortKind)(o:Array Keyed)(st:SortSt):Prop where
 pm:(arrOf st).Perm o
 kn:kindOf st=kd
 fl:failedOf st=none
 pe:pendingOf st=#[]
 df:Df f (arrOf st).toList
section
variable {prog:Aw}{w:World}{A:Around}{E:Ga}{s:Gm}{o:Array Keyed}{f:Gk->Ky}{kd:SortKind}
theorem Sb.sz {st:SortSt}(b:Sb f kd o st):(arrOf st).size=o.size:=b.pm.size_eq
def Sb.put {st:SortSt}(b:Sb f kd o st)(p:xs.Perm (arrOf st)):Sb f kd o (setArr st xs):=
 ⟨p.trans b.pm,b.kn,b.fl,b.pe,((Ec.mp p).symm.pairwise_iff λh=>Bi h).mp b.df⟩
theorem Sb.ne {st:SortSt}(b:Sb f kd o st){i j:Nat}(hi:i<o.size)(hj:j<o.size)(hij:i≠j):ka f (arrOf st) i≠ka f (arrOf st) j:=by
 have h:=Dy.mp b.df;have hi':i<(arrOf st).size:=by rw [b.sz];exact hi
 have hj':j<(arrOf st).size:=by rw [b.sz];exact hj
 have e1:ka f (arrOf st) i=f (arrOf st)[i].1:=by unfold ka;rw [getElem?_pos (arrOf st) i hi'];rfl
 have e2:ka f (arrOf st) j=f (arrOf st)[j].1:=by unfold ka;rw [getElem?_pos (arrOf st) j hj'];rfl
 rw [e1,e2]
 rcases Nat.lt_or_gt_of_ne hij with l|l
 ·exact h i j (by simpa using hi') (by simpa using hj') l
 ·exact (h j i (by simpa using hj') (by simpa using hi') l).symm
def Cmp (prog:Aw)(w:World)(A:Around)(s:Gm)(kd:SortKind)(f:Gk->Ky)(o:Array Keyed):Prop:=
 ∀ (p q:Keyed) (E:Ga) (Q:Bool->Gm->Prop),p∈o.toList->q∈o.toList->f p.1≠f q.1->Q (decide (f p.1<f q.1)) s->wpAny (model prog w) A (keyLt' kd p.1 q.1) Q E s
def zE (C:Cmp prog w A s kd f o){st:SortSt}(b:Sb f kd o st){i j:Nat}(hi:i<o.size)(hj:j<o.size)(hij:i≠j){Q:Option Bool->SortSt->Prop}
  (h:Q (some (decide (ka f (arrOf st) i<ka f (arrOf st) j))) st):wpS (model prog w) A E s (ltAt' i j) Q st:=by
 have hd:=b.ne hi hj hij;have hi':i<(arrOf st).size:=by rw [b.sz];exact hi
 have hj':j<(arrOf st).size:=by rw [b.sz];exact hj
 have g1:(arrOf st)[i]?=some (arrOf st)[i]:=getElem?_pos _ i hi';have g2:(arrOf st)[j]?=some (arrOf st)[j]:=getElem?_pos _ j hj';have m1:(arrOf st)[i]∈o.toList:=(Ec.mp b.pm).mem_iff.mp (Array.getElem_mem_toList _);have m2:(arrOf st)[j]∈o.toList:=(Ec.mp b.pm).mem_iff.mp (Array.getElem_mem_toList _);have k1:ka f (arrOf st) i=f (arrOf st)[i].1:=by unfold ka;rw [g1];rfl
 have k2:ka f (arrOf st) j=f (arrOf st)[j].1:=by unfold ka;rw [g2];rfl
 rw [k1,k2] at h hd;rw [ltAt'_eq];refine Cm (wpS_get ?_);dsimp only;rw [elem'_eq,elem'_eq,g1,g2];refine Cm (Du (Cm (Du ?_)));rw [lt'_eq];refine Cm (wpS_get ?_);rw [b.kn];exact Cm (wpS_lift (DQ (C _ _ _ _ m1 m2 hd ⟨rfl,Du h⟩)))
def aHh :Up f xs 1:=λi j h1 h2=>by lia
def asc (C:Cmp prog w A s kd f o){st:SortSt}(b:Sb f kd o st){a r:Nat}(hr:r<=o.size)(ha:1<=a)(har:a<=r)(hs:Up f (arrOf st) a){Q:AscSt->SortSt->Prop}
  (h:∀ n,a<=n->n<=r->Up f (arrOf st) n->(n=r\/ka f (arrOf st) n<ka f (arrOf st) (n-1))->Q (none,n) st):wpS (model prog w) A E s (ascLoop a r) Q st:=by
 unfold ascLoop;refine wpS_forRange (I:=λx c u=>u=st/\c=(none,x)/\Up f (arrOf st) x) (λx c u h1 h2 h3=>?_) (λc u h3=>?_) ⟨rfl,rfl,hs⟩
 ·obtain ⟨rfl,rfl,up⟩:=h3
  refine Cm (zE C b (by lia) (by lia) (by lia) ?_)
  by_cases l:ka f (arrOf u) x<ka f (arrOf u) (x-1)
  ·simp only [l,decide_true,if_true]
   exact Du (h x h1 (by lia) up (.inr l))
  ·simp only [l,decide_false,Dw,if_false]
   have l':=zH (b.ne (by lia) (by lia) (by lia)) l;refine Du ⟨rfl,rfl,λi j hij hj=>?_⟩
   by_cases jx:j<x
   ·exact up i j hij jx
   ·obtain rfl:j=x:=by lia
    by_cases ix:i=j-1
    ·rw [ix];exact l'
    ·exact List.lt_trans (up i (j-1) (by lia) (by lia)) l'
 ·obtain ⟨rfl,rfl,up⟩:=h3
  rw [show max a r=r by lia] at up ⊢;exact h r har (Aj _) up (.inl rfl)
theorem oH {n:Nat}(hn:n<=xs.size)(k:Nat):ka f (mirror xs 0 n ((n-0)/2)) k=if k<n then ka f xs (n-1-k) else ka f xs k:=by
 have e:=getElem?_mirror_all (i:=0) hn k
 by_cases l:k<n
 ·rw [if_pos ⟨BF _,l⟩] at e
  rw [if_pos l,zM e,Nat.zero_add]
 ·rw [if_neg λq=>l q.2] at e
  rw [if_neg l,zM e]
def tail (C:Cmp prog w A s kd f o){st:SortSt}(b:Sb f kd o st){n r:Nat}(hr:r<=o.size)(h1:1<=n)(hn:n<=r)(hs:Dn f (arrOf st) n){Q:Option Nat->SortSt->Prop}
  (h:∀ m u,Sb f kd o u->1<=m->m<=r->Up f (arrOf u) m->Q (some m) u):wpS (model prog w) A E s (tail3 n r) Q st:=by
 unfold tail3;have z:n<=(arrOf st).size:=by rw [b.sz];lia
 refine Cm (wpS_reverse ?_);have b':=b.put (mirror_perm (arrOf st) 0 n ((n-0)/2));refine Cm (asc C b' hr h1 hn (λi j hij hj=>?_) λm q1 q2 q3 _=>Du (h m _ b' (by lia) q2 q3));show ka f (mirror _ 0 n _) i<ka f (mirror _ 0 n _) j;rw [oH z,oH z,if_pos (by lia),if_pos hj];exact hs _ _ (by lia) (by lia)
def desc (C:Cmp prog w A s kd f o){st:SortSt}(b:Sb f kd o st){n r:Nat}(hr:r<=o.size)(h1:1<=n)(hn:n<=r)(hs:Dn f (arrOf st) n){Q:DescSt->SortSt->Prop}
  (h:∀ m,n<=m->m<=r->Dn f (arrOf st) m->Q (none,m,0) st):wpS (model prog w) A E s (descLoop n r) Q st:=by
 unfold descLoop;refine wpS_forRange (I:=λx c u=>u=st/\c=(none,x,0)/\Dn f (arrOf st) x) (λx c u q1 q2 q3=>?_) (λc u q3=>?_) ⟨rfl,rfl,hs⟩
 ·obtain ⟨rfl,rfl,dn⟩:=q3
  dsimp only;refine Cm (zE C b (by lia) (by lia) (by lia) ?_)
  by_cases l:ka f (arrOf u) x<ka f (arrOf u) (x-1)
  ·simp only [l,decide_true,if_true,gt_iff_lt,CN,if_false]
   refine Du ⟨rfl,rfl,λi j hij hj=>?_⟩
   by_cases jx:j<x
   ·exact dn i j hij jx
   ·obtain rfl:j=x:=by lia
    by_cases ix:i=j-1
    ·rw [ix];exact l
    ·exact List.lt_trans l (dn i (j-1) (by lia) (by lia))
  ·simp only [l,decide_false,Dw,if_false]
   have l':=zH (b.ne (by lia) (by lia) (by lia)) l;refine Cm (zE C b (by lia) (by lia) (by lia) ?_);simp only [l',decide_true,if_true];exact Du (h x q1 (by lia) dn)
 ·obtain ⟨rfl,rfl,dn⟩:=q3
  rw [show max n r=r by lia] at dn ⊢;exact h r hn (Aj _) dn
def count (C:Cmp prog w A s kd f o){st:SortSt}(b:Sb f kd o st){r:Nat}(hr:r<=o.size)(h1:1<=r){Q:Option Nat->SortSt->Prop}
  (h:∀ m u,Sb f kd o u->1<=m->m<=r->Up f (arrOf u) m->Q (some m) u):wpS (model prog w) A E s (countRun' 0 r) Q st:=by
 rw [countRun0_eq];refine Cm (asc C b hr (Aj 1) h1 aHh λn q1 q2 up or=>?_);dsimp only
 by_cases nr:n=r
 ·rw [if_pos (by simpa using nr)]
  exact Du (h n st b q1 q2 up)
 ·rw [if_neg (by simpa using nr)]
  by_cases n1:n > 1
  ·rw [if_pos n1]
   refine Cm (zE C b (by lia) (by lia) (by lia) ?_);have l:=up 0 (n-1) (by lia) (by lia);simp only [l,decide_true,if_true];exact Du (h n st b q1 q2 up)
  ·rw [if_neg n1]
   obtain rfl:n=1:=by lia
   have l:=or.resolve_left nr;unfold descPart;refine Cm (wpS_lift (DC ⟨rfl,?_⟩));refine Cm (desc C b hr (by lia) (by lia) (λi j hij hj=>?_) λm p1 p2 dn=>?_)
   ·obtain rfl:i=0:=by lia
    obtain rfl:j=1:=by lia
    exact l
   ·simp only [gt_iff_lt,CN,if_false]
    exact tail C b hr (by lia) p2 dn h
theorem oI {k l:Nat}(hk:k<xs.size)(hl:l<=k)(i:Nat):ka f (bubble xs k (k-l)) i=if i=l then ka f xs k else if l<i/\i<=k then ka f xs (i-1) else ka f xs i:=by
 have e:=getElem?_bubble hk (k-l) (Nat.sub_le _ _) i;rw [show k-(k-l)=l by lia] at e
 by_cases c1:i=l
 ·rw [if_pos c1] at e ⊢;exact zM e
 ·rw [if_neg c1] at e ⊢
  by_cases c2:l<i/\i<=k
  ·rw [if_pos c2] at e ⊢;exact zM e
  ·rw [if_neg c2] at e ⊢;exact zM e
end
section
variable {prog:Aw}{w:World}{A:Around}{E:Ga}{s:Gm}{o:Array Keyed}{f:Gk->Ky}{kd:SortKind}
def At (f:Gk->Ky)(xs:Array Keyed)(k l r:Nat):Prop:=(∀ i,i<l->ka f xs i<ka f xs k)/\∀ i,r<=i->i<k->ka f xs k<ka f xs i
def aHg {k l:Nat}(hk:k<xs.size)(hl:l<=k)(up:Up f xs k)(a:At f xs k l l):Up f (bubble xs k (k-l)) (k+1):=by
 intro i j hij hj;rw [oI hk hl,oI hk hl]
 by_cases c1:i=l
 ·subst c1
  rw [if_pos rfl,if_neg (by lia),if_pos (by lia)];exact a.2 _ (by lia) (by lia)
 ·rw [if_neg c1]
  by_cases c2:j=l
  ·subst c2
   rw [if_pos rfl,if_neg (by lia)];exact a.1 _ hij
  ·rw [if_neg c2]
   by_cases c3:l<i/\i<=k
   ·rw [if_pos c3,if_pos (by lia)]
    exact up _ _ (by lia) (by lia)
   ·rw [if_neg c3]
    by_cases c4:l<j/\j<=k
    ·rw [if_pos c4]
     exact up _ _ (by lia) (by lia)
    ·rw [if_neg c4]
     exact up _ _ hij (by lia)
def binary (C:Cmp prog w A s kd f o){st:SortSt}(b:Sb f kd o st){n m:Nat}(hn:n<=o.size)(hm:m<=n)(hs:Up f (arrOf st) m){Q:Bool->SortSt->Prop}
  (h:∀ u,Sb f kd o u->Up f (arrOf u) n->Q true u):wpS (model prog w) A E s (binarySort' 0 n m) Q st:=by
 rw [binarySort'_eq];simp only [Nat.zero_add];refine Cm (wpS_mono (wpS_forRange (I:=λk c u=>c=(none,())/\Sb f kd o u/\Up f (arrOf u) (min k n)) (Q:=λc u=>c=(none,())/\Sb f kd o u/\Up f (arrOf u) n)
  (λk c u q1 q2 q3=>?_) (λc u q3=>?_) ⟨rfl,b,λi j hij hj=>hs i j hij (by lia)⟩) λc u q=>?_)
 ·obtain ⟨rfl,b',up⟩:=q3
  rw [show min k n=k by lia] at up;have ko:k<o.size:=by lia
  refine Cm (wpS_mono (wpS_forRange (I:=λx c v=>v=u/\∃ l r,c=(none,l,r)/\l<=r/\r<=k/\r-l<=k-x/\At f (arrOf u) k l r) (Q:=λc v=>v=u/\∃ l r,c=(none,l,r)/\l<=k/\At f (arrOf u) k l l)
   (λx c v p1 p2 p3=>?_) (λc v p3=>?_) ⟨rfl,0,k,rfl,by lia,by lia,by lia,λi hi=>by lia,λi g1 g2=>by lia⟩) λc v p=>?_)
  ·obtain ⟨rfl,l,r,rfl,g1,g2,g3,a1,a2⟩:=p3
   dsimp only
   by_cases lr:l ≥ r
   ·rw [if_pos lr]
    obtain rfl:l=r:=by lia
    exact Du ⟨rfl,l,l,rfl,g2,a1,a2⟩
   ·rw [if_neg lr]
    refine Cm (zE C b' ko (by lia) (by lia) ?_)
    by_cases ls:ka f (arrOf v) k<ka f (arrOf v) ((l+r)/2)
    ·simp only [ls,decide_true,if_true]
     refine Du ⟨rfl,l,(l+r)/2,rfl,by lia,by lia,by lia,a1,λi t1 t2=>?_⟩
     by_cases im:i=(l+r)/2
     ·rw [im];exact ls
     ·exact List.lt_trans ls (up _ _ (by lia) t2)
    ·simp only [ls,decide_false,Dw,if_false]
     have ls':=zH (b'.ne ko (by lia) (by lia)) ls;refine Du ⟨rfl,(l+r)/2+1,r,rfl,by lia,by lia,by lia,λi t1=>?_,a2⟩
     by_cases im:i=(l+r)/2
     ·rw [im];exact ls'
     ·exact List.lt_trans (up _ _ (by lia) (by lia)) ls'
  ·obtain ⟨rfl,l,r,rfl,g1,g2,g3,a1⟩:=p3
   obtain rfl:l=r:=by lia
   exact ⟨rfl,l,l,rfl,g2,a1⟩
  ·obtain ⟨rfl,l,r,rfl,g2,a1⟩:=p
   dsimp only;rw [moveDown'_eq];refine Cm (wpS_modify (Du ⟨rfl,b'.put (bubble_perm _ _ _),?_⟩));rw [show min (k+1) n=k+1 by lia];exact aHg (by rw [b'.sz];exact ko) g2 up a1
 ·obtain ⟨rfl,b',up⟩:=q3
  rw [show min (max (max m 1) n) n=n by lia] at up;exact ⟨rfl,b',up⟩
 ·obtain ⟨rfl,b',up⟩:=q
  exact Du (h u b' up)
def Dne (f:Gk->Ky)(o:Array Keyed)(st:SortSt):Prop:=(arrOf st).Perm o/\failedOf st=none/\(pendingOf st).size=1/\Up f (arrOf st) o.size
theorem Sb.dne {st:SortSt}(b:Sb f kd o st)(up:Up f (arrOf st) o.size):Dne f o (setPending st ((pendingOf st).push x)):=
 ⟨b.pm,b.fl,by show ((pendingOf st).push x).size=1;rw [b.pe];rfl,up⟩
def runs (C:Cmp prog w A s kd f o){st:SortSt}(b:Sb f kd o st)(h2:2<=o.size)(h64:o.size<64){Q:Unit->SortSt->Prop}
  (h:∀ u,(arrOf u).Perm o->failedOf u=none->Up f (arrOf u) o.size->Q () u):wpS (model prog w) A E s sortRuns' Q st:=by
 rw [sortRuns'_eq];refine Cm (wpS_get ?_);dsimp only;have mr:minRun' o.size o.size 0=o.size:=by
  generalize hz:o.size=z at h2 h64;cases z with
  |zero=>lia
  |succ z=>rw [minRun'_succ,if_pos h64]
 simp only [b.sz,mr];refine Cm (wpS_mono (wpS_forRange (I:=λx c u=>(x=0/\c=(none,0)/\Sb f kd o u)\/(0<x/\c=(none,o.size)/\Dne f o u)) (Q:=λc u=>c=(none,o.size)/\Dne f o u)
  (λx c u q1 q2 q3=>?_) (λc u q3=>?_) (.inl ⟨rfl,rfl,b⟩)) λc u q=>?_)
 ·rcases q3 with ⟨rfl,rfl,b'⟩|⟨x1,rfl,d⟩
  ·dsimp only
   rw [if_neg (by lia)];simp only [Nat.sub_zero,Nat.min_self,Nat.zero_add];refine Cm (count C b' (Aj _) (by lia) λm v b2 m1 m2 up=>?_);dsimp only
   by_cases lt:m<o.size
   ·rw [if_pos lt]
    refine Cm (wpS_lift (DC ⟨rfl,?_⟩));refine Cm (binary C b2 (Aj _) m2 up λv3 b3 up3=>?_);simp only [Bool.not_true,Dw,if_false];refine Cm (wpS_get ?_);rw [show (pendingOf v3).back?=none by rw [b3.pe];rfl];exact Cm (wpS_modify (Du (.inr ⟨by lia,rfl,b3.dne up3⟩)))
   ·rw [if_neg lt]
    obtain rfl:m=o.size:=by lia
    refine Cm (wpS_get ?_);rw [show (pendingOf v).back?=none by rw [b2.pe];rfl];exact Cm (wpS_modify (Du (.inr ⟨by lia,rfl,b2.dne up⟩)))
  ·dsimp only
   rw [if_pos (Aj _)];exact Du ⟨rfl,d⟩
 ·rcases q3 with ⟨x0,_,_⟩|⟨_,e,d⟩
  ·lia
  ·exact ⟨e,d⟩
 ·obtain ⟨rfl,d⟩:=q
  dsimp only;refine Cm (wpS_mono (wpS_forRange (I:=λ_ c v=>v=u/\c=(none,())) (Q:=λc v=>v=u/\c=(none,())) (λx c v p1 p2 p3=>?_) (λ_ _ p=>p) ⟨rfl,rfl⟩) λc v p=>?_)
  ·obtain ⟨rfl,rfl⟩:=p3
   refine Cm (wpS_get ?_);rw [if_pos (by rw [d.2.2.1];exact Aj 1)];exact Du ⟨rfl,rfl⟩
  ·obtain ⟨rfl,rfl⟩:=p
   exact Du (h _ d.1 d.2.1 d.2.2.2)
end
def Tp (h:Heap)(nm:Gk->Str)(v:Gk):Prop:=∃ a o xs n t r,v=.ref a/\h.get? a=some o/\o.cls=.type "tuple" /\ o.data=.seq xs n/\xs.toList=.str (nm v) t::r
def Tp.keep {h h':Heap}{nm:Gk->Str}{v:Gk}{a:Gj}{its:Array Gk}{m:Nat}(t:Tp h nm v)(ha:h.get? a=some (seqObj "list" its m))(k:∀ b o,b≠a->h.get? b=some o->h'.get? b=some o):Tp h' nm v:=by
 obtain ⟨b,o,xs,n,t,r,e,ho,hc,hd,hx⟩:=t;refine ⟨b,o,xs,n,t,r,e,k b o ?_ ho,hc,hd,hx⟩
 rintro rfl
 rw [ho] at ha;obtain rfl:=AA ha;exact absurd (show Dp "list" = Dp "tuple" from hc) (by simp)
def aEd {h:Heap}{nm:Gk->Str}:∀ (vs:Gi),(∀ v∈vs,Tp h nm v)->∃ fs,PySem.W.KatTups h vs fs/\fs.length=vs.length/\∀ v∈fs,∃ x t,v=.str x t
 |[],_=>⟨[],trivial,rfl,λv h=>nomatch h⟩
 |v::vs,H=>by
  obtain ⟨fs,k,l,e⟩:=aEd vs λu hu=>H u (Ah _ hu);obtain ⟨a,o,xs,n,t,r,rfl,ho,hc,hd,hx⟩:=H v (Al ..);refine ⟨_::fs,PySem.W.KatTups.cons ho hc hd (f:=.str (nm (.ref a)) t) ?_ k,by simp [l],?_⟩
  ·rw [<- Bl,hx];rfl
  ·intro u hu
   rcases AB.mp hu with rfl|hu
   ·exact ⟨_,_,rfl⟩
   ·exact e u hu
theorem pD:∀ vs:Gi,vs.zip vs=vs.map λv=>(v,v)
 |[]=>rfl
 |v::vs=>by rw [Co,pD vs,Ak]
def aE5 {x y:Str}(h:x.cps.toList=y.cps.toList):x=y:=by
 cases x;cases y
 simpa using h
section
variable {prog:Aw}{w:World}{A:Around}{E:Ga}{s:Gm}{nm:Gk->Str}{vs:Gi}
abbrev kf (nm:Gk->Str):Gk->Ky:=λv=>(nm v).cps.toList
theorem kind {Q:SortKind->Gm->Prop}(h0:0<vs.length)(T:∀ v∈vs,Tp s.heap nm v)(h:Q (tuples' true) s):wpAny (model prog w) A (keyKind' vs.toArray) Q E s:=by
 obtain ⟨fs,k,l,e⟩:=aEd vs T;refine PySem.W.kat_kind (T:=.type "str") k (by lia) (λv hv=>?_) (by decide) ?_
 ·obtain ⟨x,t,rfl⟩:=e v hv
  exact PySem.W.Looks.now
 ·have hb:(Dp "str" != Dp "tuple")=true:=by decide
  rw [hb];exact h
def cmp (T:∀ v∈vs,Tp s.heap nm v):Cmp prog w A s (tuples' true) (kf nm) (pairsOf vs):=by
 intro p q E Q hp hq hn h;have m:∀ p∈(pairsOf vs).toList,p.1∈vs:=λp hp=>by rw [pairsOf_toList] at hp;exact (EC hp).1
 obtain ⟨a,o,xs,n,t,r,ea,ho,hc,hd,hx⟩:=T _ (m p hp);obtain ⟨b,o',ys,n',t',r',eb,ho',hc',hd',hy⟩:=T _ (m q hq);have ne:nm p.1≠nm q.1:=λz=>hn (by show (nm p.1).cps.toList=_;rw [z]);rw [show keyLt' (tuples' true) p.1 q.1=keyLt' (tuples' true) (.ref a) (.ref b) by rw [ea,eb]];refine PySem.W.kat_lt ho hd ho' hd' ?_;rw [hx,hy,Co];refine PySem.W.kat_cons (wpAny_eqBool_str ?_);rw [decide_eq_false ne];exact PySem.W.kat_no (oneLt_str h)
def aIv (hp:xs.Perm (pairsOf vs))(hu:Up f xs (pairsOf vs).size):(xs.map (·.2)).toList.Perm vs/\(xs.map (·.2)).toList.Pairwise λu v=>f u<f v:=by
 have hl:=Ec.mp hp;rw [pairsOf_toList,pD] at hl;have same:∀ p∈xs.toList,p.1=p.2:=λp h=>by
  obtain ⟨v,_,rfl⟩:=AK.mp (hl.mem_iff.mp h);rfl
 refine ⟨?_,?_⟩
 ·rw [Array.toList_map]
  refine (hl.map (·.2)).trans ?_;rw [Cb,show ((λp:Keyed=>p.2) ∘ λv:Gk=>(v,v))=id from rfl,List.map_id]
 ·rw [Array.toList_map,CJ,Dy]
  intro i j hi hj hij;rw [<- same _ (DP hi),<- same _ (DP hj)];have hi':i<xs.size:=by simpa using hi
  have hj':j<xs.size:=by simpa using hj
  have g:=hu i j hij (by rw [<- hp.size_eq];exact hj');have e1:ka f xs i=f xs[i].1:=by unfold ka;rw [getElem?_pos xs i hi'];rfl
  have e2:ka f xs j=f xs[j].1:=by unfold ka;rw [getElem?_pos xs j hj'];rfl
  rw [e1,e2] at g
  simpa using g
def sort_tup {a:Gj}{n:Nat}{R:PySem.Fin->Gm->Prop}(ho:s.heap.get? a=some (seqObj "list" vs.toArray n))(T:∀ v∈vs,Tp s.heap nm v)(D:vs.Pairwise λu v=>nm u≠nm v)(h64:vs.length<64)
  (h:∀ out:Gi,out.Perm vs->(out.Pairwise λu v=>kf nm u<kf nm v)->R (.done (.ret .none)) { s with heap:=sortedHeap s.heap a vs out.toArray }):wpAny (model prog w) A (AE.«list.sort» ⟨[.ref a],[]⟩) R E s:=by
 have fin:∀ xs:Array Keyed,xs.Perm (pairsOf vs)->Up (kf nm) xs (pairsOf vs).size->R (.done (.ret .none)) { s with heap:=sortedHeap s.heap a vs (xs.map (·.2)) }:=λxs hp hu=>by
  obtain ⟨q1,q2⟩:=aIv hp hu;have e:=h _ q1 q2;rw [Fb] at e;exact e
 rw [list_sort_plain];have lt:a<s.heap.objs.size:=Ar ho;refine Aa (listItems_at ho rfl (Aa (listUpdate_at ho rfl ?_)));obtain ⟨e1,o1⟩:∃ e1,(s.heap.update a (Ed λ_=>#[])).get? a=some (seqObj "list" #[] e1):=⟨_,get?_update_seq ho (λ_=>#[])⟩;refine Aa (seqEpoch_at o1 rfl (Aa (wpAny_newTuple (Aa (wpAny_newList (BD ?_))))));show wpAny (model prog w) A _ R E { s with heap:=((s.heap.update a (Ed λ_=>#[])).push (seqObj "tuple" vs.toArray 0)).push (seqObj "list" #[] 0) };generalize hg:((s.heap.update a (Ed λ_=>#[])).push (seqObj "tuple" vs.toArray 0)).push (seqObj "list" #[] 0)=g;have keep:∀ b o,b≠a->s.heap.get? b=some o->g.get? b=some o:=λb o nb hb=>by
  have l:=Ar hb;rw [<- hg,Eb _ _ _ (by rw [size_push',Heap.size_update];exact Au (Cw l)),Eb _ _ _ (by rw [Heap.size_update];exact Au l),Heap.get?_update_ne _ _ _ _ nb];exact hb
 have o6:g.get? a=some (seqObj "list" #[] e1):=by
  rw [<- hg,Eb _ _ _ (by rw [size_push',Heap.size_update];exact Au (Cw lt)),Eb _ _ _ (by rw [Heap.size_update];exact Au lt)];exact o1
 have T':∀ v∈vs,Tp g nm v:=λv hv=>(T v hv).keep ho keep;have fin':∀ xs:Array Keyed,xs.Perm (pairsOf vs)->Up (kf nm) xs (pairsOf vs).size->R (.done (.ret .none)) { s with heap:=g.update a (Ed λ_=>xs.map (·.2)) }:=λxs hp hu=>by
  rw [<- hg];exact fin xs hp hu
 dsimp only;have z:vs.toArray.size=vs.length:=by simp
 by_cases h2:vs.toArray.size<2
 ·rw [if_pos h2,if_pos h2]
  refine Aa (Af ?_);rw [StateT.run_pure];refine Aa (Af ?_);dsimp only;refine Aa (seqEpoch_at o6 rfl (Aa (listUpdate_at o6 rfl ?_ (hsz2:=by rw [Array.size_map];show (pairsOf vs).size<=_;rw [pairsOf_size,sizeLine_eq];lia))));simp only [bne_self_eq_false,Dw,if_false];refine Af (fin' (vs.toArray.zip vs.toArray) (Array.Perm.refl _) λi j q1 q2=>?_);rw [pairsOf_size] at q2;lia
 ·rw [if_neg h2,if_neg h2]
  refine Aa (kind (by lia) T' ?_);refine Aa (Cy (runs (kd:=tuples' true) (f:=kf nm) (o:=pairsOf vs) (st:=SortSt.mk' (tuples' true) (vs.toArray.zip vs.toArray) #[] 7 none) (Q:=λ_ st=>(arrOf st).Perm (pairsOf vs)/\failedOf st=none/\Up (kf nm) (arrOf st) (pairsOf vs).size)
   (cmp T') ⟨Array.Perm.refl _,rfl,rfl,rfl,?_⟩ (by rw [pairsOf_size];lia) (by rw [pairsOf_size];exact h64) λst x1 x2 x3=>⟨x1,x2,x3⟩) ?_ λ_ _ e=>e)
  ·show Df (kf nm) (pairsOf vs).toList
   rw [pairsOf_toList,pD];exact CJ.mpr (D.imp λne z=>ne (aE5 z))
  ·rintro ⟨⟨⟩,st⟩ s' ⟨rfl,hp,hf,hs⟩
   dsimp only;refine Aa (seqEpoch_at o6 rfl (Aa (listUpdate_at o6 rfl ?_ (hsz2:=by refine Bj (Nat.le_of_eq ((Array.size_map ..).trans (hp.size_eq.trans (pairsOf_size _)))) ?_;rw [sizeLine_eq];lia))));rw [hf];simp only [bne_self_eq_false,Dw,if_false];exact Af (fin' _ hp hs)
end
end L2.TS
namespace L2
def nmH (H:Hp)(a:Gj):Str:=match H a with
 |some (.tup (.str x::_))=>x
 |_=>⟨#[]⟩
def nmV (H:Hp):Gk->Str
 |.ref a=>nmH H a
 |_=>⟨#[]⟩
theorem nA:∀ as:List Gj,Vals (as.map V.ref) (as.map AD)
 |[]=>.nil
 |_::as=>.cons rfl (nA as)
def adOf:Gk->Gj
 |.ref a=>a
 |_=>0
def rSortT (K:Ab):Gq->Hp->VK->Prop:=λxs H Q=>∃ a as,xs=[.ref a]/\SqL K H a (as.map V.ref)/\as.length<64/\(∀ q∈as,∃ x r,H q=some (.tup (.str x::r)))/\(as.map (nmH H)).Nodup /\
 ∀ (p:Gj) (as':List Gj),as'.Perm as->(as'.Pairwise λu v=>(nmH H u).cps.toList<(nmH H v).cps.toList)->H p=none->Q (.ref p) (upd H p (.lst (as'.map V.ref)))
def Ite (K:Ab)(b:Gj):It:=
  ⟨λi H=>∃ ys,SqL K H b ys/\i<ys.length,
   λi H v H'=>∃ T,H T=none/\v=.ref T/\∀ ys,SqL K H b ys->∃ y,ys[i]?=some y/\H'=upd H T (.tup [.int i,y]),
   λi H=>∃ ys,SqL K H b ys/\i=ys.length⟩
def aLl (n b:Nat)(i:Nat)(h:Heap):Prop:=(∃ old,IsEnum h (n+1) n (i:Int) old)/\h.IsListIter n b i
def wB {P:Aw}{w:World}{K:Ab}{es:List Expr}{k1:Nat}{p1:Pos}{n b:Nat}(hb:b<n):Turn P w K (.Tuple es k1 p1) (Ite K b) [n+1,n] (n+1) (aLl n b) where
 mem:=by simp
 obj:=λi h st c hc=>by
  obtain ⟨⟨old,c1⟩,⟨o5,d5,_,f5⟩⟩:=st;have hc':c=n+1\/c=n:=by simpa using hc
  rcases hc' with e|e
  ·subst e;exact ⟨_,c1,λv z=>by cases z⟩
  ·subst e;exact ⟨_,d5,λv z=>by rw [f5] at z;cases z⟩
 keep:=λi h h' st k=>by
  obtain ⟨⟨old,c1⟩,c5⟩:=st;exact ⟨⟨old,k _ (by simp) _ c1⟩,c5.at λo e=>k _ (by simp) o e⟩
 item:=by
  intro X hP hw hK hc i Z s σ H E I hf st hg;subst hP hw hK;obtain ⟨ys,hy,l2⟩:=hg;obtain ⟨its',r2,ty,_⟩:=I.list hy;have e2:=r2.length;obtain ⟨⟨old,c1⟩,c5⟩:=st;obtain ⟨vy,hvy⟩:∃ v,ys[i]?=some v:=⟨_,Ae l2⟩;obtain ⟨uy,huy,ry⟩:=r2.get hvy;refine wpAny_pyNext_enum_item (x:=uy) c1 c5 (cQ ty) (by rw [<- Bl,Fp];exact huy) (by show (_:Nat)≠_;lia) λg cz s2 cT sz kp=>⟨.ref s.heap.objs.size,rfl,?_⟩;refine wpAny_letOwnedTupleGo_enum (s:={ s with heap:=g,toks:=s.toks+1 }) cz λg' cz' sb=>?_;have hfr:H s.heap.objs.size=none:=I.hok.fresh (Aj _);have I0:Inv X Z σ (upd H s.heap.objs.size (.tup [.int i,vy])) { s with heap:=s.heap.push { cls:=.type "tuple",data:=.seq #[.int i s.toks,uy] },toks:=s.toks+1 }:=
   I.laid (λc u q=>Ad _ q) (Aj _) ⟨⟨by show 2<=Av;decide,_,Ai s.heap rfl,rfl⟩,[.int i s.toks,uy],.cons ⟨_,rfl⟩ (.cons ry .nil),⟨_,Ai s.heap rfl,rfl,_,rfl⟩⟩
  have lz:n+1<s.heap.objs.size:=Ar c1;have fpn:∀ c∈[n+1,n],c≠s.heap.objs.size:=λc hc'=>by
   have hc'':c=n+1\/c=n:=by simpa using hc'
   rcases hc'' with e|e<;>(subst e;exact Au (by lia))
  have hf0:∀ c∈[n+1,n],FpOk X Z (upd H s.heap.objs.size (.tup [.int i,vy])) c:=λc hc'=>⟨by rw [aJ (fpn c hc')];exact (hf c hc').1,(hf c hc').2⟩;have I1:Inv X Z σ (upd H s.heap.objs.size (.tup [.int i,vy])) { s with heap:=g',toks:=s.toks+1 }:=by
   refine Inv.turnedL (s:={ s with heap:=s.heap.push { cls:=.type "tuple",data:=.seq #[.int i s.toks,uy] },toks:=s.toks+1 }) (h':=g') (t':=s.toks+1) (ch:=[n+1,n]) I0 (λc o hc' e=>?_) hf0;replace e:(s.heap.push { cls:=.type "tuple",data:=.seq #[.int i s.toks,uy] }).get? c=some o:=e;have hn:∀ d∈[n+1,n],c≠d:=λd hd z=>hc' (by rw [z];exact hd);refine sb.extBut _ _ (hn _ (by simp)) ?_
   by_cases ec:c=s.heap.objs.size
   ·rw [ec] at e ⊢
    rw [Ai s.heap rfl] at e;cases e;exact cT
   ·rw [Eb _ _ _ ec] at e
    exact kp c o (hn _ (by simp)) (hn _ (by simp)) e
  refine ⟨.ref s.heap.objs.size,_,I1,rfl,⟨_,hfr,rfl,λys' hy'=>⟨vy,by rw [I.list_inj hy' hy];exact hvy,rfl⟩⟩,?_,λc hc'=>(hf0 c hc').1⟩;exact ⟨⟨uy,cz'⟩,s2.extBut sb.extBut (Au (Cg n))⟩
 done:=by
  intro X hP hw hK hc i Z s σ H E I hf st hg;subst hP hw hK;obtain ⟨ys,hy,l⟩:=hg;obtain ⟨its',r2,ty,_⟩:=I.list hy;have e2:=r2.length;obtain ⟨⟨old,c1⟩,c5⟩:=st;have hh:X.A.handled=none:=I.ok.hd hc;refine wpAny_pyNext_enum_end hh c1 c5 (cQ ty) (by rw [<- Bl,Fp];exact Bs (by lia)) λg kp=>⟨rfl,I.turnedL (t':=s.toks) (ch:=[n+1,n]) (λc o hc' e=>?_) hf⟩;exact kp c o (λz=>hc' (by rw [z];simp)) e
 self:=λ_ _ _ _ _ st h=>let ⟨⟨_,c1⟩,_⟩:=st;wpAny_pyIter_enum c1 h
def iEnu (K:Ab)(ta:TA):TI:=λσ H R=>ta σ H λvs H1=>∃ b,vs=[.ref b]/\(∃ ys,SqL K H1 b ys)/\R (Ite K b) H1
def oW:Cr "enumerate" = some (.type "enumerate"):=by decide +kernel
def aFz {X:Cx}{es:List Expr}{k1:Nat}{p1:Pos}{e1:Expr}{ta:TA}{p pos:Pos}(hg:Gl X "enumerate")(hm:X.mg "enumerate" = none)(ha:PA X [e1] ta)(hs:AR [e1] X.env=[(false,eval e1 X.env)]:=by rfl) :
  PI X (.Tuple es k1 p1) (.Call (.Name "enumerate" p) [e1] [] pos) (iEnu X.K ta):=by
 intro Z s σ H R I h;refine Call_ (fZ I hg hm oW (BU (thn (ha pos Z s σ H _ I h) λus s1 ⟨vs,H1,I1,r1,q1⟩=>?_) hs rfl));obtain ⟨b,rfl,⟨ys,hy⟩,q⟩:=q1;cases r1 with
 |cons r rr=>
  cases rr;cases r;obtain ⟨its',_,ty,_⟩:=I1.list hy;have lb:b<s1.heap.objs.size:=by obtain ⟨o,e,_⟩:=cQ ty;exact Ar e
  refine call_enumerate_list (cQ ty) λg c1 c5 _ kp=>wpAny_pyIter_enum c1 ?_;have I2:Inv X Z σ H1 { s1 with heap:=g }:=I1.kept (t':=s1.toks) kp;refine ⟨s1.heap.objs.size+1,_,_,_,H1,rfl,I2,wB lb,⟨⟨_,c1⟩,c5⟩,λc hc=>?_,q⟩;refine I1.fpOk ?_ (I1.hok.fresh ?_)
  all_goals
   have hc':c=s1.heap.objs.size+1\/c=s1.heap.objs.size:=by simpa using hc
   rcases hc' with e|e<;>(subst e;lia)
def aC6 {K:Ab}{b:Gj}{ys:Gq}{g:TG}{tb:TS}{D:Ends}{σ:St}{H:Hp}(Pv:Nat->Gs)(h0:Pv 0 σ H)(hl:∀ i σ H,i<=ys.length->Pv i σ H->SqL K H b ys)
  (hs:∀ i y T σ H,ys[i]?=some y->H T=none->Pv i σ H->g (.ref T) σ (upd H T (.tup [.int (i:Nat),y])) λσ2 H2=>tb { D with nx:=Pv (i+1),ct:=Pv (i+1),bk:=D.nx } σ2 H2) (hd:∀ σ H,Pv ys.length σ H->D.nx σ H) :
  ∃ W:Nat->Nat->Gs,(∃ m,W 0 m σ H)/\∀ i m σ H,W i m σ H ->
   ((Ite K b).stop i H/\D.nx σ H)\/((Ite K b).go i H/\∃ N:Gs,(∀ σ' H',N σ' H'->∃ m',m'<m/\W (i+1) m' σ' H')/\∀ v H',(Ite K b).yld i H v H'->g v σ H' λσ2 H2=>tb { D with nx:=N,ct:=N,bk:=D.nx } σ2 H2):=by
 refine ⟨λi m σ H=>m=ys.length-i/\i<=ys.length/\Pv i σ H,⟨ys.length,by simp,BF _,h0⟩,?_⟩
 rintro i m σ H ⟨rfl,hi,p⟩
 have q2:=hl i σ H hi p
 by_cases hlt:i<ys.length
 ·refine .inr ⟨⟨ys,q2,hlt⟩,Pv (i+1),λσ' H' p'=>⟨ys.length-(i+1),by lia,rfl,hlt,p'⟩,λv H' y=>?_⟩
  obtain ⟨T,hT,rfl,y⟩:=y;obtain ⟨y',e2,rfl⟩:=y ys q2;exact hs i y' T σ H e2 hT p
 ·have e:i=ys.length:=by lia
  subst e;exact .inl ⟨⟨ys,q2,rfl⟩,hd σ H p⟩
end L2
namespace HT
open AutoSeq1 (wpAny_loadPart')
section
variable {prog:Aw}{w:World}{A:Around}{E:Ga}{s:Gm}
end
end HT
namespace L2
def IteT (K:Ab)(b:Gj):It:=
  ⟨λi H=>∃ ys,SqT K H b ys/\i<ys.length,
   λi H v H'=>∃ T,H T=none/\v=.ref T/\∀ ys,SqT K H b ys->∃ y,ys[i]?=some y/\H'=upd H T (.tup [.int i,y]),
   λi H=>∃ ys,SqT K H b ys/\i=ys.length⟩
def EnuStT (n b:Nat)(i:Nat)(h:Heap):Prop:=(∃ old,IsEnum h (n+1) n (i:Int) old)/\h.IsTupleIter n b i
def iEnuT (K:Ab)(ta:TA):TI:=λσ H R=>ta σ H λvs H1=>∃ b,vs=[.ref b]/\(∃ ys,SqT K H1 b ys)/\R (IteT K b) H1
def Same.seqt {K:Ab}{H H':Hp}{a:Gj}{xs:Gq}(e:Same H H')(h:SqT K H a xs):SqT K H' a xs:=by
 rcases h with h|h
 ·rcases h with h|⟨o,h⟩
  ·exact .inl (.inl (e _ _ h))
  ·exact .inl (.inr ⟨o,e _ _ h⟩)
 ·exact .inr h
def aAy {K:Ab}{a b:Gj}{xs ys:Gq}{D:Gj}{g:TG}{te:TE}{σ0:St}{QD:Hp->Prop}{H1:Hp}(ha:SqT K H1 a xs)(hb:SqT K H1 b ys)(hn:xs.length=ys.length)(Pr:Nat->V->Prop)(hD:H1 D=none)(hl:ys.length<=1000)
  (hs:∀ (i:Nat) x y T Hx (R:VK),xs[i]?=some x->ys[i]?=some y->Same H1 Hx->Hx T=some (.tup [x,y])->(∀ v H4,Same Hx H4->Pr i v->R v H4)->g (.ref T) σ0 Hx λσ2 H2=>Keep σ0 σ2/\te σ2 H2 R)
  (hd:∀ zs H',Same H1 H'->H' D=some (.lst zs)->zs.length=xs.length->(∀ (i:Nat) z,zs[i]?=some z->Pr i z)->QD H') :
  ∃ W:Nat->Nat->Gq->Hp->Prop,(∃ m,W 0 m [] (upd H1 D (.lst [])))/\∀ i m zs H,W i m zs H->H D=some (.lst zs)/\zs.length<Av /\
   (((Itz2 K a b).stop i H/\QD H)\/((Itz2 K a b).go i H/\∀ x H',(Itz2 K a b).yld i H x H'->g x σ0 H' λσ2 H2=>Keep σ0 σ2/\aBn σ2 H2 λb H3=>
    if b=true then te σ2 H3 λy H4=>H4 D=some (.lst zs)/\∃ m',m'<m/\W (i+1) m' (zs++[y]) (upd H4 D (.lst (zs++[y]))) else ∃ m',m'<m/\W (i+1) m' zs H3)):=by
 refine ⟨λi m zs H=>m=xs.length-i/\i<=xs.length/\Same H1 H/\H D=some (.lst zs)/\zs.length=i/\∀ (j:Nat) z,zs[j]?=some z->Pr j z,
  ⟨_,rfl,BF _,Gu hD,aD,rfl,λj z h=>by simp at h⟩,?_⟩
 rintro i m zs H ⟨rfl,hi,sm,hDH,zl,zp⟩
 refine ⟨hDH,bQ (by lia),?_⟩
 by_cases hlt:i<xs.length
 ·refine .inr ⟨⟨xs,ys,sm.seqt ha,sm.seqt hb,hlt,by lia⟩,λx H' y=>?_⟩
  obtain ⟨T,hT,rfl,y⟩:=y;obtain ⟨x',y',e1,e2,rfl⟩:=y xs ys (sm.seqt ha) (sm.seqt hb);have st:=Gu (o:=.tup [x',y']) hT;have:=hs i x' y' T _ (λy H4=>H4 D=some (.lst zs)/\∃ m',m'<xs.length-i/\(m'=xs.length-(i+1)/\i+1<=xs.length/\Same H1 (upd H4 D (.lst (zs++[y])))/\(upd H4 D (.lst (zs++[y]))) D=some (.lst (zs++[y]))/\(zs++[y]).length=i+1/\∀ (j:Nat) z,(zs++[y])[j]?=some z->Pr j z)) e1 e2 (sm.trans st) aD (λv H4 s4 pv=>?_)
  ·exact this
  ·refine ⟨s4 _ _ (st _ _ hDH),xs.length-(i+1),by lia,rfl,hlt,λb o e=>?_,aD,by rw [As,zl];rfl,λj z hz=>?_⟩
   ·rw [aJ (aW e hD)]
    exact s4 _ _ (st _ _ (sm _ _ e))
   ·by_cases hj:j<zs.length
    ·rw [AG hj] at hz
     exact zp j z hz
    ·have jl:=(Ac.mp hz).1
     rw [As] at jl;have jl':j<zs.length+1:=jl;have ej:j=zs.length:=by lia
     subst ej;rw [AH (Aj _),DG] at hz;obtain rfl:v=z:=by simpa using hz
     rw [zl];exact pv
 ·have e:i=xs.length:=by lia
  subst e;exact .inl ⟨⟨xs,ys,sm.seqt ha,sm.seqt hb,.inl rfl⟩,hd zs H sm hDH zl zp⟩
def rNeTs (K:Ab):R2:=λx y H Q=>∃ a b xs,x=.ref a/\y=.ref b/\SqT K H a xs/\SqT K H b xs/\(∀ v∈xs,Sf v)/\Q (.bl false) H
section
variable {X:Cx}{Z:Ge}{σ:St}{H:Hp}{s:Gm}{A:Around}{E:Ga}
structure KDict (w:World)(K:Ab)(a:Gj)(f:Str->Option Gj):Prop where
 lo:(a==DM)=false
 ex:∃ es n,K.lookup a=some ⟨.type "dict",none,.dict es n,#[]⟩/\PySem.W.KeysLit w.params es.toList/\∀ x,findBy Fg es x=(f x).map AD
def aGv {Q:Ga}(D:KDict X.w X.K a f)(I:Inv X Z σ H s)(h:∀ s',Inv X Z σ H s'->Q (((f x).map AD).getD .none) s') :
  wpAny (model X.prog X.w) A (call (.builtin "dict.get") [.ref a,.str x t]) Q E s:=by
 obtain ⟨es,n,hl,hk,hf⟩:=D.ex;have hm:=PySem.W.mapOf_K (prog:=X.prog) (w:=X.w) I.kIn hl hk;have q:∀ s',Inv X Z σ H s'->Q ((findBy Fg es x).getD .none) s':=λs' I'=>by rw [hf x];exact h s' I'
 exact call_meetsIn Ct hm.typeIs DO (FG _ _) (meets_dict_get (strKind X.prog X.w) a (strKind_is X.prog X.w x t) D.lo) ⟨_,hm,q _ (I.tok _)⟩
end
def Inv.thaw {σ:St}(I:Inv X Z σ H s)(hd:H d=some (.frz ob (.dK kvs)))(h0:∀ o u,X.H₀ d≠some (.frz o u)):Inv X Z σ (upd H d (.dK kvs)) s:=by
 have ne:∀ b,H b=none->b≠d:=λb n z=>by rw [z,hd] at n;cases n
 have nd:∀ b u,H b=some u->u≠.frz ob (.dK kvs)->b≠d:=λb u e n z=>by
  rw [z,hd] at e;exact n (AA e).symm
 have st:∀ {a:Gj} {u:HO},ObjOk X.prog X.w H s.heap a u->ObjOk X.prog X.w (upd H d (.dK kvs)) s.heap a u:=λx=>
  x.stay (λc v _ q=>q) (λc q=>by rw [aJ (nd c _ q (by intro z;cases z))];exact q) λc xs q=>by rw [aJ (nd c _ q (by intro z;cases z))];exact q
 refine ⟨I.ok,I.os,I.bare,⟨I.base.keep,I.base.slot,λb o e n hx=>?_,I.base.there,λb xs e=>?_,λb o u e=>?_,λb ps e=>?_⟩,I.loc,I.cell,?_,λx c e=>?_,λp hp=>?_,λb u e=>?_,I.len⟩
 ·have z:=I.base.free b o e n hx
  rw [aJ (ne b z)];exact z
 ·have z:=I.base.tups b xs e
  rw [aJ (nd b _ z (by intro z;cases z))];exact z
 ·have z:=I.base.frzs b o u e
  rw [aJ (λq=>h0 o u (by rw [<- q];exact e))];exact z
 ·obtain ⟨m,z⟩:=I.base.tbls b ps e
  exact ⟨m,by rw [aJ (nd b _ z (by intro z;cases z))];exact z⟩
 ·rw [aJ (ne _ I.free)]
  exact I.free
 ·rw [aJ (ne _ (I.freeC x c e))]
  exact I.freeC x c e
 ·obtain ⟨q1,q2,q3⟩:=I.pin p hp
  exact ⟨q1,by rw [aJ (ne _ q2)];exact q2,q3⟩
 ·by_cases e':b=d
  ·subst e'
   rw [aD] at e;cases e;exact st (I.hok b _ hd).2
  ·rw [aJ e'] at e
   exact st (I.hok b u e)
def tThaw (H₀:Hp)(te:TE):TE:=λσ H Q=>te σ H λv H'=>∃ d ob kvs,H' d=some (.frz ob (.dK kvs))/\(∀ o u,H₀ d≠some (.frz o u))/\Q v (upd H' d (.dK kvs))
def rUpd:V->Gq->Hp->VK->Prop:=λx vs H Q=>∃ d o kvs more,x=.ref d/\vs=[.ref o]/\d≠o/\H d=some (.dK kvs)/\H o=some (.dK more)/\kvs.length+more.length<=1000/\Q .non (upd H d (.dK (lI kvs more)))
section
variable {prog:Aw}{w:World}{A:Around}{E:Ga}{s:Gm}
end
def tMinD (te:TE):TE:=λσ H Q=>te σ H λx H1=>∃ l n,x=.ref l/\H1 l=some (.lst [.int n])/\Q (.int n) H1
structure MCal (P:Aw)(w:World)(K:Ab)(mg:Gb)(base:Heap)(CX:CXT)(k:Nat)(C:Gj)(m:Str)(ps:Gh)(sp:Sp):Prop where
 ex:∃ (f:Gj) (fd:Ay),Meth K C m f/\Binds K fd ps []/\FnOk P w K mg base CX k f fd ps sp
section
variable {X:Cx}{CX:CXT}{k:Nat}{C:Gj}{m:Str}{ps:Gh}{sp:Sp}{E:XK}{o e:Expr}{es:List Expr}{ta:TE}{t:TA}{apos pos:Pos}
def xR {K:Ab}{f:Str}(h:X.K=K)(he:PE X o ta)(hb:ER o f X.env (eval o X.env)=eval o X.env):PE X (.Attribute o f pos) (tFld K ta f):=h▸dA he hb
end
def aHm (H₀:Hp)(t:TS):TS:=λD σ H=>t { D with nx:=λσ' H'=>∃ d ob kvs,H' d=some (.frz ob (.dK kvs))/\(∀ o u,H₀ d≠some (.frz o u))/\D.nx σ' (upd H' d (.dK kvs)) } σ H
def xK {X:Cx}{st:Stmt}{t:TS}(h:PS X st t):PS X st (aHm X.H₀ t):=by
 intro Z s σ H D I q;refine thn (h Z s σ H _ I q) λf s1 z=>?_;cases f with
 |next=>
  obtain ⟨σ',H',I',d,ob,kvs,hd,h0,q'⟩:=z;exact ⟨σ',_,I'.thaw hd h0,q'⟩
 |brk=>exact z
 |cont=>exact z
 |ret u=>exact z
section
variable {X:Cx}{e:Expr}{nm m:Str}{p apos cpos pos:Pos}{ty ta:TE}{aF:Gj}{f:Str->Option Gj}
def aKe (f:Str->Option Gj)(ty:TE):TE:=λσ H Q=>ty σ H λy H2=>∃ x,y=.str x/\Q (((f x).map V.ref).getD .non) H2
def aF0 (D:KDict X.w X.K aF f)(hg:Gl X nm)(hm:X.mg nm=some (.ref aF))(he:PE X e ty)(M:M1 X (.Name nm p) "get" apos e cpos)(hd:(nm==("__debug__":Str))=false:=by decide):PE X (.Call (.Attribute (.Name nm p) "get" apos) [e] [] cpos) (aKe f ty):=by
 intro Z s σ H Q I h;refine wpAny_Call_method M.base M.few M.line Ew Ct PySem.F.type_dict_get (iG I hg hm ?_ hd);obtain ⟨es,n,hl,hk,hf⟩:=D.ex;have hm':=PySem.W.mapOf_K (prog:=X.prog) (w:=X.w) I.kIn hl hk;refine ⟨hm'.typeIs,λb q=>?_,?_⟩
 ·cases q
  exact ⟨_,I.kIn _ _ hl,rfl⟩
 rw [M.trees];refine Di rfl (Ef (Ds (thn (he Z s σ H _ I h) λiv s2 ⟨y,H2,I2,ry,x,ex,q2⟩=>DW ?_)));subst ex;obtain ⟨t,rfl⟩:=(show ∃ t,iv=Value.str x t from ry);refine aGv D I2 λs3 I3=>⟨_,H2,I3,?_,q2⟩;cases f x with
 |none=>exact rfl
 |some a=>exact rfl
def tMethD (m:Str)(Cs:List (Gj×Sp))(E:XK)(ta:TE):TE:=λσ H Q=>ta σ H λx H1=>∃ C sp a dx fs,(C,sp)∈Cs/\x=.ref a/\H1 a=some (.ins C dx fs)/\fs.lookup m=none/\sp [x] H1 Q E
end
structure InsK (K:Ab)(C:Gj):Prop where
 cl:Cls K C
 ha:BZ K (.ref C) "__class__" = some (some (.builtin "object.__class__"))
 hn:PySem.W.specialIn K (.builtin "object.__class__") "__get__" = some (some (.builtin "getset_descriptor.__get__"))
 htk:PySem.W.takesIn K (.builtin "object.__class__")=some true
 hm:PySem.W.mroIn K C (.type "object")=some true
def lay (H g:Hp):Hp:=λb=>match g b with
 |some o=>some o
 |none=>H b
theorem tP (h:g b=some o):lay H g b=some o:=by unfold lay;rw [h]
theorem iZ (h:g b=none):lay H g b=H b:=by unfold lay;rw [h]
section
variable {X:Cx}{Z:Ge}{σ:St}{H g:Hp}{s:Gm}{h':Heap}{t':Nat}
def Inv.laidL (I:Inv X Z σ H s)(k:∀ b u,s.heap.get? b=some u->h'.get? b=some u)(hp:∀ a o,g a=some o->s.heap.objs.size<=a)(new:∀ a o,g a=some o->ObjOk X.prog X.w (lay H g) h' a o) :
  Inv X Z σ (lay H g) { s with heap:=h',toks:=t' }:=by
 have sm:∀ b o,H b=some o->lay H g b=some o:=λb o e=>by
  cases q:g b with
  |none=>rw [iZ q];exact e
  |some u=>
   rw [I.hok.fresh (hp b u q)] at e;cases e
 refine I.un ⟨λb u q _ _ _=>k b u q,λb u q _ _ _=>⟨u.slots,k b u q⟩,λb u q n _=>?_,λb u q _=>⟨u,k b u q⟩,λb xs q=>sm b _ q,λb u xs q=>sm b _ q,λb ps q=>⟨#[],by rw [sm b _ q];simp⟩⟩ λb u e=>?_
 ·cases z:g b with
  |none=>rw [iZ z];exact n
  |some v=>exact absurd (Ar q) (Nat.not_lt.mpr (hp b v z))
 ·cases z:g b with
  |some v=>
   rw [tP z] at e;obtain rfl:=AA e;exact new b _ z
  |none=>
   rw [iZ z] at e;exact (I.hok b u e).stay (λc v _ q=>k c v q) (λc q=>sm c _ q) λc xs q=>sm c _ q
end
namespace TI
def aB9 {α β:Type}{as' as:List α}(p:as'.Perm as):∀ {zs:List β},as.length=zs.length->∃ zs',zs'.Perm zs/\(as'.zip zs').Perm (as.zip zs)/\as'.length=zs'.length:=by
 induction p with
 |nil=>exact λ{zs} h=>⟨zs,.refl _,.refl _,h⟩
 |cons x _ ih=>
  intro zs h
  match zs,h with
  |z::t,h=>
   obtain ⟨zs',p1,p2,p3⟩:=ih (zs:=t) (by simpa using h);exact ⟨z::zs',p1.cons z,by rw [Co,Co];exact p2.cons _,by simp [p3]⟩
 |swap x y l=>
  intro zs h
  match zs,h with
  |z1::z2::t,h=>exact ⟨z2::z1::t,.swap ..,by rw [Co,Co,Co,Co];exact .swap ..,by simpa using h⟩
 |trans _ _ i1 i2=>
  intro zs h;obtain ⟨z2,a1,a2,a3⟩:=i2 h;obtain ⟨z1,b1,b2,b3⟩:=i1 a3;exact ⟨z1,b1.trans a1,b2.trans a2,b3⟩
theorem lk_mem {β:Type}{b:Gj}{z:β}:∀ {l:List (Gj×β)},l.lookup b=some z->(b,z)∈l
  |[],h=>by cases h
  |(a,y)::l,h=>by
    rw [Dq] at h;split at h
    . rename_i e;cases h;rw [EA e];exact Al ..
    . exact Ah _ (lk_mem h)
theorem mem_lk {β:Type}{b:Gj}{z:β}:∀ {l:List (Gj×β)},(l.map (·.1)).Nodup->(b,z)∈l->l.lookup b=some z
  |(a,y)::l,nd,h=>by
    rw [Ak] at nd;have nd':=Ca.mp nd;rw [Dq]
    rcases AB.mp h with e|hm
    . cases e;rw [beq_self_eq_true]
    . have ne:(b==a)=false:=by
        rw [beq_eq_false_iff_ne]
        rintro rfl
        exact nd'.1 (AK.mpr ⟨_,hm,rfl⟩)
      rw [ne];exact mem_lk nd'.2 hm
theorem oB {α β:Type}{R:α->β->Prop}:∀ {l:List α} {m:List β},Paired R l m->∀ {i:Nat} {a:α} {b:β},l[i]?=some a->m[i]?=some b->R a b
 |_,_,.nil,_,_,_,h,_=>by simp at h
 |_,_,.cons r t,0,_,_,h1,h2=>by
  simp at h1 h2;subst h1 h2;exact r
 |_,_,.cons r t,i+1,_,_,h1,h2=>oB t (i:=i) (by simpa using h1) (by simpa using h2)
def nmG (h:Heap):Gk->Str
 |.ref a=>match h.get? a with
  |some o=>match o.data with
   |.seq xs _=>match xs.toList with
    |.str x _::_=>x
    |_=>⟨#[]⟩
   |_=>⟨#[]⟩
  |none=>⟨#[]⟩
 |_=>⟨#[]⟩
theorem yY (e:h.get? a=some { cls:=.type "tuple",data:=.seq #[.str x t,u] }):nmG h (.ref a)=x:=by
 unfold nmG;simp only [e]
def sorted_items {w:World}{r d:Gj}{ep:Nat}{Q:Ga}(hh:A.handled=none)(hv:s.heap.IsItemsView r d)(hm:s.heap.DictAt (bB P w) d vs ep)(rel:KV (zs.map λz=>(AQ z.1,z.2)) vs)(nd:(zs.map (·.1)).Nodup)(h64:zs.length<64)(h:∀ (h':Heap) (tk:Nat) (as as':List Gj) (zs':Gn) (out:Gi),(∀ b o,s.heap.get? b=some o->h'.get? b=some o)->as.length=zs.length->as.Pairwise (·<·)->(∀ a∈as,s.heap.objs.size<a) ->
   (∀ a z,(a,z)∈as.zip zs->∃ t u,h'.get? a=some { cls:=.type "tuple",data:=.seq #[.str z.1 t,u] }/\RelV z.2 u)->zs'.Perm zs->(as'.zip zs').Perm (as.zip zs)->as'.length=zs'.length->out=as'.map AD->(zs'.Pairwise λu v=>u.1.cps.toList<v.1.cps.toList) ->
   Q (.ref h'.objs.size) { s with heap:=sortedHeap (h'.push (seqObj "list" (as.map AD).toArray 0)) h'.objs.size (as.map AD) out.toArray,toks:=tk }) :
  wpAny (model P w) A (call (.builtin "sorted") [.ref r]) Q E s:=by
 have vl:vs.length=zs.length:=by rw [<- rel.length,Ag]
 refine FB kind_sorted plain_sorted entry_sorted (args_sorted1 _) ?_;unfold AE.«sorted»;refine Aa (m:=checkCount "sorted" 1 1 _) (Af ?_);refine Aa (PySem.W.kdx_collect (A:=A.in1) (knd:=bB P w) (kvs:=vs) (ep:=ep) hh hv hm (by rw [vl];exact bP (by lia)) λh' tk as hk hl hG=>?_);have al:as.length=zs.length:=hl.trans vl;have fc:∀ (j:Nat) a z,as[j]?=some a->zs[j]?=some z->∃ t u,h'.get? a=some { cls:=.type "tuple",data:=.seq #[.str z.1 t,u] }/\RelV z.2 u:=λj a z ha hz=>by
  obtain ⟨key,k,x,e1,e2,e3⟩:=hG.pairs j a ha;have ez:(zs.map λz=>((AQ z.1:Key),z.2))[j]?=some (AQ z.1,z.2):=by rw [Aq,hz];rfl
  obtain ⟨ek,er⟩:=oB rel ez e1;have ek':(AQ z.1:Key)=k:=ek;subst ek';obtain ⟨t,rfl⟩:=DF (x:=z.1) (v:=key) e2;exact ⟨t,x,e3,er⟩
 have fz:∀ a z,(a,z)∈as.zip zs->∃ t u,h'.get? a=some { cls:=.type "tuple",data:=.seq #[.str z.1 t,u] }/\RelV z.2 u:=λa z m=>by
  obtain ⟨j,hj⟩:=CY m;obtain ⟨h1,h2⟩:=FD.mp hj;exact fc j a z h1 h2
 refine Aa (wpAny_newList ?_ (by rw [Ag,al];exact bP (by lia)));have oL:(h'.push (seqObj "list" (as.map AD).toArray 0)).get? h'.objs.size=some (seqObj "list" (as.map AD).toArray 0):=Ai _ rfl;have nmz:as.map (λa=>nmG h' (.ref a))=zs.map (·.1):=by
  refine EJ λj=>?_;rw [Aq,Aq]
  by_cases lt:j<as.length
  ·have lt':j<zs.length:=by lia
   rw [Ae lt,Ae lt'];obtain ⟨t,u,e,_⟩:=fc j as[j] zs[j] (Ae lt) (Ae lt');rw [DD,DD,yY e]
  ·rw [Bs (by lia),Bs (by lia)]
   rfl
 have T':∀ v∈as.map AD,TS.Tp (h'.push (seqObj "list" (as.map AD).toArray 0)) (nmG h') v:=λv hv=>by
  obtain ⟨a,ha,rfl⟩:=AK.mp hv;obtain ⟨j,hj⟩:=CY ha;have lt:j<zs.length:=by have:=(Ac.mp hj).1;lia
  obtain ⟨t,u,e,_⟩:=fc j a zs[j] hj (Ae lt);exact ⟨a,_,_,_,t,[u],rfl,Ad _ e,rfl,rfl,by rw [yY e]⟩
 have D:(as.map AD).Pairwise λu v=>nmG h' u≠nmG h' v:=by
  rw [CJ];have:=nd;rw [<- nmz] at this;exact CJ.mp this
 refine Aa (BD (Bw slot_list_sort ⟨_,oL,rfl⟩ entry_list_sort (TS.sort_tup (nm:=nmG h') oL T' D (by rw [Ag,al];exact h64) λout x1 x2=>⟨_,rfl,Af ⟨_,rfl,?_⟩⟩) (args_list_sort _)));have er:∀ v∈out,v=.ref (adOf v):=λv hv=>by
  obtain ⟨b,_,rfl⟩:=AK.mp (x1.mem_iff.mp hv);rfl
 have eo:out=(out.map adOf).map AD:=by
  rw [Cb]
  conv=>lhs;rw [<- List.map_id out]
  exact Dg er
 have pm:(out.map adOf).Perm as:=by
  have:=x1.map adOf;rw [Cb,show (adOf ∘ AD)=id from rfl,List.map_id] at this;exact this
 obtain ⟨zs',p1,p2,p3⟩:=aB9 pm al;refine h h' tk as (out.map adOf) zs' out hk al hG.rise (λa ha=>hG.above a ha) fz p1 p2 p3 eo ?_;rw [eo] at x2;have x3:=CJ.mp x2;rw [Dy] at x3 ⊢;intro i j hi hj hij;have hi':i<(out.map adOf).length:=by lia
 have hj':j<(out.map adOf).length:=by lia
 have nz:∀ (i:Nat) (h1:i<(out.map adOf).length) (h2:i<zs'.length),nmG h' (.ref (out.map adOf)[i])=zs'[i].1:=λi h1 h2=>by
  have m:((out.map adOf)[i],zs'[i])∈(out.map adOf).zip zs':=by
   refine Ao (i:=i) ?_;rw [FD];exact ⟨Ae h1,Ae h2⟩
  obtain ⟨t,u,e,_⟩:=fz _ _ (p2.mem_iff.mp m);exact yY e
 have z:=x3 i j hi' hj' hij;have z':(nmG h' (.ref (out.map adOf)[i])).cps.toList<(nmG h' (.ref (out.map adOf)[j])).cps.toList:=z;rw [nz i hi' hi,nz j hj' hj] at z';exact z'
end TI
end L2
namespace L2
abbrev txK (zs:Gn):Gp:=zs.map λz=>(AQ z.1,z.2)
def uO (td:TE):TE:=λσ H Q=>td σ H λx H1=>∃ a zs,x=.ref a/\H1 a=some (.dK (txK zs))/\(zs.map (·.1)).Nodup/\zs.length<64 /\
 ∀ (p:Gj) (as:List Gj) (zs':Gn) (H':Hp),Same H1 H'->zs'.Perm zs->(zs'.Pairwise λu v=>u.1.cps.toList<v.1.cps.toList)->as.length=zs'.length ->
  (∀ a z,(a,z)∈as.zip zs'->H' a=some (.tup [.str z.1,z.2]))->H' p=some (.lst (as.map V.ref))->Q (.ref p) H'
def nX {X:Cx}{o:Expr}{td:TE}{p apos cpos pos:Pos}(hc:X.calm=true)(hg:Gl X "sorted")(hm:X.mg "sorted" = none)(ho:PE X o td)
  (hbase:ER o "items" X.env (eval o X.env)=eval o X.env:=by rfl) (hline:(apos.endLine==cpos.line)=true:=by rfl)
  (hs3:AR [Expr.Call (.Attribute o "items" apos) [] [] cpos] X.env=[(false,eval (.Call (.Attribute o "items" apos) [] [] cpos) X.env)]:=by rfl) :
  PE X (.Call (.Name "sorted" p) [.Call (.Attribute o "items" apos) [] [] cpos] [] pos) (uO td):=by
 intro Z s σ H Q I h;refine DY (fZ I hg hm boot_sorted (PyProof.Rows.callWith_builtin1 ?_ hs3 rfl));rw [hs3];show wpAny _ _ (spliced ((false,eval (.Call (.Attribute o "items" apos) [] [] cpos) X.env)::backTo pos [])) _ _ s;refine Ds ?_;refine wpAny_Call_method0_late hbase hline (thn (ho Z s σ H _ I h) λv s1 ⟨x,H1,I1,r1,a,zs,ex,hH,nd,h64,q⟩=>?_);subst ex;cases r1;obtain ⟨z,lo,vs,rel,dd⟩:=vO I1.hok hH;obtain ⟨t1,t2,_⟩:=zP I1 (.inl ⟨_,.inl hH⟩);refine ⟨"dict","dict.items",Ew,PySem.F.slot_dict_items,PySem.F.type_dict_items,t1,t2,Di rfl (PySem.evalArgs_none ?_)⟩;refine call_meetsIn PySem.F.slot_dict_items t1 PySem.F.entry_dict_items (PySem.F.args_dict_items_1 _) (meets_dict_items (bB X.prog X.w) a lo) ⟨⟨vs,dd⟩,DW ?_⟩;have I2:Inv X Z σ H1 { s1 with heap:=s1.heap.push { cls:=.type "dict_items",data:=.fields #[.ref a] } }:=I1.kept (t':=s1.toks) λb o e=>Ad _ e;obtain ⟨z2,lo2,vs2,rel2,dd2⟩:=vO I2.hok hH;obtain ⟨ep,hat⟩:=dd2.dictAt;refine TI.sorted_items (zs:=zs) (vs:=vs2) (ep:=ep) (I2.ok.hd hc) ⟨_,Ai _ rfl,rfl,rfl⟩ hat rel2 nd h64 λh' tk as as' zs' out keep al up ab fz p1 p2 p3 eo srt=>?_;have zk:((as.zip zs).map (·.1)).Nodup:=by
  rw [List.map_fst_zip (by lia)];exact up.imp λh e=>absurd (e▸h) (CN _)
 let g:Hp:=λb=>((as.zip zs).lookup b).map λz=>.tup [.str z.1,z.2]
 have gs:∀ b o,g b=some o->∃ z,(b,z)∈as.zip zs/\o=.tup [.str z.1,z.2]:=λb o e=>by
  obtain ⟨z,e1,e2⟩:=Bg.mp e;exact ⟨z,TI.lk_mem e1,e2.symm⟩
 have gm:∀ b z,(b,z)∈as.zip zs->g b=some (.tup [.str z.1,z.2]):=λb z m=>by
  show ((as.zip zs).lookup b).map _=_;rw [TI.mem_lk zk m];rfl
 have I3:Inv X Z σ (lay H1 g) { s1 with heap:=h',toks:=tk }:=I2.laidL (t':=tk) keep (λb o e=>by
   obtain ⟨z,m,_⟩:=gs b o e;exact Nat.le_of_lt (ab b (EC m).1)) λb o e=>by
   obtain ⟨z,m,rfl⟩:=gs b o e;obtain ⟨t,u,e1,e2⟩:=fz b z m;exact ⟨⟨zLn2,_,e1,rfl⟩,[.str z.1 t,u],.cons ⟨_,rfl⟩ (.cons e2 .nil),_,e1,rfl,_,rfl⟩
 have oL:(h'.push (seqObj "list" (as.map AD).toArray 0)).get? h'.objs.size=some (seqObj "list" (as.map AD).toArray 0):=Ai _ rfl;obtain ⟨e,he⟩:∃ e,(sortedHeap (h'.push (seqObj "list" (as.map AD).toArray 0)) h'.objs.size (as.map AD) out.toArray).get? h'.objs.size=some (seqObj "list" out.toArray e):=sortedHeap_at oL;have sm:Same H1 (lay H1 g):=λb o e=>by
  cases q:g b with
  |none=>rw [iZ q];exact e
  |some u=>
   obtain ⟨z,m,_⟩:=gs b u q;rw [I2.hok.fresh (Nat.le_of_lt (ab b (EC m).1))] at e;cases e
 have nL:lay H1 g h'.objs.size=none:=I3.hok.fresh (Aj _);refine ⟨.ref h'.objs.size,_,I3.laid (a:=h'.objs.size) (o:=.lst (as'.map V.ref)) (t':=tk) (λb o hb'=>?_) (Aj _) (tI (its:=out) (e:=e) (by rw [eo];exact nA as') ?_ he),rfl,q _ as' zs' _ (sm.trans (Gu nL)) p1 srt p3 (λb z m=>?_) aD⟩
 ·have lt:=Ar hb'
  rw [sortedHeap_old (Au lt) (by rw [BP];exact Cw lt)];exact Ad _ hb'
 ·rw [Ag,p3,p1.length_eq]
  exact bP (by lia)
 ·have m':=p2.mem_iff.mp m
  exact (Gu nL) _ _ (by rw [tP (gm b z m')])
end L2
namespace DX
def pI:typeLookup (.type "tuple") (Da "keys")=pure none:=am_miss_of_fast (by decide +kernel)
section
variable {P:Aw}{w:World}{A:Around}{E:Ga}{s:Gm}
def qQ {k:Nat}{sl:Array (Option Gk)}{Q:Option Gk->Gm->Prop}(ho:s.heap.get? a=some { cls:=.type "tuple",dict:=none,data:=.seq xs k,slots:=sl })(hh:A.handled=none)(h:∀ h' tk,(∀ b ob,s.heap.get? b=some ob->h'.get? b=some ob)->Q none { s with heap:=h',toks:=tk }):wpAny (model P w) A (getAttr? (.ref a) "keys") Q E s:=by
 have ty:s.TypeIs (.ref a) "tuple":=⟨_,ho,rfl⟩;unfold getAttr?;refine Aa (wpAny_mkText ?_);unfold getAttrBy?;refine Aa (DQ ?_);unfold getAttrBy;refine BD ?_;refine Aa (Eg (T:="tuple") ⟨_,ho,rfl⟩ ?_);refine Aa (Cq FH.lookup ?_);dsimp only;show wpAny _ _ (getAttrByItsOwn _ _ _ _ _ _) _ _ _;unfold getAttrByItsOwn;refine Aa (Cq (a:=none) rfl ?_);refine Aa (DQ (BD ?_));show wpAny _ _ (boundAndCalled _ _ _) _ _ _;unfold boundAndCalled;refine Aa (Cq (FH.bind _) ?_);dsimp only;refine call_meets FH ⟨_,ho,rfl⟩ am_entry_tuple_getattribute (F.args_tuple_getattribute_2 _ _) (meets_getattribute_miss_tuple a xs k sl "keys" _ pI (by decide +kernel)) ⟨ho,hh,λh' tk e ne=>?_⟩;show wpAny _ _ (getattributeRaised _ _ _ _ _ _ _) _ _ _;obtain ⟨t,u,he⟩:=ne.there;unfold getattributeRaised;refine Aa (Fv (T:="AttributeError") ⟨_,he,rfl⟩ sub_AttributeError ?_);rw [if_pos rfl];refine Aa (Cq am_tuple_getattr_none ?_);unfold hookOrError;dsimp only;unfold attributeErrorLeaves;refine Aa (wpAny_throw ?_);show wpAny _ _ (isInstance _ _ >>= _) _ _ _;refine Aa (Fv (T:="AttributeError") ⟨_,he,rfl⟩ sub_AttributeError ?_);rw [if_pos rfl];exact Af (h h' tk ne.keeps)
end
section
variable {P:Aw}{w:World}{K:Type}[DecidableEq K]{knd:KeyKind P w K}{A:Around}{R:Result->Gm->Prop}
def vY (hh:A.in1.handled=none)(d it l:Addr)(its:Array Value)(ps:List (K×Value))(hdi:d≠it)(hdl:d≠l)(hil:it≠l)(hl:ps.length=its.size)(hz:ps.length<=Av)(h0:Heap)(hL:h0.IsTuple l its)
  (hp:∀ (i:Nat) kv,ps[i]?=some kv->∃ z key,its[i]?=some (.ref z)/\knd.is kv.1 key=true/\z≠d/\z≠it/\TupAt h0 z key kv.2) :
  ∀ (n i:Nat) (s:Shared),its.size-i=n->i<=its.size->s.heap.IsTupleIter it l i->(∀ b o,b≠d->b≠it->h0.get? b=some o->s.heap.get? b=some o)->s.heap.DictOf knd d ((ps.take i).foldl (λacc kv=>stored acc kv.1 kv.2) [])->((ps.take i).foldl (λacc kv=>stored acc kv.1 kv.2) []).length<=i ->
   (∀ (h':Heap) (tk:Nat),(∀ b o,b≠d->b≠it->h0.get? b=some o->h'.get? b=some o)->h'.DictOf knd d (ps.foldl (λacc kv=>stored acc kv.1 kv.2) [])->R (.ok (.ret .none)) { s with heap:=h',toks:=tk }) ->
   Eu (model P w) A (.builtin "dict.update.loop" ⟨[.ref d,.ref it,rawInt i,.none],[]⟩) R s:=by
 intro n
 induction n with
 |zero=>
  intro i s hk hi st fr D len q;obtain rfl:i=its.size:=by lia
  refine CG oQ ?_;rw [CA gR _];have hL':s.heap.IsTuple l its:=by
   obtain ⟨o,e,r⟩:=hL;exact ⟨o,fr l o (Bi hdl) (Bi hil) e,r⟩
  show wpAny _ A.in1 (pyNext (.ref it) >>= _) _ _ s;refine Aa (wpAny_pyNext_tuple_end hh st hL' (by simp) λh' eb=>?_);rw [Dk (by lia)] at D;dsimp only;refine Aa (Cq (a:=()) rfl ?_);refine Af (q h' s.toks (λb o b1 b2 e=>eb b o b2 (fr b o b1 b2 e)) ?_);obtain ⟨o,es,ep,ho,r⟩:=D;exact ⟨o,es,ep,eb d o hdi ho,r⟩
 |succ n ih=>
  intro i s hk hi st fr D len q;have lt:i<its.size:=by lia
  have hL':s.heap.IsTuple l its:=by
   obtain ⟨o,e,r⟩:=hL;exact ⟨o,fr l o (Bi hdl) (Bi hil) e,r⟩
  obtain ⟨kv,hkv⟩:∃ kv,ps[i]?=some kv:=⟨_,Ae (by lia)⟩;obtain ⟨z,key,e1,e2,z1,z2,tz⟩:=hp i kv hkv;refine CG oQ ?_;rw [CA gR _];show wpAny _ A.in1 (pyNext (.ref it) >>= _) _ _ s;refine Aa (wpAny_pyNext_tuple_item st hL' e1 λh' st' sb=>?_);have fr1:∀ b o,b≠d->b≠it->h0.get? b=some o->h'.get? b=some o:=λb o b1 b2 e=>(sb.2 b b2).trans (fr b o b1 b2 e);have D1:h'.DictOf knd d ((ps.take i).foldl (λacc kv=>stored acc kv.1 kv.2) []):=by
   obtain ⟨o,es,ep,ho,r⟩:=D;exact ⟨o,es,ep,(sb.2 d hdi).trans ho,r⟩
  have tz1:TupAt h' z key kv.2:=by
   obtain ⟨o,m,ho,r⟩:=tz;exact ⟨o,m,fr1 z o z1 z2 ho,r⟩
  dsimp only;refine Aa (BD ?_);refine Aa (wpAny_tryCatch (mH tz1 ?_));dsimp only;refine BD (wpAny_dictSet_pairs e2 D1 (λh2 D2 sb2=>?_) (by lia));have et:ps.take (i+1)=ps.take i++[kv]:=by rw [Dd,hkv];rfl
  refine Af ⟨Eo gR _,?_⟩;have D3:h2.DictOf knd d ((ps.take (i+1)).foldl (λacc kv=>stored acc kv.1 kv.2) []):=by
   rw [et,List.foldl_append];exact D2
  have len3:((ps.take (i+1)).foldl (λacc kv=>stored acc kv.1 kv.2) []).length<=i+1:=by
   rw [et,List.foldl_append];have:=uP ((ps.take i).foldl (λacc kv=>stored acc kv.1 kv.2) []) kv.1 kv.2;show (stored _ kv.1 kv.2).length<=i+1;lia
  refine ih (i+1) _ (by lia) lt ?_ (λb o b1 b2 e=>(sb2.2 b b1).trans (fr1 b o b1 b2 e)) D3 len3 λh3 tk f3 d3=>q h3 tk f3 d3;obtain ⟨o,e,r⟩:=st';exact ⟨o,(sb2.2 it (Bi hdi)).trans e,r⟩
end
section
variable {P:Aw}{w:World}{K:Type}[DecidableEq K]{knd:KeyKind P w K}{A:Around}{E:Ga}{s:Gm}
def call_dict_tup {l:Addr}{its:Array Value}{n:Nat}{sl:Array (Option Value)}{ps:List (K×Value)}{Q:Value->Shared->Prop}(hh:A.handled=none)(hl:s.heap.get? l=some { cls:=.type "tuple",dict:=none,data:=.seq its n,slots:=sl })(hz:ps.length<=Av)(hlen:ps.length=its.size)
  (hp:∀ (i:Nat) kv,ps[i]?=some kv->∃ z key,its[i]?=some (.ref z)/\knd.is kv.1 key=true/\TupAt s.heap z key kv.2)
  (h:∀ (h':Heap) (tk:Nat),(∀ b o,s.heap.get? b=some o->h'.get? b=some o)->h'.DictOf knd s.heap.objs.size (ps.foldl (λacc kv=>stored acc kv.1 kv.2) [])->Q (.ref s.heap.objs.size) { s with heap:=h',toks:=tk }) :
  wpAny (model P w) A (call (.type "dict") [.ref l]) Q E s:=by
 obtain ⟨c,tl,hmro⟩:=CZ.mro;have hmade:=CZ.made;have hsub:=CZ.sub;refine Fc (EO ?_);show wpAny _ _ (callAny (.type "dict") _) _ _ _;refine Af ⟨EF _ (by decide +kernel),CG F.entry_type_call ?_⟩;rw [Around.under_plain (weight_type_call_type "dict" [.ref l] []) rfl];have h1:=CZ.notType;have h2:=CZ.canCreate;have hct:=F.kt_typeCall_dict_1 (.ref l)
 repeat (any_goals (first|assumption|wp_step))
 refine CI (kt_code_dict_new (.ref l) (E:=E) (Q₁:=λobj s1=>obj=.ref s.heap.objs.size/\s1={ s with heap:=s.heap.push nuD }) ⟨rfl,rfl⟩) λr s1 hr=>?_;cases r with
 |error e=>exact hr
 |ok fl=>
  cases fl with
  |ret obj=>
   obtain ⟨rfl,rfl⟩:=hr;have hS:(s.heap.push nuD).get? s.heap.objs.size=some nuD:=Ai _ rfl;have hT:Shared.TypeIs { s with heap:=s.heap.push nuD } (.ref s.heap.objs.size) "dict":=⟨_,hS,rfl⟩;have hli:=CZ.init.lookup;have hbi:=CZ.init.bind (.ref s.heap.objs.size)
   repeat (any_goals (first|assumption|wp_step))
   refine CI (Et (R:=wants (λr s2=>r=.none/\∃ h' tk,s2={ s with heap:=h',toks:=tk }/\h'.DictOf knd s.heap.objs.size (ps.foldl (λacc kv=>stored acc kv.1 kv.2) [])/\(∀ b o,s.heap.get? b=some o->h'.get? b=some o)) E) CZ.init.plain F.entry_dict_init (CZ.init.check _ _ _ _ _ _ _ _ hT (F.args_dict_init_2 _ _) ?_)) λr2 s2 hr2=>?_
   ·have hl1:(s.heap.push nuD).get? l=some { cls:=.type "tuple",dict:=none,data:=.seq its n,slots:=sl }:=Ad _ hl
    have hlS:l<s.heap.objs.size:=Ar hl;have hz1:(s.heap.push nuD).objs.size=s.heap.objs.size+1:=BP ..;show wpAny _ _ (AE.Dict.selfAndRest "__init__" ⟨[.ref s.heap.objs.size,.ref l],[]⟩ >>= _) _ _ _;refine Aa ?_;unfold AE.Dict.selfAndRest AE.Dict.notOrdered;rw [if_pos (by decide +kernel)];refine Aa (Aa (Eg (T:="dict") hT ?_));rw [if_neg (by decide +kernel)];refine Af ?_;refine Aa (Cq (a:=s.heap.objs.size) rfl (Af ?_));show wpAny _ _ (AE.Dict.updateFrom "dict.__init__" s.heap.objs.size (.ref l) [] .none) _ _ _;unfold AE.Dict.updateFrom;refine Aa (Eg (T:="tuple") ⟨_,hl1,rfl⟩ ?_);rw [if_pos (by decide +kernel)];refine Aa (qQ hl1 (by simp [hh]) λh3 tk3 k3=>?_);rw [if_pos (show (none:Option Value).isNone=true from rfl)];refine Aa (DC ?_);have hl3:h3.get? l=some { cls:=.type "tuple",dict:=none,data:=.seq its n,slots:=sl }:=k3 _ _ hl1;have hL3:h3.IsTuple l its:=⟨_,hl3,rfl,n,rfl⟩;refine Aa (EM hL3 ?_);have hd3:h3.get? s.heap.objs.size=some nuD:=k3 _ _ hS;have dlt:=Ar hd3;have llt:=Ar hl3;have old:∀ b o,s.heap.get? b=some o->(h3.push { cls:=.type "tuple_iterator",data:=.fields #[.ref l,.int 0 0] }).get? b=some o/\b≠s.heap.objs.size/\b≠h3.objs.size:=λb o e=>by
     have e3:=k3 _ _ (Ad nuD e);exact ⟨Ad _ e3,Au (Ar e),Au (Ar e3)⟩
    refine Af ⟨Eo gR _,vY (knd:=knd) (by simp [hh]) s.heap.objs.size h3.objs.size l its ps (Au dlt) (DH hlS) (DH llt) hlen hz (h3.push { cls:=.type "tuple_iterator",data:=.fields #[.ref l,.int 0 0] }) ⟨_,(old l _ hl).1,rfl,n,rfl⟩ (λi kv hkv=>?_) its.size 0 _ (by lia) (BF _) ⟨_,Ai _ rfl,rfl,rfl⟩ (λb o _ _ e=>e) ?_ (Aj _) λh' tk fr D=>⟨rfl,h',tk,rfl,D,λb o e=>fr b o (old b o e).2.1 (old b o e).2.2 (old b o e).1⟩⟩
    ·obtain ⟨z,key,e1,e2,o,m,e3,e4⟩:=hp i kv hkv
     exact ⟨z,key,e1,e2,(old z o e3).2.1,(old z o e3).2.2,o,m,(old z o e3).1,e4⟩
    ·exact ⟨nuD,#[],0,Ad _ hd3,⟨rfl,rfl,rfl⟩,rfl,(λe he=>by simp at he),.nil,Ej⟩
   ·cases r2 with
    |error e=>exact hr2
    |ok f2=>
     cases f2 with
     |ret r=>
      obtain ⟨rfl,h',tk,rfl,S',hk'⟩:=hr2
      repeat (any_goals (first|assumption|wp_step))
      exact h _ _ hk' S'
     |_=>exact hr2.elim
  |_=>exact hr.elim
end
end DX
namespace L2
section
variable {X:Cx}
def aIk:Gq->Hp->VK->Prop:=λxs H Q=>∃ (a:Gj) (us:Gq) (kvs:Gp),xs=[.ref a]/\H a=some (.tup us)/\us.length=kvs.length/\(kvs.map (·.1)).Nodup /\
 (∀ (i:Nat) u kv,us[i]?=some u->kvs[i]?=some kv->∃ z,u=.ref z/\H z=some (.tup [kV kv.1,kv.2]))/\∀ p,H p=none->Q (.ref p) (upd H p (.dK kvs))
def lP (hc:X.calm=true):fA X (.type "dict") (aIk):=by
 intro Z s σ H xs us' Q I r h;obtain ⟨a,us,kvs,rfl,hH,hl,nd,hp,q⟩:=h;obtain ⟨u,rfl,rx⟩:=vals1 r;cases rx;obtain ⟨⟨z,nd0⟩,its,rv,ob,e0,e1,n,e2⟩:(us.length<=Av/\NoD s.heap a)/\∃ its:Gi,Vals us its/\PyProof.Rows.IsTup s.heap a its.toArray:=I.hok a _ hH;obtain ⟨oc,od,odt,osl⟩:=ob;have e3:od=none:=nd0.at e0;have e1':oc=.type "tuple":=e1;have e2':odt=.seq its.toArray n:=e2;subst e3 e1' e2';have e:=e0;have vl:=rv.length;have at':∀ (i:Nat) kv,kvs[i]?=some kv->∃ z key v,its[i]?=some (.ref z)/\RelV (kV kv.1) key/\RelV kv.2 v/\DX.TupAt s.heap z key v:=λi kv hkv=>by
  have hi:=(Ac.mp hkv).1;obtain ⟨u,hu⟩:∃ u,us[i]?=some u:=⟨_,Ae (by lia)⟩;obtain ⟨z,rfl,hz⟩:=hp i u kv hu hkv;obtain ⟨v,hv,ru⟩:=rv.get hu;cases ru;obtain ⟨_,ts,rt,o,ho,hc',m,hd⟩:_/\∃ ts,Vals [kV kv.1,kv.2] ts/\s.heap.IsTuple z ts.toArray:=I.hok z _ hz;obtain ⟨k1,v1,rfl,r1,r2⟩:=vals2 rt;exact ⟨z,k1,v1,hv,r1,r2,o,m,ho,hc',hd⟩
 obtain ⟨vs,kvr,vat⟩:∃ vs:List (Key×Gk),KV kvs vs/\∀ (i:Nat) kv,vs[i]?=some kv->∃ z key,its.toArray[i]?=some (.ref z)/\(bB X.prog X.w).is kv.1 key=true/\DX.TupAt s.heap z key kv.2:=by
  have key:∀ (kvs:Gp) (j:Nat),(∀ (i:Nat) kv,kvs[i]?=some kv->∃ z key v,its[j+i]?=some (.ref z)/\RelV (kV kv.1) key/\RelV kv.2 v/\DX.TupAt s.heap z key v)->∃ vs:List (Key×Gk),KV kvs vs/\∀ (i:Nat) kv,vs[i]?=some kv->∃ z key,its.toArray[j+i]?=some (.ref z)/\(bB X.prog X.w).is kv.1 key=true/\DX.TupAt s.heap z key kv.2:=by
   intro kvs
   induction kvs with
   |nil=>exact λj _=>⟨[],.nil,λi kv h=>by simp at h⟩
   |cons kv r ih=>
    intro j h;obtain ⟨vs,a1,a2⟩:=ih (j+1) λi kv hk=>by
     have:=h (i+1) kv (by simpa using hk);rwa [show j+(i+1)=j+1+i by lia] at this
    obtain ⟨z,key,v,b1,b2,b3,b4⟩:=h 0 kv rfl;refine ⟨(kv.1,v)::vs,.cons ⟨rfl,b3⟩ a1,λi kw hk=>?_⟩;cases i with
    |zero=>
     cases (show some (kv.1,v)=some kw from hk);exact ⟨z,key,by simpa using b1,qR b2,b4⟩
    |succ i=>
     have:=a2 i kw (by simpa using hk);rwa [show j+(i+1)=j+1+i by lia]
  obtain ⟨vs,a1,a2⟩:=key kvs 0 λi kv hk=>by rw [Nat.zero_add];exact at' i kv hk
  exact ⟨vs,a1,λi kv hk=>by have:=a2 i kv hk;rwa [Nat.zero_add] at this⟩
 have kl:=kvr.length;refine DX.call_dict_tup (knd:=bB X.prog X.w) (I.ok.hd hc) e (ps:=vs) (by lia) (by rw [An];lia) vat λh' tk k3 D=>?_;have rel:=zI kvr (acc:=[]) (bcc:=[]) .nil;rw [tY kvs [] nd (λ_ _ _ h=>nomatch h),List.nil_append] at rel;exact ⟨.ref _,_,I.laid (a:=s.heap.objs.size) (o:=.dK kvs) (t':=tk) k3 (Aj _) ⟨by lia,beq_eq_false_iff_ne.mpr (Bi (Au I.big)),_,rel,D⟩,rfl,q _ (I.hok.fresh (Aj _))⟩
end
def aHq (K:Ab)(ta:TE):TE:=λσ H Q=>ta σ H λv H1=>∃ a x y,v=.ref a/\SqT K H1 a [.str x,.str y]/\(∀ c∈x.cps.toList,c<16^8)/\(∀ c∈y.cps.toList,c<16^8)/\x.length<=20/\y.length<=20 /\
 ∀ z:Str,z.length<=500->Q (.str z) H1
def aH2 (x y:Str):(PyData.tuple [.str x,.str y]).shown.length=(Fj x).length+(Fj y).length+4:=by
 have e:(PyData.tuple [.str x,.str y]).shown=tupleText [Fj x,Fj y]:=by
  simp only [PyData.shown,PyData.shownAll]
 rw [e];have j:=join_length_add [Fj x,Fj y] (by simp);unfold tupleText;have p:piled [Fj x,Fj y]=(Fj x).length+2+((Fj y).length+2):=by simp [piled]
 have c:(if ([Fj x,Fj y].length==1)=true then (",)":String) else ")") = ")":=rfl
 rw [c];have l1:(("(":Str)).length=1:=by decide +kernel
 have l2:(((")":String):Str)).length=1:=by decide +kernel
 rw [Str.length_append,Str.length_append];rw [l1];have l2':(Da ")").length=1:=l2
 rw [l2'];lia
def aF1 {k:Nat}(hr:Room k X.A)(ha:PE X value ta):PE X (.FormattedValue value (-1) none pos) (aHq X.K ta):=by
 intro Z s σ H Q I h;refine FormattedValue_plain (thn (ha Z s σ H _ I h) λu s1 ⟨v,H1,I1,rv,a,x,y,ev,sq,cx,cy,lx,ly,q⟩=>?_);subst ev;cases rv;obtain ⟨its,r,⟨o,ho,hc,n,hd⟩,hz⟩:=I1.tuple sq;obtain ⟨u1,u2,rfl,⟨t1,rfl⟩,⟨t2,rfl⟩⟩:=vals2 r;have rd:Reads s1.heap (.ref a) (.tuple [.str x,.str y]) ([]++([]++[])):=.tuple ho hc hd (.cons (.str x t1) (.cons (.str y t2) .nil));have b1:=StrLaws.reprText_len x cx;have b2:=StrLaws.reprText_len y cy;have sl:=aH2 x y;have un:=hr.units;refine formatField_of_reads rd (by simp [PyData.showable,PyData.showableAll]) (λ_ h=>by simp at h) hr.gd (by simp only [PyData.depth,PyData.depthAll];lia) (λ_ _ e=>e) (λh' u tk k=>⟨.str _,H1,I1.kept (t':=tk) k,⟨_,rfl⟩,q _ (by lia)⟩) (by rw [sl];exact Bj (show _<=448 by lia) (by decide))
end L2
namespace K53
open L2 GM TM
abbrev sE0:Stmt:=inClass (top 5) 0
abbrev sE1:Stmt:=inClass (top 7) 0
abbrev sE2:Stmt:=inClass (top 6) 0
abbrev sE3:Stmt:=inClass (top 8) 0
abbrev sE4:Stmt:=inClass (top 9) 0
abbrev aDt:Stmt:=inClass (top 33) 0
abbrev wY:Stmt:=inClass (top 33) 1
abbrev aDs:Stmt:=inClass (top 34) 0
abbrev wX:Stmt:=inClass (top 34) 1
abbrev aDr:Stmt:=inClass (top 35) 0
abbrev jT:Stmt:=inClass (top 35) 1
abbrev xD:Stmt:=inClass (top 36) 0
abbrev pY:Stmt:=inClass (top 36) 1
abbrev xC:Stmt:=inClass (top 37) 0
abbrev pX:Stmt:=inClass (top 37) 1
structure Er1 (K:Ab)(cP c f:Gj)(fs:Gh):Prop where
 e:∀ x∈fs,ExF K c cP f x
 s:PySem.W.subIn K (.ref c) (.ref cP)=some true
structure ErB (K:Ab)(mg:Gb)(cP c0 c1 c2 c3 c4 f0 f1 f2 f3 f4:Gj):Prop where
 ct:CtK K cP
 bi:BaseI K cP
 mP:mg "PhialError" = some (.ref cP)
 r0:Er1 K cP c0 f0 ["place","phial"]
 r1:Er1 K cP c1 f1 ["place","phial"]
 r2:Er1 K cP c2 f2 ["place","phial"]
 r3:Er1 K cP c3 f3 ["place","phial","over"]
 r4:Er1 K cP c4 f4 ["place","phial","pair"]
 m0:mg "Dry" = some (.ref c0)
 m1:mg "Low" = some (.ref c1)
 m2:mg "Wet" = some (.ref c2)
 m3:mg "Spilt" = some (.ref c3)
 m4:mg "Touch" = some (.ref c4)
def aBd (e c:Gj)(fl:Gn)(H:Hp)(Q:VK):Prop:=∀ dx H',dx≠e->(∀ p o,p≠e->H p=some o->H' p=some o)->H' e=some (exN e c (some dx))->H' dx=some (xdE dx fl)->Q .non H'
def spI2 (c:Gj):Sp:=λvs H Q _=>∃ (e:Gj) (n p:Nat),vs=[.ref e,.int (n:Nat),.int (p:Nat)]/\n<1000/\p<1000/\H e=some (exN e c none)/\aBd e c [("phial",.int (p:Nat)),("place",.int (n:Nat))] H Q
def spI3 (c:Gj):Sp:=λvs H Q _=>∃ (e:Gj) (n p:Nat) (u:V),vs=[.ref e,.int (n:Nat),.int (p:Nat),u]/\n<1000/\p<1000/\H e=some (exN e c none)/\aBd e c [("over",u),("phial",.int (p:Nat)),("place",.int (n:Nat))] H Q
def aE6 (K:Ab)(c:Gj):Sp:=λvs H Q _=>∃ (e a:Gj) (n p:Nat) (x y:Str),vs=[.ref e,.int (n:Nat),.int (p:Nat),.ref a]/\n<1000/\p<1000/\SqT K H a [.str x,.str y]/\Wr x/\Wr y/\H e=some (exN e c none)/\aBd e c [("pair",.ref a),("phial",.int (p:Nat)),("place",.int (n:Nat))] H Q
def BadE (c:Gj)(fl:Gn)(H:Hp)(E:XK):Prop:=∀ dx H',Same H H'->H' dx=some (xdE dx fl)->E (.ref c) (some dx) H'
def BadE.mono {c:Gj}{fl:Gn}{H H1:Hp}{E:XK}(h:BadE c fl H E)(s:Same H H1):BadE c fl H1 E:=λdx H' s' hd=>h dx H' (s.trans s') hd
def qP {e c:Gj}{fl:Gn}{H:Hp}{E:XK}(he:H e=none)(h:BadE c fl H E):aBd e c fl (upd H e (exN e c none)) (λv H2=>v=.non/\∃ dd,H2 e=some (exN e c dd)/\E (.ref c) dd (rem H2 e)):=λdx H' ne sm hE hd=>by
 refine ⟨rfl,some dx,hE,h dx _ (λp o hp=>?_) (by rw [nQ ne];exact hd)⟩;have n1:p≠e:=λz=>by rw [z,he] at hp;cases hp
 rw [nQ n1];exact sm p o n1 (by rw [aJ n1];exact hp)
abbrev aBc (c:Gj)(vs:Gq)(sp:Sp)(H:Hp)(E:XK):Prop:=vs.length<=Av/\∀ e,H e=none->sp (.ref e::vs) (upd H e (exN e c none)) (λv H2=>v=.non/\∃ dd,H2 e=some (exN e c dd)/\E (.ref c) dd (rem H2 e)) E0
def xJ {c:Gj}{n p:Nat}{H:Hp}{E:XK}(hn:n<1000)(hp:p<1000)(h:BadE c [("phial",.int (p:Nat)),("place",.int (n:Nat))] H E):aBc c [.int (n:Nat),.int (p:Nat)] (spI2 c) H E:=
 ⟨zLn2,λe he=>⟨e,n,p,rfl,hn,hp,aD,qP he h⟩⟩
def aIi {c:Gj}{n p:Nat}{u:V}{H:Hp}{E:XK}(hn:n<1000)(hp:p<1000)(h:BadE c [("over",u),("phial",.int (p:Nat)),("place",.int (n:Nat))] H E):aBc c [.int (n:Nat),.int (p:Nat),u] (spI3 c) H E:=
 ⟨zLn3,λe he=>⟨e,n,p,u,rfl,hn,hp,aD,qP he h⟩⟩
def aFu {K:Ab}{c a:Gj}{n p:Nat}{x y:Str}{H:Hp}{E:XK}(hn:n<1000)(hp:p<1000)(sq:H a=some (.tup [.str x,.str y]))(wx:Wr x)(wy:Wr y)(h:BadE c [("pair",.ref a),("phial",.int (p:Nat)),("place",.int (n:Nat))] H E):aBc c [.int (n:Nat),.int (p:Nat),.ref a] (aE6 K c) H E:=
 ⟨zLn3,λe he=>⟨e,a,n,p,x,y,rfl,hn,hp,Gv ((Gu he) _ _ sq),wx,wy,aD,qP he h⟩⟩
def MdE (e c:Gj)(fl:Gn)(H0 H:Hp):Prop:=∃ dx,H0 dx=none/\dx≠e/\(∀ p o,p≠e->H0 p=some o->H p=some o)/\H e=some (exN e c (some dx))/\H dx=some (xdE dx fl)
def eI {K:Ab}{cP c f e:Gj}{n:V}{tj:TJ}{t:TS}{D:Ends}{σ:L2.St}{H:Hp}(F:ExF K c cP f "place")(h0:σ[0]?=some (some (.ref e)))(h1:σ[1]?=some (some n))(he:H e=some (exN e c none))(hj:∀ Q:Str->Hp->Prop,(∀ z,Q z H)->tj Str.empty σ H Q)
  (k:∀ H',MdE e c [("place",n)] H H'->t D σ H'):tSeq (aHr (aDl K cP (aBo (tVar 0) (aBo (aHp tj) tNil)))) (tSeq (sExN K c cP f (tVar 0) (tVar 1) "place") t) D σ H:=
 ⟨_,h0,hj _ λz=>⟨e,c,none,f,z,rfl,he,F.i,_,h1,_,h0,e,rfl,he,F,λdx hd ne=>k _ ⟨dx,hd,ne,λp o n1 hp=>by
  rw [aJ (λz=>by rw [z,hd] at hp;cases hp),aJ n1];exact hp,by rw [aJ (Bi ne),aD],aD⟩⟩⟩
def eM {K:Ab}{cP c f e:Gj}{v:V}{x:Str}{i:Nat}{fl:Gn}{D:Ends}{σ:L2.St}{H0 H:Hp}(F:ExF K c cP f x)(h0:σ[0]?=some (some (.ref e)))(hi:σ[i]?=some (some v))(l:fl.length<=90)(m:MdE e c fl H0 H)(k:∀ H',MdE e c ((x,v)::fl) H0 H'->D.nx σ H'):sExM K c cP f (tVar 0) (tVar i) x D σ H:=by
 obtain ⟨dx,nd,ne,sm,h1,h2⟩:=m;refine ⟨_,hi,_,h0,e,dx,fl,rfl,h1,h2,l,F,k _ ⟨dx,nd,ne,λp o n1 hp=>?_,by rw [aJ (Bi ne)];exact h1,aD⟩⟩;rw [aJ (λz=>by rw [z,nd] at hp;cases hp)];exact sm p o n1 hp
theorem MdE.go {e c:Gj}{fl:Gn}{H0 H:Hp}{Q:VK}(m:MdE e c fl H0 H)(k:aBd e c fl H0 Q):Q .non H:=by
 obtain ⟨dx,_,ne,sm,h1,h2⟩:=m;exact k dx H ne sm h1 h2
def fs3 (f1 f2 f3:Str)(u1 u2 u3:V):Gn:=putF f3 u3 (putF f2 u2 (putF f1 u1 []))
def fs1 (f1:Str)(u1:V):Gn:=putF f1 u1 []
def kZ (C:Gj)(f1 f2 f3:Str):Sp:=λvs H Q _=>∃ (p dx:Gj) (u1 u2 u3:V),vs=[.ref p,u1,u2,u3]/\H p=some (.ins C dx [])/\∀ H',(∀ b o,b≠p->H b=some o->H' b=some o)->H' p=some (.ins C dx (fs3 f1 f2 f3 u1 u2 u3))->Q .non H'
def pN (C:Gj)(f1:Str):Sp:=λvs H Q _=>∃ (p dx:Gj) (u1:V),vs=[.ref p,u1]/\H p=some (.ins C dx [])/\∀ H',(∀ b o,b≠p->H b=some o->H' b=some o)->H' p=some (.ins C dx (fs1 f1 u1))->Q .non H'
theorem tK (f:Str)(v:V):∀ fs:Gn,(putF f v fs).length<=fs.length+1
  |[]=>Aj _
  |(g,x)::r=>by
    unfold putF;split
    . exact CU _
    . exact Nat.succ_le_succ (tK f v r)
def aG2 {f1 f2 f3:Str}{u1 u2 u3:V}(n3:f1≠f3)(n2:f1≠f2):(fs3 f1 f2 f3 u1 u2 u3).lookup f1=some u1:=by
 unfold fs3;rw [bF,if_neg n3,bF,if_neg n2,bF,if_pos rfl]
def aG1 {f1 f2 f3:Str}{u1 u2 u3:V}(n3:f2≠f3):(fs3 f1 f2 f3 u1 u2 u3).lookup f2=some u2:=by
 unfold fs3;rw [bF,if_neg n3,bF,if_pos rfl]
def aG0 {f1 f2 f3:Str}{u1 u2 u3:V}:(fs3 f1 f2 f3 u1 u2 u3).lookup f3=some u3:=by
 unfold fs3;rw [bF,if_pos rfl]
def aAc {f1 f2 f3 m:Str}{u1 u2 u3:V}(n1:m≠f1)(n2:m≠f2)(n3:m≠f3):(fs3 f1 f2 f3 u1 u2 u3).lookup m=none:=by
 unfold fs3;rw [bF,if_neg n3,bF,if_neg n2,bF,if_neg n1];rfl
def aAd {f1:Str}{u1:V}:(fs1 f1 u1).lookup f1=some u1:=by
 unfold fs1;rw [bF,if_pos rfl]
def aEc {f1 m:Str}{u1:V}(n1:m≠f1):(fs1 f1 u1).lookup m=none:=by
 unfold fs1;rw [bF,if_neg n1];rfl
structure DCl (K:Ab)(C:Gj)(fs:Gh):Prop where
 cl:Cls K C
 na:∀ f∈fs,NoAttr K C f
section
variable {P:Aw}{w:World}{K:Ab}{mg:Gb}{base:Heap}{cP c0 c1 c2 c3 c4 f0 f1 f2 f3 f4 C:Gj}{f:Gj}{fd:Ay}
theorem cpsT (t:Nat):cps ((toString (t:Int):String):Str)=dg t:=PySem.W.KIN.signs_num t
def logT {t:Nat}(h:t<10^60):((t:Int)).natAbs.log2<1920:=by
 rw [Int.natAbs_natCast]
 by_cases z:t=0
 ·subst z
  decide
 ·exact (Nat.log2_lt z).mpr (Ey h (by decide +kernel))
def aFt {n:Nat}(h:n<1000):((toString (n:Int):String):Str).length<=60:=by
 rw [lenC,cpsT];exact aJv (Ey h (by decide +kernel))
def nI {x:Str}(h:Wr x):∀ c∈x.cps.toList,c<16^8:=λc hc=>by
 exact DS (h.lt c hc).2 (by decide)
def jN {i n:Nat}{b:Str}{r:TJ}{acc:Str}{σ:L2.St}{H:Hp}{Q:Str->Hp->Prop}{m j:Nat}(la:acc.length<=m)(hj:m+b.length+120<=j/\j<=900)(hi:σ[i]?=some (some (.int (n:Nat))))(hn:n<1000)(k:∀ z:Str,z.length<=j->r z σ H Q):vF (tC (.str b)) (vF (tFmt (tVar i)) r) acc σ H Q:=by
 have hl:=aFt hn;obtain ⟨hj,j1⟩:=hj;refine ⟨_,rfl,?_,_,hi,_,⟨logT (Ey hn (by decide +kernel)),rfl⟩,_,rfl,?_,k _ ?_⟩
 ·rw [lenA];exact bP (by lia)
 ·rw [lenA,lenA];exact bP (by lia)
 ·rw [lenA,lenA];lia
def jE {b:Str}{acc:Str}{σ:L2.St}{H:Hp}{Q:Str->Hp->Prop}{m:Nat}(la:acc.length<=m)(l':m+b.length<=1000)(k:∀ z,Q z H):vF (tC (.str b)) jNil acc σ H Q:=
 have l:acc.length+b.length<=1000:=by lia
 ⟨_,rfl,by rw [lenA];exact bP l,by rw [lenA];exact bP l,k _⟩
def scE0:FnScope ["self","place","phial"] ["self","place","phial"] (aG sE0):=fnScOk
def aK1 (F:Fun K "__init__" "Dry.__init__" sE0 f fd)(R:ErB K mg cP c0 c1 c2 c3 c4 f0 f1 f2 f3 f4):FnOk P w K mg base CX0 1 f fd ["self","place","phial"] (spI2 c0):=by
 refine F.ok scE0 (λvs H Q E h=>?_) (λcdv A outer s H vs Q E hr h=>?_)
 ·obtain ⟨_,_,_,e,_⟩:=h
  rw [e];rfl
 ·obtain ⟨e,n,p,rfl,hn,hp,he,k⟩:=h
  exact ⟨_,aC (cV (gU rfl R.mP R.bi (aA (pv 0) (aA (kE (bH aR (bH (fY (pv 1)) (bH aR (bH (fY (pv 2)) (bH aR nW)))))) aB)))) (aC (nU (C:=c0) (P:=cP) (f:=f0) rfl (pv 0) (pv 1) rfl) (aE (jV (C:=c0) (P:=cP) (f:=f0) (pv 0) (pv 2) rfl))),eI (R.r0.e _ (by simp)) rfl rfl he (λ_ k=>jN (m:=0) (j:=160) (by decide) (by decide +kernel) rfl hn λz hz=>jN (j:=320) hz (by decide +kernel) rfl hp λz hz=>jE hz (by decide +kernel) k) λ_ m=>eM (R.r0.e _ (by simp)) rfl rfl (by simp) m λ_ m=>m.go k⟩
def scE1:FnScope ["self","place","phial"] ["self","place","phial"] (aG sE1):=fnScOk
def aK0 (F:Fun K "__init__" "Low.__init__" sE1 f fd)(R:ErB K mg cP c0 c1 c2 c3 c4 f0 f1 f2 f3 f4):FnOk P w K mg base CX0 1 f fd ["self","place","phial"] (spI2 c1):=by
 refine F.ok scE1 (λvs H Q E h=>?_) (λcdv A outer s H vs Q E hr h=>?_)
 ·obtain ⟨_,_,_,e,_⟩:=h
  rw [e];rfl
 ·obtain ⟨e,n,p,rfl,hn,hp,he,k⟩:=h
  exact ⟨_,aC (cV (gU rfl R.mP R.bi (aA (pv 0) (aA (kE (bH aR (bH (fY (pv 1)) (bH aR (bH (fY (pv 2)) (bH aR nW)))))) aB)))) (aC (nU (C:=c1) (P:=cP) (f:=f1) rfl (pv 0) (pv 1) rfl) (aE (jV (C:=c1) (P:=cP) (f:=f1) (pv 0) (pv 2) rfl))),eI (R.r1.e _ (by simp)) rfl rfl he (λ_ k=>jN (m:=0) (j:=160) (by decide) (by decide +kernel) rfl hn λz hz=>jN (j:=320) hz (by decide +kernel) rfl hp λz hz=>jE hz (by decide +kernel) k) λ_ m=>eM (R.r1.e _ (by simp)) rfl rfl (by simp) m λ_ m=>m.go k⟩
def scE2:FnScope ["self","place","phial"] ["self","place","phial"] (aG sE2):=fnScOk
def aKz (F:Fun K "__init__" "Wet.__init__" sE2 f fd)(R:ErB K mg cP c0 c1 c2 c3 c4 f0 f1 f2 f3 f4):FnOk P w K mg base CX0 1 f fd ["self","place","phial"] (spI2 c2):=by
 refine F.ok scE2 (λvs H Q E h=>?_) (λcdv A outer s H vs Q E hr h=>?_)
 ·obtain ⟨_,_,_,e,_⟩:=h
  rw [e];rfl
 ·obtain ⟨e,n,p,rfl,hn,hp,he,k⟩:=h
  exact ⟨_,aC (cV (gU rfl R.mP R.bi (aA (pv 0) (aA (kE (bH aR (bH (fY (pv 1)) (bH aR (bH (fY (pv 2)) (bH aR nW)))))) aB)))) (aC (nU (C:=c2) (P:=cP) (f:=f2) rfl (pv 0) (pv 1) rfl) (aE (jV (C:=c2) (P:=cP) (f:=f2) (pv 0) (pv 2) rfl))),eI (R.r2.e _ (by simp)) rfl rfl he (λ_ k=>jN (m:=0) (j:=160) (by decide) (by decide +kernel) rfl hn λz hz=>jN (j:=320) hz (by decide +kernel) rfl hp λz hz=>jE hz (by decide +kernel) k) λ_ m=>eM (R.r2.e _ (by simp)) rfl rfl (by simp) m λ_ m=>m.go k⟩
def scE3:FnScope ["self","place","phial","over"] ["self","place","phial","over"] (aG sE3):=fnScOk
def aKy (F:Fun K "__init__" "Spilt.__init__" sE3 f fd)(R:ErB K mg cP c0 c1 c2 c3 c4 f0 f1 f2 f3 f4):FnOk P w K mg base CX0 1 f fd ["self","place","phial","over"] (spI3 c3):=by
 refine F.ok scE3 (λvs H Q E h=>?_) (λcdv A outer s H vs Q E hr h=>?_)
 ·obtain ⟨_,_,_,_,e,_⟩:=h
  rw [e];rfl
 ·obtain ⟨e,n,p,u,rfl,hn,hp,he,k⟩:=h
  exact ⟨_,aC (cV (gU rfl R.mP R.bi (aA (pv 0) (aA (kE (bH aR (bH (fY (pv 1)) (bH aR (bH (fY (pv 2)) (bH aR nW)))))) aB)))) (aC (nU (C:=c3) (P:=cP) (f:=f3) rfl (pv 0) (pv 1) rfl) (aC (jV (C:=c3) (P:=cP) (f:=f3) (pv 0) (pv 2) rfl) (aE (jV (C:=c3) (P:=cP) (f:=f3) (pv 0) (pv 3) rfl)))),eI (R.r3.e _ (by simp)) rfl rfl he (λ_ k=>jN (m:=0) (j:=160) (by decide) (by decide +kernel) rfl hn λz hz=>jN (j:=320) hz (by decide +kernel) rfl hp λz hz=>jE hz (by decide +kernel) k) λ_ m=>eM (R.r3.e _ (by simp)) rfl rfl (by simp) m λ_ m=>eM (R.r3.e _ (by simp)) rfl rfl (by simp) m λ_ m=>m.go k⟩
def jP {i:Nat}{a:Gj}{x y b:Str}{acc:Str}{σ:L2.St}{H:Hp}{Q:Str->Hp->Prop}(wx:Wr x)(wy:Wr y)(sq:SqT K H a [.str x,.str y]){m:Nat}(la:acc.length<=m)(l:m+b.length<=400)(hi:σ[i]?=some (some (.ref a)))(k:∀ z,Q z H):vF (tC (.str b)) (vF (aHq K (tVar i)) jNil) acc σ H Q:=by
 refine ⟨_,rfl,?_,_,hi,a,x,y,rfl,sq,nI wx,nI wy,(by have:=wx.l8;lia),(by have:=wy.l8;lia),λz hz=>⟨z,rfl,?_,?_,k _⟩⟩
 ·rw [lenA];exact bP (by lia)
 ·rw [lenA,lenA];exact bP (by lia)
 ·rw [lenA,lenA];exact bP (by lia)
def scE4:FnScope ["self","place","phial","pair"] ["self","place","phial","pair"] (aG sE4):=fnScOk
def aKx (F:Fun K "__init__" "Touch.__init__" sE4 f fd)(R:ErB K mg cP c0 c1 c2 c3 c4 f0 f1 f2 f3 f4):FnOk P w K mg base CX0 1 f fd ["self","place","phial","pair"] (aE6 K c4):=by
 refine F.ok scE4 (λvs H Q E h=>?_) (λcdv A outer s H vs Q E hr h=>?_)
 ·obtain ⟨_,_,_,_,_,_,e,_⟩:=h
  rw [e];rfl
 ·obtain ⟨e,a,n,p,x,y,rfl,hn,hp,sq,wx,wy,he,k⟩:=h
  exact ⟨_,aC (cV (gU rfl R.mP R.bi (aA (pv 0) (aA (kE (bH aR (bH (fY (pv 1)) (bH aR (bH (fY (pv 2)) (bH aR (bH (aF1 hr (pv 3)) nW))))))) aB)))) (aC (nU (C:=c4) (P:=cP) (f:=f4) rfl (pv 0) (pv 1) rfl) (aC (jV (C:=c4) (P:=cP) (f:=f4) (pv 0) (pv 2) rfl) (aE (jV (C:=c4) (P:=cP) (f:=f4) (pv 0) (pv 3) rfl)))),eI (R.r4.e _ (by simp)) rfl rfl he (λ_ k=>jN (m:=0) (j:=160) (by decide) (by decide +kernel) rfl hn λz hz=>jN (j:=320) hz (by decide +kernel) rfl hp λz hz=>jP wx wy sq hz (by decide +kernel) rfl k) λ_ m=>eM (R.r4.e _ (by simp)) rfl rfl (by simp) m λ_ m=>eM (R.r4.e _ (by simp)) rfl rfl (by simp) m λ_ m=>m.go k⟩
def i3 {f1 f2 f3:Str}{N:Gh}{vs:Gq}{H:Hp}{Q:VK}{E:XK}(D:DCl K C [f1,f2,f3])(h:kZ C f1 f2 f3 vs H Q E):tSeq (sFld K (tVar 0) (tVar 1) f1) (tSeq (sFld K (tVar 0) (tVar 2) f2) (sFld K (tVar 0) (tVar 3) f3)) { nx:=λ_ H'=>Q .non H',rt:=Q } (start N vs) H:=by
 obtain ⟨p,dx,u1,u2,u3,rfl,hp,k⟩:=h;refine ⟨_,rfl,_,rfl,p,C,dx,[],rfl,hp,D.cl,D.na _ (by simp),(by show 0<1000;decide),_,rfl,_,rfl,p,C,dx,_,rfl,aD,D.cl,D.na _ (by simp),(by show 1<1000;decide),?_⟩;exact ⟨_,rfl,_,rfl,p,C,dx,_,rfl,aD,D.cl,D.na _ (by simp),(DS (tK ..) (by show 2<1000;decide)),k _ (λb o nb hb=>by rw [aJ nb,aJ nb,aJ nb];exact hb) aD⟩
def i1 {f1:Str}{N:Gh}{vs:Gq}{H:Hp}{Q:VK}{E:XK}(D:DCl K C [f1])(h:pN C f1 vs H Q E):sFld K (tVar 0) (tVar 1) f1 { nx:=λ_ H'=>Q .non H',rt:=Q } (start N vs) H:=by
 obtain ⟨p,dx,u1,rfl,hp,k⟩:=h;exact ⟨_,rfl,_,rfl,p,C,dx,[],rfl,hp,D.cl,D.na _ (by simp),(by show 0<1000;decide),k _ (λb o nb hb=>by rw [aJ nb];exact hb) aD⟩
def aCq (F:Fun K "__init__" "Draw.__init__" aDt f fd)(D:DCl K C ["phial","ware","amount"]):FnOk P w K mg base CX0 1 f fd ["self","phial","ware","amount"] (kZ C "phial" "ware" "amount"):=
 F.ok (N:=["self","phial","ware","amount"]) (fnScOk (by decide +kernel)) (λ_ _ _ _ ⟨_,_,_,_,_,e,_⟩=>e▸rfl) λ_ _ _ _ _ _ _ _ hr h=>⟨_,(aC (fJ (pv 0) (pv 1) rfl) (aC (fJ (pv 0) (pv 2) rfl) (aE (fJ (pv 0) (pv 3) rfl)))),i3 D h⟩
def aCp (F:Fun K "__init__" "Fill.__init__" aDs f fd)(D:DCl K C ["phial","ware","level"]):FnOk P w K mg base CX0 1 f fd ["self","phial","ware","level"] (kZ C "phial" "ware" "level"):=
 F.ok (N:=["self","phial","ware","level"]) (fnScOk (by decide +kernel)) (λ_ _ _ _ ⟨_,_,_,_,_,e,_⟩=>e▸rfl) λ_ _ _ _ _ _ _ _ hr h=>⟨_,(aC (fJ (pv 0) (pv 1) rfl) (aC (fJ (pv 0) (pv 2) rfl) (aE (fJ (pv 0) (pv 3) rfl)))),i3 D h⟩
def aCo (F:Fun K "__init__" "Pour.__init__" aDr f fd)(D:DCl K C ["one","other","part"]):FnOk P w K mg base CX0 1 f fd ["self","one","other","part"] (kZ C "one" "other" "part"):=
 F.ok (N:=["self","one","other","part"]) (fnScOk (by decide +kernel)) (λ_ _ _ _ ⟨_,_,_,_,_,e,_⟩=>e▸rfl) λ_ _ _ _ _ _ _ _ hr h=>⟨_,(aC (fJ (pv 0) (pv 1) rfl) (aC (fJ (pv 0) (pv 2) rfl) (aE (fJ (pv 0) (pv 3) rfl)))),i3 D h⟩
def yR (F:Fun K "__init__" "Empty.__init__" xD f fd)(D:DCl K C ["phial"]):FnOk P w K mg base CX0 1 f fd ["self","phial"] (pN C "phial"):=
 F.ok (N:=["self","phial"]) (fnScOk (by decide +kernel)) (λ_ _ _ _ ⟨_,_,_,e,_⟩=>e▸rfl) λ_ _ _ _ _ _ _ _ hr h=>⟨_,(aE (fJ (pv 0) (pv 1) rfl)),i1 D h⟩
def yQ (F:Fun K "__init__" "Rinse.__init__" xC f fd)(D:DCl K C ["phial"]):FnOk P w K mg base CX0 1 f fd ["self","phial"] (pN C "phial"):=
 F.ok (N:=["self","phial"]) (fnScOk (by decide +kernel)) (λ_ _ _ _ ⟨_,_,_,e,_⟩=>e▸rfl) λ_ _ _ _ _ _ _ _ hr h=>⟨_,(aE (fJ (pv 0) (pv 1) rfl)),i1 D h⟩
end
end K53
namespace PySem.SeqAt
open PySem MeetsSeq
end PySem.SeqAt
namespace HT
section
variable {prog:Aw}{w:World}{A:Around}{E:Ga}{s:Gm}
def getItem_tuple_whole {t sl:Gj}{items:Array Gk}{vl vu:Gk}{lo hi:Option Int}{Q:Ga}(ht:IsTup s.heap t items)(hs:s.heap.IsSliceOf sl vl vu .none)(pl:IsPart vl lo)(pu:IsPart vu hi)
  (hw:sIx items.size 0 lo=0/\sIx items.size items.size hi=items.size) (h:Q (.ref t) s):wpAny (model prog w) A (getItem (.ref t) (.ref sl)) Q E s:=by
 obtain ⟨os,hos,hcs,hds⟩:=id hs;have hTs:s.TypeIs (.ref sl) "slice":=⟨os,hos,hcs⟩;unfold getItem
 try with_reducible refine BD ?_
 first|refine Aa (Af ?_)|skip
 refine Aa (wpAny_sequenceKey ht.typeIs (by decide) ?_);refine Aa (BE (name:=Da "__getitem__") ht.typeIs BY
  (Bw BY ht.typeIs entry_tuple_getitem ?_ (args_tuple_getitem _ _)))
 show wpAny _ _ (AE.Tuple.tupleItemsOf (.ref t) >>= _) _ _ s;refine Aa (tupleItemsOf_ ht ?_);refine Aa (Eg hTs ?_);rw [if_pos (by decide)];refine Aa (eY hs pl pu ?_);rw [hw.1,hw.2];have hyes:(((0:Nat):Int)==0&&(1:Int)==1&&(items.size-0)==items.size)=true:=by simp
 show wpAny _ _ (if (((0:Nat):Int)==0&&(1:Int)==1&&(items.size-0)==items.size)=true then _ else _) _ _ s;rw [if_pos hyes];refine Aa (m:=AE.Tuple.tupleIsExact (.ref t)) ?_;unfold AE.Tuple.tupleIsExact;refine Aa (Eg ht.typeIs (Af ?_));rw [if_pos (by decide)];exact Aa (DC (Af ⟨_,rfl,Af h⟩))
end
end HT
namespace L2
def rIndexF:V->Gq->Hp->VK->Prop:=λx vs H Q=>∃ l xs y,∃ i j:Nat,∃ z,x=.ref l/\vs=[y,.int (i:Int)]/\H l=some (.lst xs)/\eC y=true/\xs.all eC=true/\i<=j/\xs[j]?=some z/\eqV z y=true /\
 (∀ m z,i<=m->m<j->xs[m]?=some z->eqV z y=false)/\Q (.int (j:Int)) H
section
variable {X:Cx}
def aKp (K:Ab):V->Option Int->Option Int->Hp->VK->Prop:=λx lo hi H Q=>∃ a xs,x=.ref a/\H a=some (.tup xs)/\∀ p H',Same H H'->H' p=some (.tup (cutV xs lo hi))->Q (.ref p) H'
def gA:SlR X (aKp X.K):=by
 intro Z s σ H x v vl vu lo hi sl Q I rx hs pl pu h;obtain ⟨a,xs,rfl,hx,q⟩:=h
 by_cases hw:HT.sIx xs.length 0 lo=0/\HT.sIx xs.length xs.length hi=xs.length
 ·cases rx
  obtain ⟨its,r,ht,hz⟩:=I.tuple (Gv hx);have hlen:its.toArray.size=xs.length:=by rw [An];exact r.length.symm
  refine ⟨"tuple",_,BY.lookup,ht.typeIs,?_⟩;refine HT.getItem_tuple_whole ht hs pl pu (by rw [hlen];exact hw) ⟨.ref a,H,I,rfl,q a H (Same.refl _) ?_⟩;unfold cutV;rw [hw.1,hw.2,List.drop_zero,Nat.sub_zero,AN];exact hx
 ·exact aH0 Z s σ H _ v vl vu lo hi sl Q I rx hs pl pu ⟨a,xs,rfl,Gv hx,hw,λp hp=>q p _ (Gu hp) aD⟩
end
end L2
namespace K53
open L2 GM TM
def spWh:Sp:=λvs H Q _=>∃ n:Int,vs=[.int n]/\Q (.bl true) H
structure RwA (t b:Int):Prop where
 am:Amt t b
 bt:Bt 700 t
 bb:Bt 700 b
def aDo (K:Ab):Sp:=λvs H Q _=>∃ a t b,vs=[.ref a]/\H a=some (.tup [.int t,.int b])/\RwA t b/\Q (.bl true) H
inductive KindG (H:Hp)(nb:Nat):Str->V->Prop where
 |ph {n:Nat}:n<nb->KindG H nb "phial" (.int (n:Nat))
 |wa {x:Str}:Wr x->KindG H nb "ware" (.str x)
 |lv {a t b}:H a=some (.tup [.int t,.int b])->RwA t b->KindG H nb "level" (.ref a)
 |mu {a t b}:H a=some (.tup [.int t,.int b])->RwA t b->1<=t->KindG H nb "amount" (.ref a)
 |pa {a t b}:H a=some (.tup [.int t,.int b])->RwA t b->1<=t->t<=b->KindG H nb "part" (.ref a)
def KindG.keep {H H':Hp}{nb:Nat}{k:Str}{v:V}(s:Same H H')(h:KindG H nb k v):KindG H' nb k v:=by
 cases h with
 |ph h=>exact .ph h
 |wa h=>exact .wa h
 |lv h r=>exact .lv (s _ _ h) r
 |mu h r a=>exact .mu (s _ _ h) r a
 |pa h r a b=>exact .pa (s _ _ h) r a b
def BnV (H:Hp)(b:Gj)(nb:Nat):Prop:=∃ r q rs,H b=some (.tup [.ref r,q])/\H r=some (.tup rs)/\rs.length=nb
def BnV.keep {H H':Hp}{b:Gj}{nb:Nat}(s:Same H H')(h:BnV H b nb):BnV H' b nb:=by
 obtain ⟨r,q,rs,h1,h2,h3⟩:=h;exact ⟨r,q,rs,s _ _ h1,s _ _ h2,h3⟩
inductive spOfKind (vs:Gq)(H:Hp)(Q:VK)(Ex:XK):Prop
 |mk (b nb k v:_) (e0:vs=[.ref b,.str k,v]) (e1:BnV H b nb) (e2:KindG H nb k v) (e3:∀ H',Same H H'->Q (.bl true) H'):spOfKind  vs H Q Ex
section
variable {P:Aw}{w:World}{K:Ab}{mg:Gb}{base:Heap}{f:Gj}{fd:Ay}
def aH9:FnScope ["thing"] ["thing"] (aG aFl):=fnScOk
def aGd (F:Fun K "is_whole_number" "is_whole_number" aFl f fd)(T:Txt mg):FnOk P w K mg base CX0 1 f fd ["thing"] spWh:=by
 refine F.okA aH9 (λcdv A outer s H vs Q E hr h=>?_)
 ·obtain ⟨n,rfl,k⟩:=h
  exact ⟨_,aE (aL (lG (aV eX rfl T.isi Ei (aA (pv 0) (aA (gE (v:=.ty "int") rfl T.int' aEr rfl) aB)))
   (kA (aD1 (aV eX rfl T.isi Ei (aA (pv 0) (aA (gE (v:=.ty "bool") rfl T.bool' aG8 rfl) aB))))))),_,rfl,_,"int",true,rfl,.int_int,_,rfl,iteT ⟨_,rfl,_,"bool",false,rfl,.int_bool,_,rfl,k⟩⟩
def aIa:FnScope ["thing"] ["thing"] (aG aFm):=fnScOk
def aGe (F:Fun K "is_amount" "is_amount" aFm f fd)(T:Txt mg)(cW:Cal P w K mg base CX0 1 "is_whole_number" ["thing"] spWh)(cG:Cal P w K mg base CX0 1 "common_divisor" ["one","other"] aE7):FnOk P w K mg base CX0 2 f fd ["thing"] (aDo K):=by
 refine F.okA aIa (λcdv A outer s H vs Q E hr h=>?_)
 ·obtain ⟨a,t,b,rfl,ha,am,k⟩:=h
  refine ⟨_,(aC (bD (PW.pt (mE (eZ (dX (aV eX rfl T.isi Ei (aA (pv 0) (aA (gE (v:=.ty "tuple") rfl T.tup' dG rfl) aB))))) (jU (aM yA (aV bA rfl T.len BO (aA (pv 0) aB)) aH))))
    (aE (aL kJ))
    aS)
   (aC (bD (PW.pt (mE (eZ (dX (aI cW hr (aA (pit 0 0) aB)))) (jU (eZ (dX (aI cW hr (aA (pit 0 1) aB)))))))
    (aE (aL kJ))
    aS)
   (aE (aL (lG (dU aIy (pit 0 0) aH) (lG (dU aIy (pit 0 1) aH) (kA (dU cJ (aI cG hr (aA (pit 0 0) (aA (pit 0 1) aB))) aH)))))))),?_⟩
  refine cut3 ?_
  intros
  have h:=Gv (K:=K) ha;have t0:=am.am.t0;have b1:=am.am.b1;refine ⟨_,rfl,_,"tuple",true,rfl,.tup_tuple h,_,rfl,iteF ⟨_,rfl,a,_,rfl,.inr h,rfl,_,rfl,iteF ?_⟩⟩;refine ⟨a,_,_,rfl,h,rfl,t,rfl,_,rfl,iteF ⟨a,_,_,rfl,h,rfl,b,rfl,_,rfl,iteF ⟨a,_,_,rfl,h,rfl,_,_,rfl,rfl,_,rfl,?_⟩⟩⟩;rw [decide_eq_true t0];refine iteT ⟨a,_,_,rfl,h,rfl,_,_,rfl,rfl,_,rfl,?_⟩;rw [decide_eq_true b1];refine iteT ⟨a,_,_,rfl,h,rfl,a,_,_,rfl,h,rfl,t,b,rfl,t0,by lia,rfl,?_⟩;rw [am.am.g];exact k
def aBu:FnScope ["bench","kind","thing"] ["bench","kind","thing"] (aG pW):=fnScOk
def yM {aN aO:Gj}(F:Fun K "is_of_kind" "is_of_kind" pW f fd)(T:Txt mg)(mN:mg "NOUGHT" = some (.ref aN))(sN:∀ H:Hp,SqT K H aN [.int 0,.int 1])(mO:mg "ONE" = some (.ref aO))(sO:∀ H:Hp,SqT K H aO [.int 1,.int 1])(cW:Cal P w K mg base CX0 2 "is_whole_number" ["thing"] spWh)(cI:Cal P w K mg base CX0 2 "is_ware" ["thing"] (rV K))(cA:Cal P w K mg base CX0 2 "is_amount" ["thing"] (aDo K))(cL:Cal P w K mg base CX0 2 "less" ["one","other"] (spLess K)):FnOk P w K mg base CX0 3 f fd ["bench","kind","thing"] spOfKind:=by
 refine F.okA aBu (λcdv A outer s H vs Q E hr h=>?_)
 ·obtain ⟨b,nb,kd,v,rfl,⟨r,q0,rs,hb,hr',rl⟩,h,k⟩:=h
  refine ⟨_,(aC (bD (aM cJ (pv 1) aR)
    (aE (aL (lG (aI cW hr (aA (pv 2) aB)) (kA (sR aF4 yB aH (pv 2) (aV bA rfl T.len BO (aA (pit 0 0) aB)))))))
    aS)
   (aC (bD (aM cJ (pv 1) aR)
    (aE (aL (aI cI hr (aA (pv 2) aB))))
    aS)
   (aC (bD (eZ (dX (aI cA hr (aA (pv 2) aB))))
    (aE (aL kJ))
    aS)
   (aC (bD (aM cJ (pv 1) aR)
    (aE (aL kJ))
    aS)
   (aE (aL (lG (dU (xY hr.units) (pv 2) (eT (v:=.ref aN) rfl mN rfl)) (kA (aIs (dU cJ (pv 1) aR) (kA (aD1 (aI cL hr (aA (eT (v:=.ref aO) rfl mO rfl) (aA (pv 2) aB)))))))))))))),?_⟩
  refine cut5 ?_
  intros
  have k0:=k H (Same.refl _);have ne:∀ {t b:Int},1<=t->decide ([t,b]=[0,1])=false:=λ{t b} h=>decide_eq_false (λe=>by injection e with e _;lia);cases h with
  |@ph n h=>
   refine ⟨_,rfl,rfl,_,rfl,iteT ⟨_,rfl,_,rfl,_,rfl,iteT ⟨_,rfl,_,_,rfl,rfl,_,rfl,?_⟩⟩⟩;rw [decide_eq_true (by lia:(0:Int)<=(n:Nat))];refine iteT ⟨b,_,_,rfl,Gv hb,rfl,r,_,rfl,.inr (Gv hr'),_,_,rfl,rfl,?_⟩;show Q (.bl (decide (((n:Nat):Int)<((rs.length:Nat):Int)))) H;rw [decide_eq_true (by lia:((n:Nat):Int)<((rs.length:Nat):Int))];exact k0
  |wa h=>exact ⟨_,rfl,rfl,_,rfl,iteF ⟨_,rfl,rfl,_,rfl,iteT ⟨_,rfl,_,rfl,h,k⟩⟩⟩
  |@lv a t b h am=>exact ⟨_,rfl,rfl,_,rfl,iteF ⟨_,rfl,rfl,_,rfl,iteF ⟨_,rfl,a,t,b,rfl,h,am,_,rfl,iteF ⟨_,rfl,rfl,_,rfl,iteT k0⟩⟩⟩⟩
  |@mu a t b h am t1=>
   refine ⟨_,rfl,rfl,_,rfl,iteF ⟨_,rfl,rfl,_,rfl,iteF ⟨_,rfl,a,t,b,rfl,h,am,_,rfl,iteF ⟨_,rfl,rfl,_,rfl,iteF ⟨_,rfl,a,aN,[t,b],[0,1],rfl,rfl,Gv h,sN H,_,rfl,?_⟩⟩⟩⟩⟩;rw [ne t1];exact iteT ⟨_,rfl,rfl,_,rfl,iteT k0⟩
  |@pa a t b h am t1 tb=>
   refine ⟨_,rfl,rfl,_,rfl,iteF ⟨_,rfl,rfl,_,rfl,iteF ⟨_,rfl,a,t,b,rfl,h,am,_,rfl,iteF ⟨_,rfl,rfl,_,rfl,iteF ⟨_,rfl,a,aN,[t,b],[0,1],rfl,rfl,Gv h,sN H,_,rfl,?_⟩⟩⟩⟩⟩;rw [ne t1];refine iteT ⟨_,rfl,rfl,_,rfl,iteF ⟨_,rfl,aO,a,1,1,t,b,rfl,⟨sO H,Gv h,⟨by decide,by decide,by decide +kernel⟩,am.am,dD 4000 (c:=2) (by decide) (by decide),dD 4000 (c:=2) (by decide) (by decide),am.bt.mono,am.bb.mono⟩,?_⟩⟩;refine ⟨_,rfl,?_⟩;show Q (.bl (!decide ((1:Int)*b<t*1))) H;rw [decide_eq_false (by lia:¬ (1:Int)*b<t*1)];exact k0
end
inductive Rw where
 |draw (i:Nat) (x:Str) (t b:Int)
 |fill (i:Nat) (x:Str) (t b:Int)
 |pour (i j:Nat) (t b:Int)
 |empty (i:Nat)
 |rinse (i:Nat)
def RwQ (H:Hp)(q:Gj):Rw->Prop
 |.draw _ _ t b=>H q=some (.tup [.int t,.int b])
 |.fill _ _ t b=>H q=some (.tup [.int t,.int b])
 |.pour _ _ t b=>H q=some (.tup [.int t,.int b])
 |_=>True
def RwW (q:Gj):Rw->Str×Gq
 |.draw i x _ _=>("draw",[.int ((i:Nat):Int),.str x,.ref q])
 |.fill i x _ _=>("fill",[.int ((i:Nat):Int),.str x,.ref q])
 |.pour i j _ _=>("pour",[.int ((i:Nat):Int),.int ((j:Nat):Int),.ref q])
 |.empty i=>("empty",[.int ((i:Nat):Int)])
 |.rinse i=>("rinse",[.int ((i:Nat):Int)])
def RwV (H:Hp)(a:Gj):Rw->Prop
 |.draw i x t b=>∃ q,H a=some (.tup [.str "draw",.int ((i:Nat):Int),.str x,.ref q])/\H q=some (.tup [.int t,.int b])
 |.fill i x t b=>∃ q,H a=some (.tup [.str "fill",.int ((i:Nat):Int),.str x,.ref q])/\H q=some (.tup [.int t,.int b])
 |.pour i j t b=>∃ q,H a=some (.tup [.str "pour",.int ((i:Nat):Int),.int ((j:Nat):Int),.ref q])/\H q=some (.tup [.int t,.int b])
 |.empty i=>H a=some (.tup [.str "empty",.int ((i:Nat):Int)])
 |.rinse i=>H a=some (.tup [.str "rinse",.int ((i:Nat):Int)])
def RwV.keep {H H':Hp}{a:Gj}{r:Rw}(s:Same H H')(h:RwV H a r):RwV H' a r:=by
 cases r with
 |draw i x t b=>obtain ⟨q,h1,h2⟩:=h;exact ⟨q,s _ _ h1,s _ _ h2⟩
 |fill i x t b=>obtain ⟨q,h1,h2⟩:=h;exact ⟨q,s _ _ h1,s _ _ h2⟩
 |pour i j t b=>obtain ⟨q,h1,h2⟩:=h;exact ⟨q,s _ _ h1,s _ _ h2⟩
 |empty i=>exact s _ _ h
 |rinse i=>exact s _ _ h
theorem RwV.w {H:Hp}{a:Gj}{r:Rw}(h:RwV H a r):∃ q,H a=some (.tup (.str (RwW q r).1::(RwW q r).2))/\RwQ H q r:=by
 cases r with
 |draw i x t b=>exact h
 |fill i x t b=>exact h
 |pour i j t b=>exact h
 |empty i=>exact ⟨a,h,trivial⟩
 |rinse i=>exact ⟨a,h,trivial⟩
def GoodR (nb:Nat)(ws:Gh):Rw->Prop
 |.draw i x t b=>i<nb/\x∈ws/\RwA t b/\1<=t
 |.fill i x t b=>i<nb/\x∈ws/\RwA t b
 |.pour i j t b=>i<nb/\j<nb/\i≠j/\RwA t b/\1<=t/\t<=b
 |.empty i=>i<nb
 |.rinse i=>i<nb
def frms:List (Str×Gh):=[("draw",["phial","ware","amount"]),("fill",["phial","ware","level"]),("pour",["phial","phial","part"]),("empty",["phial"]),("rinse",["phial"])]
def frmR:Rw->Gh
 |.draw ..=>["phial","ware","amount"]
 |.fill ..=>["phial","ware","level"]
 |.pour ..=>["phial","phial","part"]
 |_=>["phial"]
structure FormsK (w:World)(K:Ab)(mg:Gb)(aF:Gj)(f:Str->Option Gj):Prop where
 d:KDict w K aF f
 m:mg "FORMS" = some (.ref aF)
 y:∀ p∈frms,∃ a,f p.1=some a/\∀ H:Hp,SqT K H a (p.2.map V.str)
def RwW.frm {q:Gj}{r:Rw}:((RwW q r).1,frmR r)∈frms:=by
 cases r<;>simp [frms,RwW,frmR]
theorem RwW.len {q:Gj}{r:Rw}:(RwW q r).2.length=(frmR r).length/\(frmR r).length<=3:=by
 cases r<;>simp [RwW,frmR]
def iteN {A B:Prop}{c:Bool}(e:c=false)(h:B):if c=true then A else B:=by
 rw [e];exact iteF h
def aG4 {H:Hp}{nb:Nat}{k1 k2 k3:Str}{u1 u2 u3:V}(h1:KindG H nb k1 u1)(h2:KindG H nb k2 u2)(h3:KindG H nb k3 u3):∀ (i:Nat) k u,[k1,k2,k3][i]?=some k->[u1,u2,u3][i]?=some u->KindG H nb k u
 |0,_,_,hk,hu=>by cases hk;cases hu;exact h1
 |1,_,_,hk,hu=>by cases hk;cases hu;exact h2
 |2,_,_,hk,hu=>by cases hk;cases hu;exact h3
 |i+3,_,_,hk,_=>by simp at hk
def aJu {H:Hp}{nb:Nat}{k1:Str}{u1:V}(h1:KindG H nb k1 u1):∀ (i:Nat) k u,[k1][i]?=some k->[u1][i]?=some u->KindG H nb k u
 |0,_,_,hk,hu=>by cases hk;cases hu;exact h1
 |i+1,_,_,hk,_=>by simp at hk
def GoodR.each {H:Hp}{nb:Nat}{ws:Gh}{q:Gj}{r:Rw}(g:GoodR nb ws r)(wr:∀ x∈ws,Wr x)(h:RwQ H q r):∀ (i:Nat) k u,(frmR r)[i]?=some k->(RwW q r).2[i]?=some u->KindG H nb k u:=by
 cases r with
 |draw i x t b=>exact aG4 (.ph g.1) (.wa (wr x g.2.1)) (.mu h g.2.2.1 g.2.2.2)
 |fill i x t b=>exact aG4 (.ph g.1) (.wa (wr x g.2.1)) (.lv h g.2.2)
 |pour i j t b=>exact aG4 (.ph g.1) (.ph g.2.1) (.pa h g.2.2.2.1 g.2.2.2.2.1 g.2.2.2.2.2)
 |empty i=>exact aJu (.ph g)
 |rinse i=>exact aJu (.ph g)
structure RIn (H:Hp)(b a:Gj)(nb:Nat)(ws:Gh)(r:Rw):Prop where
 bn:BnV H b nb
 rv:RwV H a r
 gd:GoodR nb ws r
 wr:∀ x∈ws,Wr x
inductive spIsRow (vs:Gq)(H:Hp)(Q:VK)(Ex:XK):Prop
 |mk (b a nb ws r:_) (e0:vs=[.ref b,.ref a]) (e1:RIn H b a nb ws r) (e2:∀ H',Same H H'->Q (.bl true) H'):spIsRow  vs H Q Ex
def aDc {xs:Gq}{j:Nat}(h:j<=xs.length):cutV xs (some (j:Int)) none=xs.drop j:=by
 unfold cutV;rw [HT.sIx_nat,HT.sIx_none,Nat.min_eq_left h];exact Dk (by rw [List.length_drop];lia)
theorem aAw (x:Str)(us:Gq):cutV (V.str x::us) (some 1) none=us:=by
 have:=aDc (xs:=V.str x::us) (j:=1) (by simp)
 simpa using this
section
variable {P:Aw}{w:World}{K:Ab}{mg:Gb}{base:Heap}
def aJc:(["kind","thing","bench"]:Gh).Nodup:=by decide +kernel
abbrev Nrow:Gh:=["bench","row","form"]
def wR:FnScope Nrow ["bench","row"] (aG nO):=fnScOk
def aCn {f aF:Gj}{fF:Str->Option Gj}{fd:Ay}(F:Fun K "is_row" "is_row" nO f fd)(T:Txt mg)(FK:FormsK w K mg aF fF)(cK:Cal P w K mg base CX0 3 "is_of_kind" ["bench","kind","thing"] spOfKind):FnOk P w K mg base CX0 4 f fd ["bench","row"] spIsRow:=by
 refine F.okA wR (λcdv A outer s H vs Q E hr h=>?_)
 ·obtain ⟨b,a,nb,ws,rw',rfl,⟨bn,rv,gd,wr⟩,k⟩:=h
  refine ⟨_,(aC (bD (PW.pt (mE (eZ (dX (aV eX rfl T.isi Ei (aA (pv 1) (aA (gE (v:=.ty "tuple") rfl T.tup' dG rfl) aB))))) (mE (aM cJ (aV bA rfl T.len BO (aA (pv 1) aB)) aH) (jU (eZ (dX (aV eX rfl T.isi Ei (aA (pit 1 0) (aA (gE (v:=.ty "str") rfl T.str' aEp rfl) aB)))))))))
    (aE (aL kJ))
    aS)
   (aC (aK (i:=2) wR.nd (aF0 FK.d rfl FK.m (pit 1 0) ⟨rfl,rfl,rfl,rfl⟩))
   (aC (bD (PW.pt (mE (aM aD3 (pv 2) dI) (jU (aM yA (aV bA rfl T.len BO (aA (pv 1) aB)) (aP bL (aV bA rfl T.len BO (aA (pv 2) aB)) aH)))))
    (aE (aL kJ))
    aS)
   (aC (bD (eZ (dX (aV (oV rfl) rfl T.all' boot_all (aA (iY (N':=["kind","thing","bench"]) (g:=gTup K 2 (qX (L2.gName 0) (qX (L2.gName 1) gNil))) (λσ=>[none,none,some 0].map λt=>t.bind λj=>(σ[j]?).join) rfl rfl (by decide +kernel) (by decide +kernel)
      (vG (sc:=aG nO) rfl (by decide +kernel)) (λ_ _ _=>iK (sc:=aG nO) (N:=Nrow) [none,none,some 0] rfl rfl rfl rfl (by decide +kernel))
      (aFy rfl T.zip' (aA (pv 2) (aA (eS gA (pv 1) (gB aH) gC) aB))) (λ_ _ _ _ _ _=>fM rfl (bE (aQ (i:=0) aJc) (bE (aQ (i:=1) aJc) dY)))
      (λ_ _ _ _ _ _=>eR)
      (λ_ _ _ _ _ _=>aI cK hr (aA (pv 2) (aA (pv 0) (aA (pv 1) aB))))) aB))))
    (aE (aL kJ))
    aS)
   (aE (aL (aIs (dU yA (pit 1 0) aR) (kA (dU yA (pit 1 1) (pit 1 2)))))))))),?_⟩
  refine cut5 ?_
  intros
  obtain ⟨q,ha,hq⟩:=rv.w;obtain ⟨g,eg,hg⟩:=FK.y _ (RwW.frm (q:=q) (r:=rw'));obtain ⟨ul,k3⟩:=RwW.len (q:=q) (r:=rw');have ek:=gd.each wr hq;have npour:(RwW q rw').1 ≠ "pour" \/ ∃ (p o:Int) (w':V),(RwW q rw').2=[.int p,.int o,w']/\p≠o:=by
   cases rw' with
   |pour i j t b=>exact .inr ⟨_,_,_,rfl,λe=>gd.2.2.1 (by lia)⟩
   | draw=>exact .inl (show ("draw":Str)≠_ by decide +kernel)
   | fill=>exact .inl (show ("fill":Str)≠_ by decide +kernel)
   | empty=>exact .inl (show ("empty":Str)≠_ by decide +kernel)
   | rinse=>exact .inl (show ("rinse":Str)≠_ by decide +kernel)
  generalize (RwW q rw').1=x at ha eg npour;generalize (RwW q rw').2=us at ha ul ek npour;generalize frmR rw'=ks at hg ul k3 ek;refine ⟨_,rfl,_,"tuple",true,rfl,.tup_tuple (Gv ha),_,rfl,iteF ⟨_,rfl,a,_,rfl,.inr (Gv ha),rfl,_,rfl,iteN (decide_eq_false λz=>?_) ⟨a,_,_,rfl,Gv ha,rfl,_,"str",true,rfl,.str_str,_,rfl,iteF ⟨a,_,_,rfl,Gv ha,rfl,x,rfl,?_⟩⟩⟩⟩
  ·have:=V.int.inj z
   rw [AS] at this;lia
  rw [eg];refine ⟨_,rfl,rfl,_,rfl,iteF ⟨_,rfl,a,_,rfl,.inr (Gv ha),_,rfl,g,_,rfl,.inr (hg H),_,_,rfl,rfl,rfl,_,rfl,iteN ?_ ?_⟩⟩
  ·show (!decide (V.int (((V.str x::us).length:Nat):Int)=V.int (((ks.map V.str).length:Nat)+1)))=false
   rw [decide_eq_true (by rw [AS,Ag,ul];rfl)];rfl
  refine ⟨_,rfl,_,rfl,_,rfl,a,_,rfl,ha,λc H1 s1 hc=>?_⟩;rw [show cutV (V.str x::us) (some 1) none=us from aAw x us] at hc;refine ⟨g,c,rfl,⟨_,hg H1⟩,⟨_,Gv hc⟩,λD nD=>?_⟩;refine aAy (hg H1) (Gv hc) (by rw [Ag,ul]) (λ_ v=>v=.bl true) nD (by lia) (λi kx u T' Hx R hk hu sx hT hR=>?_) (λzs H2 s2 hD zl hz=>?_)
  ·rw [Aq] at hk
   obtain ⟨kd,hkd,rfl⟩:=Bg.mp hk;exact ⟨T',_,rfl,Gv hT,rfl,_,_,rfl,_,_,rfl,rfl,((Keep.refl _).set rfl).set rfl,_,rfl,_,rfl,_,rfl,b,nb,kd,u,rfl,bn.keep (s1.trans sx),(ek i kd u hkd hu).keep (s1.trans sx),λH3 s3=>hR _ _ s3 rfl⟩
  have ez:zs=(ks.map λ_=>true).map V.bl:=list_eq (by rw [zl,Ag,Ag,Ag]) λi x' y' hx' hy'=>by
   rw [Cb,Aq] at hx';obtain ⟨_,_,rfl⟩:=Bg.mp hx';exact hz i y' hy'
  subst ez;have s02:=s1.trans s2;have ha2:=s02 _ _ ha;have k':=k H2 s02;refine ⟨D,_,rfl,Gw hD,_,rfl,iteN ?_ ⟨a,_,_,rfl,Gv ha2,rfl,rfl,_,rfl,?_⟩⟩
  ·rw [List.all_map,show ks.all (id ∘ λ_=>true)=true from CT.mpr λ_ _=>rfl]
   rfl
  by_cases hx:x = "pour"
  ·rcases npour with n|⟨p,o,w',rfl,n⟩
   ·exact absurd hx n
   subst hx;refine iteF ⟨a,_,_,rfl,Gv ha2,rfl,a,_,_,rfl,Gv ha2,rfl,rfl,?_⟩;show Q (.bl (!decide (V.int p=V.int o))) H2;rw [decide_eq_false λz=>n (V.int.inj z)];exact k'
  ·show if (!decide (V.str x=V.str "pour"))=true then _ else _
   rw [decide_eq_false λz=>hx (V.str.inj z)];exact iteT k'
end
end K53
namespace SX
def dW:Slot "set_iterator" "__next__" "set_iterator.__next__":=.of (owner:="set_iterator") (n:="__next__") (by rw [typeLookup_type,builtinLookup_eq_fast];kernel_rfl) (by decide +kernel) (by decide +kernel) (by decide +kernel) (by first|exact .inl (by decide +kernel)|exact .inr (by decide +kernel)) (by rw [isSubtype_type];kernel_rfl)
def jF:entryFor table "set_iterator.__next__" = some AE.«set_iterator.__next__»:=entryFor_of_tree (by kernel_rfl)
def mY (a:Gk):argsOk "set_iterator.__next__" ⟨[a],[]⟩:=by unfold argsOk;kernel_rfl
def rX:Slot "set_iterator" "__iter__" "set_iterator.__iter__":=.of (owner:="set_iterator") (n:="__iter__") (by rw [typeLookup_type,builtinLookup_eq_fast];kernel_rfl) (by decide +kernel) (by decide +kernel) (by decide +kernel) (by first|exact .inl (by decide +kernel)|exact .inr (by decide +kernel)) (by rw [isSubtype_type];kernel_rfl)
def oP:entryFor table "set.__iter__" = some AE.«frozenset.__iter__»:=entryFor_alias (id':="frozenset.__iter__") (by kernel_rfl) rfl (by decide +kernel) (by kernel_rfl)
def itO (f:Gk)(i:Int)(n ep:Nat)(a:Gj):Obj:={ cls:=.type "set_iterator",dict:=none,data:=.fields #[f,.int i 0,.ref a,.int n 0,.int ep 0],slots:=#[] }
theorem iI {α:Type}:∀ {l:List α} {i:Nat} (h:i<l.length),(l[i]::l.eraseIdx i).Perm l
 |[],_,h=>by simp at h
 |x::l,0,h=>by simp
 |x::l,i+1,h=>by
  have:=iI (l:=l) (i:=i) (by simpa using h);simp only [List.getElem_cons_succ,List.eraseIdx_cons_succ];exact (List.Perm.swap _ _ _).trans (this.cons x)
section
variable {P:Aw}{w:World}{A:Around}{E:Ga}{s:Gm}
def vQ {n:Nat}{Q:Nat->Gm->Prop}(hn:n≠0)(h:∀ i d',i<n->Q i { s with drawn:=d' }):wpAny (model P w) A (choose src n) Q E s:=
 λ_ _ _=>⟨hn,h _ _ (Nat.mod_lt _ (by lia))⟩
theorem oS {α:Type}:∀ (n:Nat) (xs:List α) (s:Gm) (Q:List α->Gm->Prop),xs.length=n->(∀ ys d',ys.Perm xs->Q ys { s with drawn:=d' })->wpAny (model P w) A (drawOrder n xs) Q E s
 |0,xs,s,Q,hl,h=>by
  obtain rfl:xs=[]:=AY.mp hl;unfold drawOrder;exact Af (h [] s.drawn (.refl _))
 |n+1,[],s,Q,hl,h=>by cases hl
 |n+1,x::xs,s,Q,hl,h=>by
  unfold drawOrder;refine Aa (vQ (by simp) λi d' hi=>?_);have e:(x::xs)[i]?=some (x::xs)[i]:=Ae hi;simp only [e];have el:((x::xs).eraseIdx i).length=n:=by rw [List.length_eraseIdx_of_lt hi];simpa using hl
  refine Aa (oS n _ _ _ el λys d2 pm=>Af ?_);exact h _ d2 ((pm.cons _).trans (iI hi))
theorem xP {α:Type}(nx:Nat->Nat):∀ (n k:Nat) (l:List α) (o:Array α),l.length=n->(pickOrder.go nx n k l o).toList.Perm (o.toList++l)
 |0,k,l,o,h=>by
  obtain rfl:l=[]:=AY.mp h;unfold pickOrder.go;rw [Cc]
 |n+1,k,l,o,h=>by
  have lt:nx k%l.length<l.length:=Nat.mod_lt _ (by lia);unfold pickOrder.go;rw [Ae lt];dsimp only;refine (xP nx n (k+1) _ _ (by rw [List.length_eraseIdx_of_lt lt];lia)).trans ?_;rw [Array.toList_push,List.append_assoc];exact List.Perm.append_left _ (iI lt)
def xO {α:Type}(nx:Nat->Nat)(xs:Array α):(pickOrder nx xs).toList.Perm xs.toList:=by
 have:=xP nx xs.size 0 xs.toList #[] (by simp)
 simpa [pickOrder] using this
def pP {ep:Nat}{Q:Bool->Gm->Prop}(ho:s.heap.get? a=some (setO es ep t))(hf:t.fits es.size=true)(h:Q (!byT w&&(!t.plain&&decide (es.size > 1))) s):wpAny (model P w) A (setDrawn a) Q E s:=by
 unfold setDrawn;refine Aa (En ho rfl hf ?_);unfold setsByText;refine Aa (Aa (EB (Af ?_)));exact Af h
def wI {Q:Option Gk->Gm->Prop}(hh:A.handled=none)(hQ:∀ h',(∀ b o,s.heap.get? b=some o->h'.get? b=some o)->Q none { s with heap:=h' }) :
  wpAny (model P w) A.in1 (do raiseNew (<- newExc (.type "StopIteration") [])) (λ(fin:Fin) s'=>∃ v,fin=.done (.ret v)/\wpAny (model P w) A (pure (some v)) Q E s') (λe s'=>wpAny (model P w) A (do if <- isInstance e (.type "StopIteration") then pure none else throw e) Q E s') s:=by
 refine Aa ?_;simp only [newExc,newTuple];refine Aa (Be ?_ (by size_fits));refine Aa (m:=firstArgMember _ _) (Cq (a:=BN) (by first|rfl|(simp only [firstArgMember];rfl)) ?_);refine Be ?_ (by size_fits);simp only [raiseNew];refine Aa (wpAny_handled ?_);rw [show A.in1.handled=none from hh];refine Aa (Af (wpAny_throw ?_));refine Aa (Fv (T:="StopIteration") (b:=true) ⟨_,Ai _ rfl,rfl⟩ isSubtype_stop ?_);exact Af (hQ _ λb o e=>Ad _ (Ad _ e))
end
def aAl:entryFor table "set_iterator.__iter__" = some AE.«dict_keyiterator.__iter__»:=entryFor_alias (id':="dict_keyiterator.__iter__") (by kernel_rfl) rfl (by decide +kernel) (by kernel_rfl)
def aDf (a:Gk):argsOk "set_iterator.__iter__" ⟨[a],[]⟩:=by unfold argsOk;kernel_rfl
abbrev IP (ord:Gi)(i:Nat)(v:Gk):Prop:=ord[i]?=some v
section
variable {P:Aw}{w:World}{A:Around}{E:Ga}{s:Gm}{a I:Gj}{es:Array (Int×Gk)}{ep:Nat}{t:Cn}
def wO {i:Int}{n:Nat}{Q:Ga}(hI:s.heap.get? I=some (itO f i n ep a))(h:Q (.ref I) s):wpAny (model P w) A (pyIter (.ref I)) Q E s:=by
 refine wpAny_pyIter_slot ⟨_,hI,rfl⟩ rX (Bw rX ⟨_,hI,rfl⟩ aAl ?_ (aDf _));show wpAny _ _ (ret (.ref I)) _ _ s;exact Af ⟨_,rfl,"set_iterator",_,⟨_,hI,rfl⟩,dW.lookup,h⟩
def lZ {i:Int}{n k:Nat}{Q:Unit->Gm->Prop}(hI:s.heap.get? I=some (itO f i n ep a))(hk:k<5)(h:∀ h',h'.get? I=some { cls:=.type "set_iterator",dict:=none,data:=.fields (#[f,.int i 0,.ref a,.int n 0,.int ep 0].setIfInBounds k x),slots:=#[] }->Cv I s.heap h'->Q () { s with heap:=h' }) :
  wpAny (model P w) A (setField (.ref I) k x) Q E s:=CC hI hk h
def mZ (hh:A.handled=none)(ne:a≠I)(hf:t.fits es.size=true)(ord:Gi)(sl:Nat->Nat)(hx:∀ (A:Around) (E:Ga) (i:Nat) (s:Gm) (Q:Option (Gk×Nat)->Gm->Prop),i<=ord.length->s.heap.get? a=some (setO es ep t)->Q (ord[i]?.map λv=>(v,sl (i+1))) s->wpAny (model P w) A (setNext a (sl i) i ep) Q E s) :
  Walks P w A I [I,a] [I] ord.length (IP ord) (λi h=>h.get? I=some (itO (.int (sl i) 0) i es.size ep a)/\h.get? a=some (setO es ep t)) where
 sub:=λb hb=>by simp at hb;simp [hb]
 frame:=λi h h' st k=>⟨k I (by simp) _ st.1,k a (by simp) _ st.2⟩
 self:=λi s Q E st hQ=>wO st.1 hQ
 item:=λi s Q E hi st hQ=>by
  obtain ⟨hI,ho⟩:=st;unfold pyNext;refine Aa (DQ (BE (name:=Da "__next__") ⟨_,hI,rfl⟩ dW (Bw dW ⟨_,hI,rfl⟩ jF ?_ (mY _))));show wpAny _ _ (fieldsOf (.ref I) >>= _) _ _ s;refine Aa (wpAny_fieldsOf hI rfl ?_);show wpAny _ _ (setEntries a >>= _) _ _ s;refine Aa (EG ho rfl hf ?_);dsimp only;rw [if_neg (by simp)];simp only [CK];refine Aa (hx _ _ i s _ (Nat.le_of_lt hi) ho ?_);rw [Ae hi];dsimp only [Option.map];refine Aa (lZ hI (by decide) λh1 g1 b1=>?_);refine Aa (CC (k:=1) g1 (by simp) λh2 g2 b2=>?_);refine Af ⟨_,rfl,Af (hQ _ h2 s.toks (Ae hi) ⟨?_,?_⟩ λb o hb e=>?_)⟩
  ·rw [g2]
   rfl
  ·rw [b2.2 a ne,b1.2 a ne]
   exact ho
  ·have hb':b≠I:=by simpa using hb
   show h2.get? b=some o;rw [b2.2 b hb',b1.2 b hb'];exact e
 done:=λs Q E st hQ=>by
  obtain ⟨hI,ho⟩:=st;unfold pyNext;refine Aa (DQ (BE (name:=Da "__next__") ⟨_,hI,rfl⟩ dW (Bw dW ⟨_,hI,rfl⟩ jF ?_ (mY _))));show wpAny _ _ (fieldsOf (.ref I) >>= _) _ _ s;refine Aa (wpAny_fieldsOf hI rfl ?_);show wpAny _ _ (setEntries a >>= _) _ _ s;refine Aa (EG ho rfl hf ?_);dsimp only;rw [if_neg (by simp)];simp only [CK];refine Aa (hx _ _ ord.length s _ (Aj _) ho ?_);rw [Bs (Aj _)];dsimp only [Option.map];refine Aa (lZ hI (by decide) λh1 g1 b1=>?_);refine wI hh λh2 k2=>hQ h2 s.toks λb o hb e=>k2 b o ?_;have hb':b≠I:=by simpa using hb
  show h1.get? b=some o;rw [b1.2 b hb'];exact e
def uK (hh:A.handled=none)(ne:a≠I)(nt:tp≠I)(hf:t.fits es.size=true)(pl:List Nat)(ord:Gi)(ol:ord.length=pl.length)(hp:∀ (i p:Nat),pl[i]?=some p->∃ x v,es[p]?=some (x,v)/\ord[i]?=some v) :
  Walks P w A I [I,a,tp] [I] ord.length (IP ord) (λi h=>h.get? I=some (itO (.ref tp) i es.size ep a)/\h.get? a=some (setO es ep t)/\h.get? tp=some { cls:=.type "tuple",dict:=none,data:=.seq (pl.map λ(p:Nat)=>rawInt p).toArray,slots:=#[] }) where
 sub:=λb hb=>by simp at hb;simp [hb]
 frame:=λi h h' st k=>⟨k I (by simp) _ st.1,k a (by simp) _ st.2.1,k tp (by simp) _ st.2.2⟩
 self:=λi s Q E st hQ=>wO st.1 hQ
 item:=λi s Q E hi st hQ=>by
  obtain ⟨hI,ho,ht⟩:=st;obtain ⟨p,hpl⟩:∃ p,pl[i]?=some p:=⟨_,Ae (by lia)⟩;obtain ⟨x,v,he,hv⟩:=hp i p hpl;unfold pyNext;refine Aa (DQ (BE (name:=Da "__next__") ⟨_,hI,rfl⟩ dW (Bw dW ⟨_,hI,rfl⟩ jF ?_ (mY _))));show wpAny _ _ (fieldsOf (.ref I) >>= _) _ _ s;refine Aa (wpAny_fieldsOf hI rfl ?_);show wpAny _ _ (setEntries a >>= _) _ _ s;refine Aa (EG ho rfl hf ?_);dsimp only;rw [if_neg (by simp)];refine Aa (Dl ht rfl ?_);dsimp only;have hq:((pl.map λ(p:Nat)=>rawInt p).toArray)[(Int.toNat (i:Int))]?=some (.int p 0):=by
   rw [CK,List.getElem?_toArray,Aq,hpl];rfl
  rw [hq];dsimp only;simp only [CK];refine Aa ?_;unfold setNextDrawn;refine Aa (En ho rfl hf ?_);dsimp only;rw [if_neg (by simp),he];refine Af ?_;refine Aa (lZ hI (by decide) λh1 g1 b1=>?_);refine Af ⟨_,rfl,Af (hQ _ h1 s.toks hv ⟨?_,?_,?_⟩ λb o hb e=>?_)⟩
  ·rw [g1]
   rfl
  ·rw [b1.2 a ne]
   exact ho
  ·rw [b1.2 tp nt]
   exact ht
  ·have hb':b≠I:=by simpa using hb
   show h1.get? b=some o;rw [b1.2 b hb'];exact e
 done:=λs Q E st hQ=>by
  obtain ⟨hI,ho,ht⟩:=st;unfold pyNext;refine Aa (DQ (BE (name:=Da "__next__") ⟨_,hI,rfl⟩ dW (Bw dW ⟨_,hI,rfl⟩ jF ?_ (mY _))));show wpAny _ _ (fieldsOf (.ref I) >>= _) _ _ s;refine Aa (wpAny_fieldsOf hI rfl ?_);show wpAny _ _ (setEntries a >>= _) _ _ s;refine Aa (EG ho rfl hf ?_);dsimp only;rw [if_neg (by simp)];refine Aa (Dl ht rfl ?_);dsimp only;have hq:((pl.map λ(p:Nat)=>rawInt p).toArray)[(Int.toNat (ord.length:Int))]?=none:=by
   rw [CK,List.getElem?_toArray,Aq,Bs (by lia)];rfl
  rw [hq];dsimp only;refine Aa (lZ hI (by decide) λh0 g0 b0=>?_);refine Aa (CC (k:=2) g0 (by simp) λh1 g1 b1=>?_);refine wI hh λh2 k2=>hQ h2 s.toks λb o hb e=>k2 b o ?_;have hb':b≠I:=by simpa using hb
  show h1.get? b=some o;rw [b1.2 b hb',b0.2 b hb'];exact e
end
section
variable {P:Aw}{w:World}{A:Around}{E:Ga}{s:Gm}{a I:Gj}{es:Array (Int×Gk)}{ep:Nat}{t:Cn}
def yZ {sl i:Nat}{Q:Option (Gk×Nat)->Gm->Prop}(hb:byT w=true)(hf:t.fits es.size=true)(ho:s.heap.get? a=some (setO es ep t))(h:Q ((pickOrder (w.params.setOrder a ep) es)[i]?.map λe=>(e.2,sl)) s):wpAny (model P w) A (setNext a sl i ep) Q E s:=by
 unfold setNext;refine Aa (En ho rfl hf ?_);dsimp only;unfold setsByText;refine Aa (Aa (EB (Af ?_)));show wpAny _ _ (if byT w=true then _ else _) _ _ s;rw [if_pos hb,if_neg (by simp)];refine Aa ?_;unfold setWalk;refine Aa (En ho rfl hf ?_);dsimp only;unfold setsByText;refine Aa (Aa (EB (Af ?_)));show wpAny _ _ (if byT w=true then _ else _) _ _ s;rw [if_pos hb];refine Aa (EB (Af ?_));exact Af h
def aCu {sl i:Nat}{Q:Option (Gk×Nat)->Gm->Prop}(hb:byT w=false)(hf:t.fits es.size=true)(hl:t.led=true)(h1:es.size<=1)(ho:s.heap.get? a=some (setO es ep t))(h:Q (match es[Ea t.place sl]?,t.place[Ea t.place sl]? with|some (_,x),some j=>some (x,j+1)|_,_=>none) s):wpAny (model P w) A (setNext a sl i ep) Q E s:=by
 unfold setNext;refine Aa (En ho rfl hf ?_);dsimp only;unfold setsByText;refine Aa (Aa (EB (Af ?_)));show wpAny _ _ (if byT w=true then _ else _) _ _ s;rw [if_neg (by rw [hb];decide)];show wpAny _ _ (if (!t.plain&&decide (es.size > 1))=true then _ else _) _ _ s;rw [if_neg (by rw [decide_eq_false (by lia)];simp)];show wpAny _ _ (bind (if (!t.led&&!es.isEmpty)=true then _ else _) _) _ _ s;rw [if_neg (by rw [hl];simp)];refine Aa (Af ?_);exact Af h
theorem lV {P:Aw}{w:World}{es:List (Int×Gk)}(el:ElemsOf (strKind P w) es):∀ {l:List (Int×Gk)},(∀ e∈l,e∈es)->ES (l.map (·.2)) (l.map λe=>kv e.2)
 |[],_=>.nil
 |e::l,h=>by
  obtain ⟨t,ht⟩:=aEj el (h e (Al ..));have:=lV el (l:=l) λx hx=>h x (Ah _ hx);rw [Ak,Ak,ht];exact .cons _ _ this
def jW {α:Type}(es:Array α){pl:List Nat}(pm:pl.Perm (Bf es.size)):(pl.filterMap λp=>es[p]?).Perm es.toList:=by
 have:=pm.filterMap λp=>es[p]?;rw [filterMap_getElem?_range] at this;exact this
theorem nV {α:Type}(es:Array α):∀ {pl:List Nat},(∀ p∈pl,p<es.size)->∀ (i p:Nat),pl[i]?=some p->∃ e,es[p]?=some e/\(pl.filterMap λp=>es[p]?)[i]?=some e
 |[],_,i,p,h=>by simp at h
 |q::pl,hlt,i,p,h=>by
  have hq:=hlt q (Al ..);have eq:es[q]?=some es[q]:=FC hq;rw [Dh,eq];cases i with
  |zero=>
   simp at h;subst h;exact ⟨_,eq,rfl⟩
  |succ i=>
   simp only [List.getElem?_cons_succ] at h ⊢;exact nV es (λp hp=>hlt p (Ah _ hp)) i p h
theorem places_len {α:Type}(es:Array α):∀ {pl:List Nat},(∀ p∈pl,p<es.size)->(pl.filterMap λp=>es[p]?).length=pl.length
 |[],_=>rfl
 |q::pl,hlt=>by
  have eq:es[q]?=some (es[q]'(hlt q (Al ..))):=FC _;rw [Dh,eq];simp only [AS];rw [places_len es λp hp=>hlt p (Ah _ hp)]
def aCz {ks:Gh}{Q:Ga}(hh:A.handled=none)(S:SetS P w s.heap a ks)
  (h:∀ I fp St ord h' d',Walks P w A I fp [I] ord.length (IP ord) St->St 0 h'->(∀ b o,s.heap.get? b=some o->h'.get? b=some o)->(∀ b∈fp,s.heap.objs.size<=b\/b=a)->s.heap.objs.size<=I->ES ord (ord.map kv)->(ord.map kv).Perm ks->Q (.ref I) { s with heap:=h',drawn:=d' }) :
  wpAny (model P w) A (pyIter (.ref a)) Q E s:=by
 obtain ⟨⟨es,ep,t,ho,el,hf,hl,hp,pm⟩,nd,lt⟩:=S;have la:a<s.heap.objs.size:=Ar ho;refine wpAny_pyIter_slot ⟨_,ho,rfl⟩ F.slot_set_iter (Bw F.slot_set_iter ⟨_,ho,rfl⟩ oP ?_ (F.args_set_iter_1 _));show wpAny _ _ (AE.Frozenset.sizeOf a >>= _) _ _ s;refine Aa (Aa (EG ho rfl hf (Af ?_)));refine Aa (pP ho hf ?_)
 by_cases hd:(!byT w&&(!t.plain&&decide (es.size > 1)))=true
 ·rw [if_pos hd]
  refine Aa (oS es.size (Bf es.size) s _ List.length_range λpl d' pp=>?_);refine Aa (Be ?_ ?hz)
  case hz=>
   show ((pl.map λ(p:Nat)=>rawInt p).toArray).size<=Av;rw [An,Ag,pp.length_eq,List.length_range];have:es.size=ks.length:=by rw [<- BL,<- Ag (f:=λe=>kv e.2),pm.length_eq]
   exact Ff (by lia)
  refine Aa (wpAny_setEpoch_of (o:=setO es ep t) (Ad _ ho) rfl hf ?_);refine Aa (Be (Af ⟨_,rfl,"set_iterator",_,⟨_,Ai _ rfl,rfl⟩,dW.lookup,?_⟩));have hlt:∀ p∈pl,p<es.size:=λp hp=>CL.mp (pp.mem_iff.mp hp);have sz:=λ(h:Heap) (o:Obj)=>BP h o;refine h _ _ _ ((pl.filterMap λp=>es[p]?).map (·.2)) _ d' (uK hh (a:=a) (tp:=s.heap.objs.size) ?_ ?_ hf pl _ (by rw [Ag,places_len es hlt]) λi p hi=>?_) ⟨Ai _ rfl,Ad _ (Ad _ ho),Ad _ (Ai _ rfl)⟩ (λb o e=>Ad _ (Ad _ e)) (λb hb=>?_) ?_ ?_ ?_
  ·rw [sz]
   exact Au (Cw la)
  ·rw [sz]
   exact Au (Cg _)
  ·obtain ⟨e,h1,h2⟩:=nV es hlt i p hi
   exact ⟨e.1,e.2,h1,by rw [Aq,h2];rfl⟩
  ·simp only [AB,Er,or_false] at hb
   rcases hb with rfl|rfl|rfl
   ·left
    rw [sz];exact CU _
   ·exact .inr rfl
   ·exact .inl (Aj _)
  ·rw [sz]
   exact CU _
  ·rw [Cb]
   exact lV el λe he=>(jW es pp).mem_iff.mp he
  ·rw [Cb]
   exact ((jW es pp).map _).trans pm
 ·rw [if_neg hd]
  refine Aa (Af ?_);refine Aa (wpAny_setEpoch_of ho rfl hf ?_);refine Aa (Be (Af ⟨_,rfl,"set_iterator",_,⟨_,Ai _ rfl,rfl⟩,dW.lookup,?_⟩));have fpk:∀ b∈[s.heap.objs.size,a],s.heap.objs.size<=b\/b=a:=λb hb=>by
   simp only [AB,Er,or_false] at hb
   rcases hb with rfl|rfl
   ·exact .inl (Aj _)
   ·exact .inr rfl
  cases hb:byT w with
  |true=>
   have pk:=xO (w.params.setOrder a ep) es;refine h _ _ _ ((pickOrder (w.params.setOrder a ep) es).toList.map (·.2)) _ s.drawn (mZ hh (a:=a) (Au la) hf _ (λ_=>0) λA E i s Q _ ho h=>yZ hb hf ho ?_) ⟨Ai _ rfl,Ad _ ho⟩ (λb o e=>Ad _ e) fpk (Aj _) ?_ ?_
   ·rw [Aq,Bl,Option.map_map] at h
    exact h
   ·rw [Cb]
    exact lV el λe he=>pk.mem_iff.mp he
   ·rw [Cb]
    exact (pk.map _).trans pm
  |false=>
   have s1:es.size<=1:=by
    rcases hp with hp|hp
    ·rw [hb,hp] at hd
     by_cases z:es.size > 1
     ·exact absurd (by rw [decide_eq_true z];rfl) hd
     ·lia
    ·lia
   rw [hb] at hl;refine h _ _ _ (es.toList.map (·.2)) _ s.drawn (mZ hh (a:=a) (Au la) hf _ (λi=>if i=0 then 0 else t.place.getD 0 0+1) λA E i s Q hi ho h=>aCu hb hf hl s1 ho ?_) ⟨Ai _ rfl,Ad _ ho⟩ (λb o e=>Ad _ e) fpk (Aj _) ?_ ?_
   ·have hpl:t.place.size=es.size:=by
     simp only [Cn.fits,Cf,beq_iff_eq] at hf;exact hf.1
    rw [Ag,BL] at hi;generalize t.place=pl at *
    obtain ⟨pl⟩:=pl;obtain ⟨es⟩:=es
    match es,pl,hpl,i,hi with
    |[],[],_,0,_=>exact h
    |[e],[p],_,0,_=>exact h
    |[e],[p],_,1,_=>
     have e1:Ea #[p] (p+1)=1:=by simp [Ea,Ea.go]
     simp only [Nat.one_ne_zero,if_false];show Q (match (#[e]:Array _)[Ea #[p] (p+1)]?,(#[p]:Array _)[Ea #[p] (p+1)]? with|some (_,x),some j=>some (x,j+1)|_,_=>none) s;rw [e1];exact h
    |_::_::_,_,_,_,_=>simp at s1
   ·rw [Cb]
    exact lV el λe he=>he
   ·rw [Cb]
    exact pm
end
section
variable {P:Aw}{w:World}{A:Around}{E:Ga}{s:Gm}{a:Gj}{ks:Gh}
def SetS.type (S:SetS P w s.heap a ks):s.TypeIs (.ref a) "set":=by
 obtain ⟨⟨es,ep,t,ho,_⟩,_,_⟩:=S;exact ⟨_,ho,rfl⟩
def aC0 {Q:Bool->Gm->Prop}(hT:s.TypeIs (.ref a) "set")(h:Q false s):wpAny (model P w) A (AE.List.listLengthHint (.ref a)) Q E s:=by
 unfold AE.List.listLengthHint;refine Aa (wpAny_specialOf hT PySem.F.slot_set_len.lookup ?_);generalize hid:("set.__len__":String)=id0
 wp_delta
 rw [show splitId id0=some ("set","__len__") from by subst hid;decide +kernel];subst hid;refine Aa (Fv (T:="set") (b:=true) hT (by rw [isSubtype_type];kernel_rfl) ?_);refine wpAny_ite_split (λz=>absurd z (by decide)) (λ_=>?_);refine wpAny_ite_split (λ_=>?_) (λz=>absurd (by decide +kernel) z);exact Aa (Eg hT (Af h))
def vL {c:Nat}(hh:A.handled=none)(S:SetS P w s.heap a ks)(ne:L≠a)(res:Gk)(hL:s.heap.get? L=some { cls:=.type "list",data:=.seq #[] c })(hR:∀ h' d' tk acc c' ks',(∀ b o,b≠L->s.heap.get? b=some o->h'.get? b=some o)->h'.get? L=some { cls:=.type "list",dict:=none,data:=.seq acc c',slots:=#[] }->ES acc.toList ks'->ks'.Perm ks->R (.ok (.ret res)) { s with heap:=h',drawn:=d',toks:=tk }) :
  wpAny (model P w) A.in1 (EL (.ref L) (.ref a) res) (λfin s'=>match fin with|.done f=>R (.ok f) s'|.again c'=>c'.quiet=true/\Eu (model P w) A c' R s') (λe s'=>R (.error e) s') s:=by
 have lL:=Ar hL;have lt:=S.lt;unfold EL;refine Aa (Eg (T:="set") S.type ?_);have h1:AE.List.listSameRef (.ref L) (.ref a)=false:=by simp [AE.List.listSameRef,ne]
 have h2:(Dp "set" == Dp "list")=false:=by decide
 have h3:(Dp "set" == Dp "tuple")=false:=by decide
 simp only [h1,h2,h3,Bool.or_false,Dw,if_false];refine Aa (aCz (A:=A.in1) hh S λI fp St ord h0 d' W st keep hfp hI hs pm=>?_);have hLf:L∉fp:=λz=>by
  rcases hfp L z with z|z
  ·exact absurd lL (Nat.not_lt.mpr z)
  ·exact ne z
 have on:ord.length<=Av:=by
  have:=pm.length_eq;rw [Ag] at this;exact Ff (by lia)
 have hT0:({ s with heap:=h0,drawn:=d' }:Gm).TypeIs (.ref a) "set":=(S.at (h':=h0) λo e=>keep _ o e).type (s:={ s with heap:=h0,drawn:=d' });have key:∀ (h:Heap) (c1 tk:Nat),St 0 h->(∀ b o,b≠L->s.heap.get? b=some o->h.get? b=some o)->h.get? L=some { cls:=.type "list",data:=.seq #[] c1 } ->
   Eu (model P w) A (.builtin "list.extend.loop" ⟨[.ref L,.ref I,res],[]⟩) R { s with heap:=h,drawn:=d',toks:=tk }:=by
  intro h c1 tk hst hk hL1;refine codeAny_extend_loopS W.toS on L hLf res ord.length 0 _ #[] c1 rfl (BF _) hst hL1 (ItemsOf.nil _) λs' acc c' hm hL' hacc=>?_;rw [Moved.eq_with hm];have ea:acc.toList=ord:=EJ λi=>by
   rw [Bl];cases q:acc[i]? with
   |none=>
    have:acc.size<=i:=Array.getElem?_eq_none_iff.mp q;rw [Bs (by rw [<- hacc.1];exact this)]
   |some v=>exact (hacc.2 i v q).symm
  refine hR s'.heap d' s'.toks acc c' _ (λb o hb e=>hm.heap b o (λz=>?_) (hk b o hb e)) hL' (by rw [ea];exact hs) pm
  rcases AB.mp z with z|z
  ·exact hb z
  ·exact absurd (Ar e) (by rw [Az.mp z];exact Nat.not_lt.mpr hI)
 have hL1:=keep _ _ hL;refine Aa (BD (aC0 hT0 ?_));refine wpAny_ite_split (λ_=>?_) (λ_=>Af ⟨Eo PySem.F.plain_extend_loop _,key _ c s.toks st (λb o _ e=>keep b o e) hL1⟩);refine Aa (DC ?_);refine Aa ?_;show wpAny _ _ (updateSeq L (·.push .none) >>= λ_=>updateSeq L (·.pop)) _ _ _;refine Aa (wpAny_updateSeq hL1 rfl ?_);have hL2:=Cd (Ed (·.push BN)) hL1 rfl;refine wpAny_updateSeq (hz:=by seq_fits) hL2 rfl ?_;have hL3:=Cd (Ed (·.pop)) hL2 rfl;refine Af ⟨Eo PySem.F.plain_extend_loop _,key _ _ s.toks ?_ (λb o hb e=>?_) hL3⟩
 ·refine W.frame 0 _ _ st λb hb o e=>?_
  have hbL:b≠L:=λh=>hLf (h▸hb);exact (Bh _ _ (Bi hbL)).trans ((Bh _ _ (Bi hbL)).trans e)
 ·exact (Bh _ _ (Bi hb)).trans ((Bh _ _ (Bi hb)).trans (keep b o e))
def rC (hh:A.handled=none)(S:SetS P w s.heap a ks)(h:∀ h' d' tk acc ks',(∀ b o,s.heap.get? b=some o->h'.get? b=some o)->ES acc ks'->ks'.Perm ks->R acc { s with heap:=h',drawn:=d',toks:=tk }):wpAny (model P w) A (collect (.ref a)) R E s:=by
 obtain ⟨⟨es,ep,t,ho,_⟩,_,_⟩:=id S;have la:=Ar ho;unfold collect;refine Aa (wpAny_runValue (CG entry_proto_collect' ?_));rw [CA PySem.F.plain_proto_collect _];show wpAny _ A.in1 (newList [] >>= λl=>again (.builtin "list.__iadd__" ⟨[l,.ref a],[]⟩)) _ _ s;refine Aa (Be ?_);refine Af ⟨Eo PySem.F.plain_list_iadd _,CG entry_list_iadd' ?_⟩;rw [CA PySem.F.plain_list_iadd _];have hL:(s.heap.push { cls:=.type "list",data:=.seq ([]:Gi).toArray }).get? s.heap.objs.size=some { cls:=.type "list",data:=.seq #[] }:=Ai _ rfl;show wpAny _ A.in1 (EL (.ref s.heap.objs.size) (.ref a) (.ref s.heap.objs.size)) _ _ _;have key:=vL (P:=P) (w:=w) (A:=A) (s:={ s with heap:=s.heap.push { cls:=.type "list",data:=.seq ([]:Gi).toArray } }) (ks:=ks)
  (R:=λ(q:Result) (s':Gm)=>∃ h' d' tk acc c' ks',q=.ok (.ret (.ref s.heap.objs.size))/\s'={ s with heap:=h',drawn:=d',toks:=tk }/\(∀ b o,s.heap.get? b=some o->h'.get? b=some o)/\h'.get? s.heap.objs.size=some { cls:=.type "list",dict:=none,data:=.seq acc c',slots:=#[] }/\ES acc.toList ks'/\ks'.Perm ks)
  hh (S.at λo e=>Ad _ e) (DH la) (.ref s.heap.objs.size) hL λh' d' tk acc c' ks' k k2 k3 k4=>⟨h',d',tk,acc,c',ks',rfl,rfl,λb o e=>k b o (Au (Ar e)) (Ad _ e),k2,k3,k4⟩
 refine Cy key (λfin s' x=>?_) λe s' x=>?_
 ·cases fin with
  |done f=>
   obtain ⟨h',d',tk,acc,c',ks',e,rfl,k,k2,k3,k4⟩:=x;cases e;show wpAny _ A (load s.heap.objs.size >>= _) _ _ _;exact Aa (wpAny_load k2 (Af (h h' d' tk acc.toList ks' k k3 k4)))
  |again c1=>
   refine ⟨x.1,CI x.2 λq s2 y=>?_⟩;obtain ⟨h',d',tk,acc,c',ks',rfl,rfl,k,k2,k3,k4⟩:=y;show wpAny _ A (load s.heap.objs.size >>= _) _ _ _;exact Aa (wpAny_load k2 (Af (h h' d' tk acc.toList ks' k k3 k4)))
 ·obtain ⟨_,_,_,_,_,_,e',_⟩:=x
  cases e'
def sorted_set {Q:Ga}(hh:A.handled=none)(S:SetS P w s.heap a ks)
  (h:∀ (h':Heap) d' (tk:Nat) (acc:Gi) (ks':Gh),(∀ b o,s.heap.get? b=some o->h'.get? b=some o)->ES acc ks'->ks'.Perm ks ->
   wpAny (model P w) A.in1 (call (.builtin "list.sort") [.ref h'.objs.size]) (λ_ s'=>Q (.ref h'.objs.size) s') E { s with heap:=h'.push (seqObj "list" acc.toArray 0),drawn:=d',toks:=tk }) :
  wpAny (model P w) A (call (.builtin "sorted") [.ref a]) Q E s:=by
 have lt:=S.lt;refine FB kind_sorted plain_sorted entry_sorted (args_sorted1 _) ?_;unfold AE.«sorted»;refine Aa (m:=checkCount "sorted" 1 1 _) (Af ?_);refine Aa (rC (A:=A.in1) hh S λh' d' tk acc ks' keep hs pm=>?_);have hl:acc.length<=Av:=by
  rw [ES.length hs,pm.length_eq];exact Ff lt
 refine Aa (wpAny_newList ?_ hl);refine Aa (BD (Cy (h h' d' tk acc ks' keep hs pm) (λ_ s' x=>?_) λ_ _ e=>e));exact Af ⟨_,rfl,x⟩
end
end SX
namespace L2
abbrev SetT (X:Cx)(a:Gj)(ks:Gh):HO:=.ext λh=>SX.SetS X.prog X.w h a ks
section
variable {X:Cx}
def Inv.drawn {σ:St}(I:Inv X Z σ H s)(d':Drawn):Inv X Z σ H { s with drawn:=d' }:=
 ⟨I.ok,I.os,I.bare,I.base,I.loc,I.cell,I.free,I.freeC,I.pin,I.hok,I.len⟩
def aKr (X:Cx):Gq->Hp->VK->Prop:=λxs H Q=>∃ a,∃ ss:Gh,xs=[.ref a]/\SqL X.K H a (ss.map V.str)/\ss.length<1000/\∀ p,H p=none->Q (.ref p) (upd H p (SetT X p (SX.ddl ss)))
def aA3 (hc:X.calm=true):fA X (.type "set") (aKr X):=by
 intro Z s σ H xs us Q I r h;obtain ⟨a,ss,rfl,hq,h1,q⟩:=h;obtain ⟨u,rfl,rx⟩:=vals1 r;cases rx;obtain ⟨its,r',pl,hz⟩:=I.list hq;have hl:=r'.length;rw [Ag] at hl;refine SX.call_set_strs (I.ok.hd hc) pl.isList (by simpa using hZ r') (by rw [An];unfold EN;lia) λh' tk S k=>?_;obtain ⟨⟨es,ep,t,ho,_⟩,_,_⟩:=id S;exact ⟨.ref s.heap.objs.size,_,I.laid (a:=s.heap.objs.size) (o:=SetT X s.heap.objs.size (SX.ddl ss)) (t':=tk) k (Aj _) ⟨S,⟨_,ho⟩,λh1 h2 p k=>p.at k⟩,rfl,q _ (I.hok.fresh (Aj _))⟩
def aB5 (X:Cx):Gq->Hp->VK->Prop:=λxs H Q=>∃ a,∃ ks:Gh,xs=[.ref a]/\H a=some (SetT X a ks)/\ks.length<64/\∀ (p:Gj) (ss':Gh),ss'.Perm ks->sortedS ss'=true->H p=none->Q (.ref p) (upd H p (.lst (ss'.map V.str)))
def iO (hc:X.calm=true):fA X (.builtin "sorted") (aB5 X):=by
 intro Z s σ H xs us Q I r h;obtain ⟨a,ks,rfl,hH,h64,q⟩:=h;obtain ⟨u,rfl,rx⟩:=vals1 r;cases rx;obtain ⟨S,_,_⟩:=I.hok a _ hH;refine SX.sorted_set (I.ok.hd hc) S λh' d' tk acc ks' keep hS pm=>?_;have hlen:=pm.length_eq;have hal:=ES.length hS;have hoL:(h'.push (seqObj "list" acc.toArray 0)).get? h'.objs.size=some (seqObj "list" acc.toArray 0):=Ai _ rfl;refine Bw slot_list_sort ⟨_,hoL,rfl⟩ entry_list_sort (list_sort_treeK strKind_oneLt hoL hS.keysOf (λv₁ v₂ rest e=>keyKind_strs (by rw [<- e];exact hS)) (by lia) λst' hp hs=>⟨_,rfl,?_⟩) (args_list_sort _);obtain ⟨ss',a1,a2,a3⟩:=sorted_out_str hS hp hs;obtain ⟨e,he⟩:∃ e,(sortedHeap (h'.push (seqObj "list" acc.toArray 0)) h'.objs.size acc ((arrOf st').map (·.2))).get? h'.objs.size=some (seqObj "list" ((arrOf st').map (·.2)) e):=sortedHeap_at hoL;have I1:=(I.drawn d').kept (t':=tk) keep;refine ⟨.ref h'.objs.size,_,I1.laid (a:=h'.objs.size) (o:=.lst (ss'.map V.str)) (t':=tk) (λb o hb'=>?_) (Aj _) (tI (its:=((arrOf st').map (·.2)).toList) (e:=e) (eF a1) ?_ (by rw [Fb];exact he)),rfl,q _ ss' (a2.trans pm) a3 (I1.hok.fresh (Aj _))⟩
 ·have lt:=Ar hb'
  rw [sortedHeap_old (Au lt) (by rw [BP];exact Cw lt)];exact Ad _ hb'
 ·rw [Ag,a2.length_eq]
  exact bP (by lia)
end
end L2
namespace SX
section
variable {P:Aw}{w:World}{A:Around}{E:Ga}{s:Gm}
def call_set_tup {l:Gj}{Q:Ga}(hh:A.handled=none)(hl:s.heap.IsTuple l its)(hi:ES its.toList ss)(hb:its.size+1<EN)(h:∀ (h':Heap) (tk:Nat),SetS P w h' s.heap.objs.size (ddl ss)->(∀ b o,s.heap.get? b=some o->h'.get? b=some o)->Q (.ref s.heap.objs.size) { s with heap:=h',toks:=tk }) :
  wpAny (model P w) A (call (.type "set") [.ref l]) Q E s:=by
 obtain ⟨c,tl,hmro⟩:=Cp.mro;have hmade:=Cp.made;have hsub:=Cp.sub;refine Fc (EO ?_);show wpAny _ _ (callAny (.type "set") _) _ _ _;refine Af ⟨EF _ (by decide +kernel),CG F.entry_type_call ?_⟩;rw [Around.under_plain (weight_type_call_type "set" [.ref l] []) rfl];have h1:=Cp.notType;have h2:=Cp.canCreate;have hct:=F.typeCall_set_1 (.ref l)
 repeat (any_goals (first|assumption|wp_step))
 refine CI (zA (.ref l) (E:=E) (Q1:=λobj s1=>obj=.ref s.heap.objs.size/\s1={ s with heap:=s.heap.push (eL w) }) ⟨rfl,rfl⟩) λr s1 hr=>?_;cases r with
 |error e=>exact hr
 |ok fl=>
  cases fl with
  |ret obj=>
   obtain ⟨rfl,rfl⟩:=hr;have hS:(s.heap.push (eL w)).get? s.heap.objs.size=some (eL w):=Ai _ rfl;have hT:Shared.TypeIs { s with heap:=s.heap.push (eL w) } (.ref s.heap.objs.size) "set":=⟨_,hS,rfl⟩;have hli:=Cp.init.lookup;have hbi:=Cp.init.bind (.ref s.heap.objs.size)
   repeat (any_goals (first|assumption|wp_step))
   refine CI (Et (R:=wants (λr s2=>r=.none/\∃ h' tk,s2={ s with heap:=h',toks:=tk }/\SetS P w h' s.heap.objs.size (ddl ss)/\(∀ b o,s.heap.get? b=some o->h'.get? b=some o)) E) Cp.init.plain F.entry_set_init (check_set_init_1 hT ?_)) λr2 s2 hr2=>?_
   ·obtain ⟨ol,hol,hcl,nl,hdl⟩:=hl
    obtain ⟨ocls,odict,odata,oslots⟩:=ol;simp only at hcl hdl;subst hcl;subst hdl;have hol':(s.heap.push (eL w)).get? l=some { cls:=.type "tuple",dict:=odict,data:=.seq its nl,slots:=oslots }:=Ad _ hol;have hsls:=F.sub_tuple_set;have hslf:=F.sub_tuple_frozenset;have hne:(Dp "tuple" == Dp "dict")=false:=by decide
    have hl1:(s.heap.push (eL w)).IsTuple l its:=⟨_,hol',rfl,nl,rfl⟩;unfold AE.«set.__init__» noKeywords AE.Frozenset.updateFrom;generalize hPI:pyIter=PI
    wp_walk
    subst hPI;refine EM hl1 ?_;refine Aa (wpAny_runValue ?_);have hlS:l<s.heap.objs.size:=Ar hol;have hh3:A.in1.in1.in1.handled=none:=by simp [hh]
    have hz:(s.heap.push (eL w)).objs.size=s.heap.objs.size+1:=BP ..;have hneI:l≠(s.heap.push (eL w)).objs.size:=by
     rw [hz];exact Au (Cw hlS)
    have haf:s.heap.objs.size∉[(s.heap.push (eL w)).objs.size,l]:=by
     simp only [AB,Er,or_false,not_or];rw [hz];exact ⟨Au (Cg _),DH hlS⟩
    have hlen:ss.length=its.size:=by rw [<- BL];exact (ES.length hi).symm
    refine rM ((Walks.tuple hh3 _ l hneI its).toS) s.heap.objs.size haf ss hlen (λi v hv=>pM hi i v (by rw [Bl];exact hv)) hb (its.size-0) 0 _ (by lia) (BF _) ⟨⟨_,Ai _ rfl,rfl,rfl⟩,(hl1.push _)⟩ ((sZ s.heap).at λo e=>Ad _ e) λs' hm S'=>?_;obtain ⟨h',g',d',tk',os'⟩:=s';have eg:g'=s.gens:=hm.gens;have ed:d'=s.drawn:=hm.drawn;have eo:os'=s.os:=hm.os;subst eg;subst ed;subst eo;show wpAny _ _ _ _ _ _;refine Af ?_;show wpAny _ _ (ret BN) _ _ _;refine Af ⟨rfl,h',tk',rfl,S',λb o e=>?_⟩;have hb0:=Ar e;refine hm.heap b o ?_ (Ad _ (Ad _ e));simp only [AB,Er,or_false,not_or];rw [hz];exact ⟨Au hb0,Au (Cw hb0)⟩
   ·cases r2 with
    |error e=>exact hr2
    |ok f2=>
     cases f2 with
     |ret r=>
      obtain ⟨rfl,h',tk,rfl,S',hk'⟩:=hr2
      repeat (any_goals (first|assumption|wp_step))
      exact h _ _ S' hk'
     |_=>exact hr2.elim
  |_=>exact hr.elim
end
end SX
namespace L2
section
variable {X:Cx}
def aKq (X:Cx):Gq->Hp->VK->Prop:=λxs H Q=>∃ a,∃ ss:Gh,xs=[.ref a]/\SqT X.K H a (ss.map V.str)/\ss.length<1000/\∀ p,H p=none->Q (.ref p) (upd H p (SetT X p (SX.ddl ss)))
def aA2 (hc:X.calm=true):fA X (.type "set") (aKq X):=by
 intro Z s σ H xs us Q I r h;obtain ⟨a,ss,rfl,hq,h1,q⟩:=h;obtain ⟨u,rfl,rx⟩:=vals1 r;cases rx;obtain ⟨its,r',pl,hz⟩:=I.tuple hq;have hl:=r'.length;rw [Ag] at hl;refine SX.call_set_tup (I.ok.hd hc) pl (by simpa using hZ r') (by rw [An];unfold EN;lia) λh' tk S k=>?_;obtain ⟨⟨es,ep,t,ho,_⟩,_,_⟩:=id S;exact ⟨.ref s.heap.objs.size,_,I.laid (a:=s.heap.objs.size) (o:=SetT X s.heap.objs.size (SX.ddl ss)) (t':=tk) k (Aj _) ⟨S,⟨_,ho⟩,λh1 h2 p k=>p.at k⟩,rfl,q _ (I.hok.fresh (Aj _))⟩
end
end L2
namespace K53
open L2 GM TM
def aIn {X:Cx}{ss:List Stmt}:PSs X ss (λ_ _ _=>False):=λ_ _ _ _ _ _ h=>h.elim
def gF {n j:Nat}(h:j<n):ixN n (j:Int)=some j:=by
 unfold ixN;rw [if_pos (by lia),if_pos (by lia),CK]
inductive spWith (vs:Gq)(H:Hp)(Q:VK)(Ex:XK):Prop
 |mk (ph:Gj) (i:Nat) (h n:V) (us:Gq) (e0:vs=[.ref ph,.int (i:Nat),h,n]) (e1:H ph=some (.lst us)) (e2:i<us.length) (e3:us.length<=20) (e4:∀ l z H',Same H H'->H l=none->H' z=some (.tup [h,n])->H' l=some (.lst (us.set i (.ref z)))->Q (.ref l) H'):spWith  vs H Q Ex
def RwO (CD CF CP CE CR:Gj)(dx q:Gj):Rw->HO
 |.draw i x _ _=>.ins CD dx (fs3 "phial" "ware" "amount" (.int ((i:Nat):Int)) (.str x) (.ref q))
 |.fill i x _ _=>.ins CF dx (fs3 "phial" "ware" "level" (.int ((i:Nat):Int)) (.str x) (.ref q))
 |.pour i j _ _=>.ins CP dx (fs3 "one" "other" "part" (.int ((i:Nat):Int)) (.int ((j:Nat):Int)) (.ref q))
 |.empty i=>.ins CE dx (fs1 "phial" (.int ((i:Nat):Int)))
 |.rinse i=>.ins CR dx (fs1 "phial" (.int ((i:Nat):Int)))
inductive spDeedAt (CD CF CP CE CR:Gj)(vs:Gq)(H:Hp)(Q:VK)(Ex:XK):Prop
 |mk (b a:Gj) (nb:Nat) (ws:Gh) (r:Rw) (n:Nat) (e0:vs=[.ref b,.ref a,.int (n:Nat)]) (e1:RIn H b a nb ws r) (e2:∀ q p dx H',RwQ H q r->Same H H'->H p=none->H' p=some (RwO CD CF CP CE CR dx q r)->Q (.ref p) H'):spDeedAt CD CF CP CE CR vs H Q Ex
structure MkD (P:Aw)(w:World)(K:Ab)(mg:Gb)(base:Heap)(C:Gj)(nm:Str)(ps:Gh)(sp:Sp):Prop where
 ex:∃ f fd,Mk K C f/\FnOk P w K mg base CX0 4 f fd ps sp/\Binds K fd ps []/\mg nm=some (.ref C)
def sm0 {H H1:Hp}{p:Gj}(h:Same H H1)(n:H1 p=none):H p=none:=by
 cases e:H p with
 |none=>rfl
 |some o=>rw [h _ _ e] at n;cases n
def zC {H H':Hp}{p dx C:Gj}(np:H p=none)(nd:H dx=none)(kp:∀ b o,b≠p->upd (upd H dx (.own p)) p (.ins C dx []) b=some o->H' b=some o):Same H H':=λb o e=>
 kp b o (aW e np) (by rw [aJ (aW e np),aJ (aW e nd)];exact e)
section
variable {P:Aw}{w:World}{K:Ab}{mg:Gb}{base:Heap}{CD CF CP CE CR f:Gj}{fd:Ay}
def aB2:FnScope ["bench","row","place"] ["bench","row","place"] (aG qE):=fnScOk
def yU (F:Fun K "deed_at" "deed_at" qE f fd)(cR:Cal P w K mg base CX0 5 "is_row" ["bench","row"] spIsRow)
  (D1:MkD P w K mg base CD "Draw" ["self","phial","ware","amount"] (kZ CD "phial" "ware" "amount")) (D2:MkD P w K mg base CF "Fill" ["self","phial","ware","level"] (kZ CF "phial" "ware" "level")) (D3:MkD P w K mg base CP "Pour" ["self","one","other","part"] (kZ CP "one" "other" "part")) (D4:MkD P w K mg base CE "Empty" ["self","phial"] (pN CE "phial")) (D5:MkD P w K mg base CR "Rinse" ["self","phial"] (pN CR "phial")):FnOk P w K mg base CX0 6 f fd ["bench","row","place"] (spDeedAt CD CF CP CE CR):=by
 refine F.okA aB2 (λcdv A outer s H vs Q E hr h=>?_)
 ·obtain ⟨b,a,nb,ws,rw',n,rfl,ri,k⟩:=h
  obtain ⟨f1,g1,M1,F1,b1,m1⟩:=D1.ex;obtain ⟨f2,g2,M2,F2,b2,m2⟩:=D2.ex;obtain ⟨f3,g3,M3,F3,b3,m3⟩:=D3.ex;obtain ⟨f4,g4,M4,F4,b4,m4⟩:=D4.ex;obtain ⟨f5,g5,M5,F5,b5,m5⟩:=D5.ex;refine ⟨_,(aC (bD (eZ (dX (aI cR hr (aA (pv 0) (aA (pv 1) aB)))))
    aIn
    aS)
   (aC (bD (aM cJ (pit 1 0) aR)
    (aE (aL (kC M1 F1 hr rfl m1 b1 .nil uW (aA (pit 1 1) (aA (pit 1 2) (aA (pit 1 3) aB))))))
    aS)
   (aC (bD (aM cJ (pit 1 0) aR)
    (aE (aL (kC M2 F2 hr rfl m2 b2 .nil uW (aA (pit 1 1) (aA (pit 1 2) (aA (pit 1 3) aB))))))
    aS)
   (aC (bD (aM cJ (pit 1 0) aR)
    (aE (aL (kC M3 F3 hr rfl m3 b3 .nil uW (aA (pit 1 1) (aA (pit 1 2) (aA (pit 1 3) aB))))))
    aS)
   (aE (aL (sP (aM cJ (pit 1 0) aR) (kC M4 F4 hr rfl m4 b4 .nil uW (aA (pit 1 1) aB)) (kC M5 F5 hr rfl m5 b5 .nil uW (aA (pit 1 1) aB))))))))),?_⟩
  refine cut5 ?_
  intros
  refine ⟨_,rfl,_,rfl,b,a,nb,ws,rw',rfl,ri,λH1 s1=>⟨_,rfl,iteF ?_⟩⟩;have md:∀ {x dx C q fs H'},RwQ H q rw'->H1 x=none->H1 dx=none->(∀ b o,b≠x->upd (upd H1 dx (.own x)) x (.ins C dx []) b=some o->H' b=some o)->H' x=some fs->fs=RwO CD CF CP CE CR dx q rw'->Q (.ref x) H':=λhq nx nd kp hx e=>k _ _ _ _ hq (s1.trans (zC nx nd kp)) (sm0 s1 nx) (e▸hx);obtain ⟨q,ha,hq⟩:=ri.rv.w;have sq:=Gv (K:=K) (s1 _ _ ha);cases rw' with
  |draw i x t b'=>exact ⟨a,_,_,rfl,sq,rfl,rfl,_,rfl,iteT ⟨a,_,_,rfl,sq,rfl,a,_,_,rfl,sq,rfl,a,_,_,rfl,sq,rfl,λx dx nx nd _=>⟨x,dx,_,_,_,rfl,aD,λH' kp hx=>⟨rfl,md hq nx nd kp hx rfl⟩⟩⟩⟩
  |fill i x t b'=>exact ⟨a,_,_,rfl,sq,rfl,rfl,_,rfl,iteF ⟨a,_,_,rfl,sq,rfl,rfl,_,rfl,iteT ⟨a,_,_,rfl,sq,rfl,a,_,_,rfl,sq,rfl,a,_,_,rfl,sq,rfl,λx dx nx nd _=>⟨x,dx,_,_,_,rfl,aD,λH' kp hx=>⟨rfl,md hq nx nd kp hx rfl⟩⟩⟩⟩⟩
  |pour i j t b'=>exact ⟨a,_,_,rfl,sq,rfl,rfl,_,rfl,iteF ⟨a,_,_,rfl,sq,rfl,rfl,_,rfl,iteF ⟨a,_,_,rfl,sq,rfl,rfl,_,rfl,iteT ⟨a,_,_,rfl,sq,rfl,a,_,_,rfl,sq,rfl,a,_,_,rfl,sq,rfl,λx dx nx nd _=>⟨x,dx,_,_,_,rfl,aD,λH' kp hx=>⟨rfl,md hq nx nd kp hx rfl⟩⟩⟩⟩⟩⟩
  |empty i=>exact ⟨a,_,_,rfl,sq,rfl,rfl,_,rfl,iteF ⟨a,_,_,rfl,sq,rfl,rfl,_,rfl,iteF ⟨a,_,_,rfl,sq,rfl,rfl,_,rfl,iteF ⟨a,_,_,rfl,sq,rfl,rfl,_,rfl,iteT ⟨a,_,_,rfl,sq,rfl,λx dx nx nd _=>⟨x,dx,_,rfl,aD,λH' kp hx=>⟨rfl,md hq nx nd kp hx rfl⟩⟩⟩⟩⟩⟩⟩
  |rinse i=>exact ⟨a,_,_,rfl,sq,rfl,rfl,_,rfl,iteF ⟨a,_,_,rfl,sq,rfl,rfl,_,rfl,iteF ⟨a,_,_,rfl,sq,rfl,rfl,_,rfl,iteF ⟨a,_,_,rfl,sq,rfl,rfl,_,rfl,iteF ⟨a,_,_,rfl,sq,rfl,λx dx nx nd _=>⟨x,dx,_,rfl,aD,λH' kp hx=>⟨rfl,md hq nx nd kp hx rfl⟩⟩⟩⟩⟩⟩⟩
def aDq:FnScope ["phials","phial","holds","names","behind"] ["phials","phial","holds","names"] (aG pR):=fnScOk
def aF7 {f:Gj}{fd:Ay}(F:Fun K "with_phial" "with_phial" pR f fd)(T:Txt mg):FnOk P w K mg base CX0 1 f fd ["phials","phial","holds","names"] spWith:=by
 refine F.okA aDq (λcdv A outer s H vs Q E hr h=>?_)
 ·obtain ⟨ph,i,h,n,us,rfl,hp,il,u20,k⟩:=h
  refine ⟨_,(aC (aK (i:=4) aDq.nd (aY bC rfl T.list' dS (aA (pv 0) aB)))
   (aC (fK (aT (aA (pv 2) (aA (pv 3) aB))) (jZ (pv 4) (pv 1) set_list))
   (aE (aL (pv 4))))),?_⟩
  refine cut3 ?_
  intros
  refine ⟨_,rfl,ph,_,rfl,.inl (Gw hp),λl nl=>?_⟩;have sl:=Gu (o:=.lst us) nl;refine ⟨_,rfl,_,rfl,zLn2,λz nz=>?_⟩;have sz:=Gu (o:=.tup [h,n]) nz;have lz:l≠z:=λe=>by rw [<- e,aD] at nz;cases nz
  refine ⟨_,rfl,_,rfl,l,us,(i:Int),i,rfl,rfl,sz _ _ aD,gF il,?_⟩;refine ⟨_,rfl,k l z _ (λb o e=>?_) nl ?_ aD⟩
  ·rw [aJ (aW e nl)]
   exact (sl.trans sz) _ _ e
  ·rw [aJ lz.symm]
   exact aD
end
end K53
namespace HT
section
variable {prog:Aw}{w:World}{A:Around}{E:Ga}{s:Gm}
end
end HT
namespace L2
section
variable {X:Cx}
def rRepTA (K:Ab):R2:=λx y H Q=>∃ a k xs,x=.ref a/\y=.int k/\SqT K H a xs/\xs≠[]/\1<=k/\k<=1000/\xs.length<=1000/\(k=1->Q (.ref a) H)/\(2<=k->∀ p,H p=none->Q (.ref p) (upd H p (.tup (Cz k.toNat xs).flatten)))
def aIl (K:Ab):R2:=λx y H Q=>∃ a b xs ys,x=.ref a/\y=.ref b/\SqT K H a xs/\H b=some (.tup ys)/\ys≠[]/\xs.length+ys.length<=Av/\∀ p H',Same H H'->H' p=some (.tup (xs++ys))->Q (.ref p) H'
def sX:OpR X (Ep .Add) (aIl X.K):=by
 intro Z s σ H x y v u Q I rx ry h;obtain ⟨a,b,xs,ys,rfl,rfl,ha,hb,hy,hz,q⟩:=h;refine sY Z s σ H _ _ v u Q I rx ry ?_
 by_cases e:xs=[]
 ·subst e
  exact .inl ⟨a,b,ys,rfl,rfl,ha,Gv hb,q b H (Same.refl _) (by rw [List.nil_append];exact hb)⟩
 ·exact .inr ⟨a,b,xs,ys,rfl,rfl,ha,Gv hb,e,hz,λz=>absurd z hy,λ_ p hp=>q p _ (Gu hp) aD⟩
end
end L2
namespace K53
open L2 GM TM
abbrev PF:Type:=(Str->Int)×Gh
def PhA (H:Hp)(M:Int)(v:V)(d:PF):Prop:=∃ (a m n:Gj) (us:Gq) (ys:Gc),v=.ref a/\H a=some (.tup [.ref m,.ref n])/\H m=some (.tup us)/\PrL H us ys/\IsMx M d.1 ys/\H n=some (.tup (d.2.map V.str))
def PhA.keep {H H':Hp}{M:Int}{v:V}{d:PF}(s:Same H H')(h:PhA H M v d):PhA H' M v d:=by
 obtain ⟨a,m,n,us,ys,e,h1,h2,h3,h4,h5⟩:=h;exact ⟨a,m,n,us,ys,e,s _ _ h1,s _ _ h2,h3.keep s.tk,h4,s _ _ h5⟩
structure StV (H:Hp)(l:Gj)(M:Int)(S:List PF):Prop where
 ex:∃ vs,H l=some (.lst vs)/\vs.length=S.length/\∀ (i:Nat) v d,vs[i]?=some v->S[i]?=some d->PhA H M v d
def StV.keep {H H':Hp}{l:Gj}{M:Int}{S:List PF}(s:Same H H')(h:StV H l M S):StV H' l M S:=by
 obtain ⟨vs,h1,h2,h3⟩:=h;exact ⟨vs,s _ _ h1,h2,λi v d hv hd=>(h3 i v d hv hd).keep s⟩
theorem StV.get {H:Hp}{l:Gj}{M:Int}{S:List PF}{i:Nat}{d:PF}(h:StV H l M S)(hd:S[i]?=some d):∃ vs v,H l=some (.lst vs)/\vs.length=S.length/\vs[i]?=some v/\PhA H M v d:=by
 obtain ⟨vs,h1,h2,h3⟩:=h;obtain ⟨v,hv⟩:∃ v,vs[i]?=some v:=⟨_,Ae (by rw [h2];exact (Ac.mp hd).1)⟩;exact ⟨vs,v,h1,h2,hv,h3 i v d hv hd⟩
def StV.put {H H':Hp}{l l' z:Gj}{M:Int}{S:List PF}{vs:Gq}{i:Nat}{d:PF}(h:StV H l M S)(hl:H l=some (.lst vs))(s:Same H H')(hl':H' l'=some (.lst (vs.set i (.ref z))))(hz:PhA H' M (.ref z) d):StV H' l' M (S.set i d):=by
 obtain ⟨vs',h1,h2,h3⟩:=h;rw [hl] at h1;cases h1;refine ⟨_,hl',by rw [BB,BB];exact h2,λj v e hv he=>?_⟩
 by_cases ij:i=j
 ·subst ij
  have lt:i<vs.length:=by
   have:=(Ac.mp hv).1;rw [BB] at this;exact this
  rw [BH lt] at hv;rw [BH (by lia)] at he;cases hv;cases he;exact hz
 ·rw [AU ij] at hv he
  exact (h3 j v e hv he).keep s
def tot (ws:Gh)(f:Str->Int):Int:=(ws.map f).sum
structure Wss (ws:Gh):Prop where
 nd:ws.Nodup
 l:ws.length<=6
 w:∀ x∈ws,Wr x
structure Okf (ws:Gh)(d:PF):Prop where
 nn:∀ y,0<=d.1 y
 nin:∀ y∈d.2,y∈ws
 srt:d.2.Pairwise ltS
 inw:∀ y,d.1 y≠0->y∈ws
structure NmU (a b c:Gh):Prop where
 srt:c.Pairwise ltS
 mem:∀ y,y∈c↔y∈a\/y∈b
def fQ {c:Gh}(h:c.Pairwise ltS):c.Nodup:=h.imp λ{a b} h=>aGp h
def aGm {c c':Gh}(h:c.Pairwise ltS)(h':c'.Pairwise ltS)(m:∀ y,y∈c↔y∈c'):c=c':=by
 have p:c.Perm c':=(List.perm_ext_iff_of_nodup (fQ h) (fQ h')).mpr m;exact p.eq_of_pairwise (le:=leS) (λx y _ _ h1 h2=>TM.ext (EZ h1 h2)) (h.imp λh=>List.le_of_lt h) (h'.imp λh=>List.le_of_lt h)
def NmU.uniq {a b c c':Gh}(h:NmU a b c)(h':NmU a b c'):c=c':=aGm h.srt h'.srt λy=>(h.mem y).trans (h'.mem y).symm
def aD9 {a b ss:Gh}(p:ss.Perm (SX.ddl (a++b)))(so:sortedS ss=true):NmU a b ss:=by
 have nd:ss.Nodup:=p.nodup_iff.mpr (SX.ddl_nodup _);refine ⟨?_,λy=>by rw [p.mem_iff,SX.ddl_mem,Bm]⟩;refine (List.pairwise_and_iff.mpr ⟨jL so,nd⟩).imp λ{x y} h=>?_;exact Br λz=>h.2 (TM.ext (EZ h.1 (List.not_lt.mp z)))
def hV {ws:Gh}{M:Int}{f:Str->Int}{ys:Gc}(nd:ws.Nodup)(mx:IsMx M f ys)(h:∀ y,f y≠0->y∈ws):sumN M ys=tot ws f:=by
 rw [<- lQ nd λx hx=>h x.1 ((mx.mem x.1).mp (Cu hx))];unfold tot;exact congrArg List.sum (Dg λy _=>mx.nw y)
def zB {ws:Gh}{M:Int}{f:Str->Int}{ys:Gc}(mx:IsMx M f ys)(h:∀ y,f y≠0->y∈ws):ys.length<=ws.length:=by
 have:=mx.nd.length_le_of_subset (l₂:=ws) λy hy=>h y ((mx.mem y).mp hy);rwa [Ag] at this
def BadO (c:Gj)(n i:Nat)(M N:Int)(rb:Int×Int)(H:Hp)(E:XK):Prop:=∀ a t b dx H',Same H H'->H' a=some (.tup [.int t,.int b])->Fr (M*rb.2) t b (N*rb.2-rb.1*M)->H' dx=some (xdE dx [("over",.ref a),("phial",.int (i:Nat)),("place",.int (n:Nat))])->E (.ref c) (some dx) H'
def BadO.mono {c:Gj}{n i:Nat}{M N:Int}{rb:Int×Int}{H H1:Hp}{E:XK}(s:Same H H1)(h:BadO c n i M N rb H E):BadO c n i M N rb H1 E:=λa t b dx H' s'=>h a t b dx H' (s.trans s')
structure MoreIn (K:Ab)(H:Hp)(b r q l cm nm:Gj)(rs us:Gq)(ps:Gf)(rbs:Gg)(ws:Gh)(M:Int)(S:List PF)(i:Nat)(d:PF)(rb:Int×Int)(cus:Gq)(cs:Gc)(xs:Gh):Prop where
 bn:Bn H b r q rs us ps
 rm:RmL H rs rbs
 ww:Wss ws
 st:StV H l M S
 sl:S.length=rs.length
 ok:∀ d∈S,Okf ws d
 di:S[i]?=some d
 rbi:rbs[i]?=some rb
 hc:H cm=some (.tup cus)
 pc:PrL H cus cs
 oc:Over M cs
 cw:∀ x∈cs,x.1∈ws
 cl:cs.length<=6
 hn:H nm=some (.tup (xs.map V.str))
 xw:∀ x∈xs,x∈ws
 xl:xs.length<=20
 m0:0<M
 bm:Bt 2900 M
 bs:Bt 2900 (tot ws (λy=>d.1 y+NW M cs y))
inductive spMore (K:Ab)(c3 c4:Gj)(vs:Gq)(H:Hp)(Q:VK)(E:XK):Prop
 |mk (b r q l cm nm rs us ps rbs ws M S i d rb cus cs xs n:_) (e0:vs=[.ref b,.ref l,.int (i:Nat),.ref cm,.ref nm,.int (n:Nat)]) (e1:n<1000) (e2:MoreIn K H b r q l cm nm rs us ps rbs ws M S i d rb cus cs xs) (e3:(rb.1*M<tot ws (λy=>d.1 y+NW M cs y)*rb.2->BadO c3 n i M (tot ws (λy=>d.1 y+NW M cs y)) rb H E)) (e4:(¬ rb.1*M<tot ws (λy=>d.1 y+NW M cs y)*rb.2->∀ nm',NmU d.2 xs nm'->(∀ pa,pairOf us ps nm'=.ref pa->BadE c4 [("pair",.ref pa),("phial",.int (i:Nat)),("place",.int (n:Nat))] H E) /\
  (pairOf us ps nm'=.non->∀ l' H',Same H H'->H l'=none->StV H' l' M (S.set i (λy=>d.1 y+NW M cs y,nm'))->Q (.ref l') H'))):spMore K c3 c4 vs H Q E
theorem kM {H:Hp}:∀ {us:Gq} {ps:Gf} {xs:Gh},PsT H us ps->pairOf us ps xs=.non\/∃ pa p,pairOf us ps xs=.ref pa/\p∈ps/\H pa=some (.tup [.str p.1,.str p.2])
 |[],ps,xs,_=>.inl iD
 |u::us,[],xs,h=>.inl rfl
 |u::us,p::ps,xs,h=>by
  unfold pairOf;split
  ·obtain ⟨q,e,hq⟩:=h.2 0 u p rfl rfl
   exact .inr ⟨q,p,e,Al ..,hq⟩
  ·rcases kM (us:=us) (ps:=ps) (xs:=xs) ⟨by have:=h.1;simpa using this,λi u p hu hp=>h.2 (i+1) u p (by simpa using hu) (by simpa using hp)⟩ with e|⟨pa,p',e1,e2,e3⟩
   ·exact .inl e
   ·exact .inr ⟨pa,p',e1,Ah _ e2,e3⟩
def aEq:Cr "set" = some (.type "set"):=by decide +kernel
def catT {K:Ab}{H:Hp}{a b:Gj}{xs ys:Gh}{Q:VK}(ha:H a=some (.tup (xs.map V.str)))(hb:H b=some (.tup (ys.map V.str)))(hz:xs.length+ys.length<=100)(h:∀ p H',Same H H'->SqT K H' p ((xs++ys).map V.str)->Q (.ref p) H'):aDw K (.ref a) (.ref b) H Q:=by
 by_cases e:xs=[]
 ·subst e
  exact .inl ⟨a,b,_,rfl,rfl,Gv ha,Gv hb,h b H (Same.refl _) (Gv hb)⟩
 ·refine .inr ⟨a,b,_,_,rfl,rfl,Gv ha,Gv hb,(λz=>e (List.map_eq_nil_iff.mp z)),by rw [Ag,Ag];exact bP (by lia),λz=>?_,λz p np=>?_⟩
  ·have:ys=[]:=List.map_eq_nil_iff.mp z
   subst this;exact h a H (Same.refl _) (by rw [Cc];exact Gv ha)
  ·exact h p _ (Gu np) (by rw [AW];exact Gv aD)
def aAe {t b:Int}(h:Rm t b):Fr b t b t:=⟨⟨by have:=h.1;lia,h.2,h.3⟩,by rw [BK]⟩
def Tw.flip {K:Ab}{H:Hp}{p q:Gj}{t1 b1 t2 b2:Int}(h:Tw K H p q t1 b1 t2 b2):Tw K H q p t2 b2 t1 b1:=⟨h.sq,h.sp,h.a2,h.a1,h.st2,h.sb2,h.st1,h.sb1⟩
theorem hW (g h:Str->Int):∀ ws:Gh,tot ws (λy=>g y+h y)=tot ws g+tot ws h
 |[]=>rfl
 |y::r=>by
  have ih:=hW g h r;unfold tot at ih ⊢;rw [Ak,Ak,Ak,AI,AI,AI,ih];lia
section
variable {P:Aw}{w:World}{K:Ab}{mg:Gb}{base:Heap}{cP c0 c1 c2 c3 c4 f0 f1 f2 f3 f4:Gj}
abbrev aLh:Gh:=["bench","phials","phial","comes","names","place","holds","much","room","names_behind","pair"]
def lB:FnScope aLh ["bench","phials","phial","comes","names","place"] (aG jQ):=fnScOk
def aGb {f:Gj}{fd g3 g4:Ay}(F:Fun K "with_more" "with_more" jQ f fd)(T:Txt mg)(R:ErB K mg cP c0 c1 c2 c3 c4 f0 f1 f2 f3 f4)
  (F3:FnOk P w K mg base CX0 1 f3 g3 ["self","place","phial","over"] (spI3 c3)) (b3:Binds K g3 ["self","place","phial","over"] []) (F4:FnOk P w K mg base CX0 1 f4 g4 ["self","place","phial","pair"] (aE6 K c4)) (b4:Binds K g4 ["self","place","phial","pair"] [])
  (cT:Cal P w K mg base CX0 5 "together" ["one","other"] (aHy K)) (cW:Cal P w K mg base CX0 5 "whole" ["one"] (lW K)) (cL:Cal P w K mg base CX0 5 "less" ["one","other"] (spLess K)) (cM:Cal P w K mg base CX0 5 "minus" ["one","other"] (spMinus K)) (cP':Cal P w K mg base CX0 5 "pair_in" ["bench","names"] (rT K)) (cH:Cal P w K mg base CX0 5 "with_phial" ["phials","phial","holds","names"] spWith) :
  FnOk P w K mg base (CXg P w) 6 f fd ["bench","phials","phial","comes","names","place"] (spMore K c3 c4):=by
 refine F.okFA lB (λcdv A outer s H vs Q E hr h=>?_)
 ·obtain ⟨b,r,q,l,cm,nm,rs,us,ps,rbs,ws,M,S,i,d,rb,cus,cs,xs,n,rfl,hn,m,kS,kG⟩:=h
  refine ⟨_,(aC (aK (i:=6) lB.nd (aI cT hr (aA (aZ dB (aZ aX (pv 1) (pv 2) (λ_ _=>rfl)) aH (λ_ _=>rfl)) (aA (pv 3) aB))))
   (aC (aK (i:=7) lB.nd (aI cW hr (aA (pv 6) aB)))
   (aC (aK (i:=8) lB.nd (aZ dB (pit 0 0) (pv 2) (λ_ _=>rfl)))
   (aC (bD (dX (aI cL hr (aA (pv 8) (aA (pv 7) aB))))
    (aE (fI (k:=1) rfl xe_f rfl hr.mono rfl R.m3 (R.r3.e "place" (by simp)).i F3 b3 (aA (pv 5) (aA (pv 2) (aA (aI cM hr (aA (pv 7) (aA (pv 8) aB))) aB)))))
    aS)
   (aC (aK (i:=9) lB.nd (aY bG rfl T.tup' dG (aA (aV (iO rfl) rfl T.sorted' boot_sorted (aA (aY (aA2 rfl) rfl T.set' aEq (aA (aP sY (aZ dB (aZ aX (pv 1) (pv 2) (λ_ _=>rfl)) aH (λ_ _=>rfl)) (pv 4)) aB)) aB)) aB)))
   (aC (aK (i:=10) lB.nd (aI cP' hr (aA (pv 0) (aA (pv 9) aB))))
   (aC (bD (aM mI (pv 10) dI)
    (aE (fI (k:=1) rfl xe_f rfl hr.mono rfl R.m4 (R.r4.e "place" (by simp)).i F4 b4 (aA (pv 5) (aA (pv 2) (aA (pv 10) aB)))))
    aS)
   (aE (aL (aI cH hr (aA (pv 1) (aA (pv 2) (aA (pv 6) (aA (pv 9) aB)))))))))))))),?_⟩
  obtain ⟨vs,v,hl,vl,hv,a,mm,nn,ms,ys,rfl,ha,hm,pr,mx,hnn⟩:=m.st.get m.di;have okd:=m.ok d (Ao m.di);have M0:=m.m0;have oy:Over M ys:=mx.over;have tS:sumN M ys=tot ws d.1:=hV m.ww.nd mx okd.inw;have cS:sumN M cs=tot ws (NW M cs):=(lQ m.ww.nd m.cw).symm;have tA:tot ws (λy=>d.1 y+NW M cs y)=sumN M ys+sumN M cs:=by rw [hW,tS,cS]
  have nY:=bW M0 oy;have nC:=bW M0 m.oc;have yl:=zB mx okd.inw;have wl:=m.ww.l;have bT:=m.bs;rw [tA] at bT;refine ⟨_,rfl,_,rfl,l,_,(i:Int),.ref a,rfl,rfl,Gw hl,aU hv,a,_,0,.ref mm,rfl,rfl,Gv ha,rfl,_,rfl,mm,cm,ms,cus,ys,cs,M,rfl,Gv hm,pr,Gv m.hc,m.pc,by have:=m.cl;lia,oy,m.oc,M0,m.bm.mono,by rw [pL];exact bT.mono,λhd zs zy H1 s1 hhd pz mz=>?_⟩;have mz':IsMx M (λy=>d.1 y+NW M cs y) zy:=mz.congr λy=>by rw [mx.nw]
  have okz:∀ y,d.1 y+NW M cs y≠0->y∈ws:=λy hy=>by
   by_cases e:d.1 y=0
   ·have:NW M cs y≠0:=by lia
    by_cases z:y∈cs.map (·.1)
    ·obtain ⟨x,hx,rfl⟩:=AK.mp z
     exact m.cw x hx
    ·exact absurd (eE z) this
   ·exact okd.inw y e
  have zS:sumN M zy=tot ws (λy=>d.1 y+NW M cs y):=hV m.ww.nd mz' okz;have oz:Over M zy:=mz'.over;have nZ:=bW M0 oz;have bZ:=m.bs;rw [<- zS] at bZ kS kG;refine ⟨_,rfl,hd,zs,zy,M,rfl,Gv hhd,pz,oz,M0,m.bm.mono,λj=>(bZ.le (bW M0 (oz.take j)) (fD M0 j oz)).mono,λmu t b' H2 s2 hmu fr=>?_⟩;have s02:=s1.trans s2;obtain ⟨t_le,b_le⟩:=dH M0 fr;have bb:=fr.am.b1;have bt:Bt 4000 t:=(bZ.le fr.am.t0 t_le).mono;have bb':Bt 4000 b':=(m.bm.le (by lia) b_le).mono;obtain ⟨rv,hrv⟩:∃ rv,rs[i]?=some rv:=⟨_,Ae (by rw [<- m.sl];exact (Ac.mp m.di).1)⟩;obtain ⟨rb',hrb',ra,rfl,hra,rmm⟩:=m.rm.get hrv;rw [m.rbi] at hrb';cases hrb';have bn2:=m.bn.keep s02;have i16:i<16:=by
   have h1:=(Ac.mp hrv).1;have h2:=m.bn.l16;lia
  have tw:Tw K H2 ra mu rb.1 rb.2 t b':=⟨Gv (s02 _ _ hra),hmu,⟨by have:=rmm.t1;lia,rmm.b1,rmm.g⟩,fr.am,rmm.st.mono,rmm.sb.mono,bt,bb'⟩;have frr:Fr rb.2 rb.1 rb.2 rb.1:=aAe rmm;refine ⟨b,_,_,rfl,Gv bn2.hp,rfl,_,rfl,r,_,(i:Int),.ref ra,rfl,rfl,Gv bn2.hr,aU hrv,?_⟩;refine ⟨_,rfl,_,rfl,ra,mu,rb.1,rb.2,t,b',rfl,tw,_,rfl,?_⟩;rw [aAf M0 fr];refine ite2 (λc=>?_) (λc=>?_)
  ·have c':rb.1*M<sumN M zy*rb.2:=of_decide_eq_true c
   obtain ⟨le,fo⟩:=fT (M1:=M) (M2:=rb.2) M0 (by have:=rmm.b1;lia) fr frr (by lia);refine ⟨_,rfl,_,rfl,_,rfl,_,rfl,mu,ra,t,b',rb.1,rb.2,rfl,tw.flip,le,λpo H3 s3 hpo=>?_⟩;exact aIi hn (by lia) λdx H' s' hd=>kS c' po _ _ dx H' ((s02.trans s3).trans s') (s' _ _ hpo) fo hd
  ·have c':¬ rb.1*M<sumN M zy*rb.2:=of_decide_eq_false (by simpa using c)
   refine ⟨_,rfl,_,rfl,l,_,(i:Int),.ref a,rfl,rfl,Gw (s02 _ _ hl),aU hv,a,_,1,.ref nn,rfl,rfl,Gv (s02 _ _ ha),rfl,_,rfl,?_⟩;have nl:d.2.length<=6:=Bj ((fQ okd.srt).length_le_of_subset okd.nin) wl;refine catT (s02 _ _ hnn) (s02 _ _ m.hn) (by have:=m.xl;lia) λpc H3 s3 hpc=>?_;have ll:(d.2++xs).length<=30:=by rw [As];have:=m.xl;lia
   refine ⟨pc,_,rfl,hpc,by lia,λp2 np2=>⟨p2,_,rfl,aD,DS (SX.ddl_len _) (by lia),λp3 nm' pm so np3=>⟨p3,_,rfl,.inl ⟨Gw aD,λp4 np4=>?_⟩⟩⟩⟩;have u:=aD9 pm so;have s4:=Gu (o:=.tup (nm'.map V.str)) np4;have s3':=((Gu np2).trans (Gu (o:=.lst (nm'.map V.str)) np3)).trans s4;have s04:=(s02.trans s3).trans s3';have bn4:=m.bn.keep s04;refine ⟨_,rfl,_,rfl,b,r,q,rs,us,ps,p4,nm',rfl,bn4,Gv aD,?_⟩;obtain ⟨kT,kO⟩:=kG c' nm' u
   rcases kM (xs:=nm') m.bn.pt with e|⟨pa,p,e,pmem,hpa⟩
   ·rw [e]
    refine ⟨_,rfl,rfl,_,rfl,iteF ?_⟩;have s14:=(s2.trans s3).trans s3';have il:=(Ac.mp hv).1;have l16:=m.bn.l16;have sl:=m.sl;refine ⟨_,rfl,_,rfl,_,rfl,_,rfl,l,i,.ref hd,.ref p4,vs,rfl,s04 _ _ hl,il,by lia,λl' z H5 s5 nl' hz hl'=>?_⟩;exact kO e l' H5 (s04.trans s5) (sm0 s04 nl') (m.st.put hl (s04.trans s5) hl' ⟨z,hd,p4,zs,zy,rfl,hz,(s14.trans s5) _ _ hhd,pz.keep (s14.trans s5).tk,mz',s5 _ _ aD⟩)
   ·rw [e]
    refine ⟨_,rfl,rfl,_,rfl,iteT ?_⟩;have g:=m.bn.g.ok p pmem;exact ⟨_,rfl,_,rfl,_,rfl,aFu hn (by lia) (s04 _ _ hpa) g.1 g.2.1 ((kT pa e).mono s04)⟩
end
structure BS (H:Hp)(b r q:Gj)(rs us:Gq)(ps:Gf)(rbs:Gg)(ws:Gh):Prop where
 bn:Bn H b r q rs us ps
 rm:RmL H rs rbs
 ww:Wss ws
def BS.keep {H H':Hp}{b r q:Gj}{rs us:Gq}{ps:Gf}{rbs:Gg}{ws:Gh}(s:Same H H')(h:BS H b r q rs us ps rbs ws):BS H' b r q rs us ps rbs ws:=⟨h.bn.keep s,h.rm.keep s.tk,h.ww⟩
structure Sok (ws:Gh)(rbs:Gg)(M:Int)(S:List PF)(β:Nat):Prop where
 m0:0<M
 bm:Bt β M
 sl:S.length=rbs.length
 ok:∀ d∈S,Okf ws d
 fit:∀ (i:Nat) d rb,S[i]?=some d->rbs[i]?=some rb->tot ws d.1*rb.2<=rb.1*M
def scl (b:Int)(S:List PF):List PF:=S.map λd=>(λy=>d.1 y*b,d.2)
def fE {b:Int}{S:List PF}{i:Nat}{d:PF}(h:S[i]?=some d):(scl b S)[i]?=some (λy=>d.1 y*b,d.2):=by
 unfold scl;rw [Aq,h];rfl
theorem eO (f:Str->Int)(b:Int):∀ ws:Gh,tot ws (λy=>f y*b)=tot ws f*b
 |[]=>by simp [tot]
 |y::r=>by
  have ih:=eO f b r;unfold tot at ih ⊢;rw [Ak,Ak,AI,AI,ih,Int.add_mul]
def jD {M1 M2 t b n1 n2:Int}(h:Fr M1 t b n1)(h1:0<M1)(e:n1*M2=n2*M1):Fr M2 t b n2:=by
 refine ⟨h.am,BM (show M1≠0 by lia) ?_⟩;have:=h.e
 calc t*M2*M1=t*M1*M2:=by rw [AV]
  _=n1*b*M2:=by rw [this]
  _=n1*M2*b:=by rw [AV]
  _=n2*M1*b:=by rw [e]
  _=n2*b*M1:=by rw [AV]
def IsMx.scale {M1 M2:Int}{f1 f2:Str->Int}{ys:Gc}(h:IsMx M1 f1 ys)(h1:0<M1)(h2:0<M2)(e:∀ y,f1 y*M2=f2 y*M1):IsMx M2 f2 ys:=by
 refine ⟨h.pw,h.nd,λy=>?_,λp hp=>jD (h.fr p hp) h1 (e _)⟩;rw [h.mem];have q:=e y;constructor
 ·intro n z
  rw [z,BV] at q
  rcases Fw.mp q with w|w
  ·exact n w
  ·lia
 ·intro n z
  rw [z,BV] at q
  rcases Fw.mp q.symm with w|w
  ·exact n w
  ·lia
def StV.scale {H:Hp}{l:Gj}{M b:Int}{S:List PF}(h:StV H l M S)(M0:0<M)(b0:0<b):StV H l (M*b) (scl b S):=by
 obtain ⟨vs,h1,h2,h3⟩:=h;refine ⟨vs,h1,by unfold scl;rw [Ag];exact h2,λi v d hv hd=>?_⟩;unfold scl at hd;rw [Aq] at hd;obtain ⟨e,he,rfl⟩:=Bg.mp hd;obtain ⟨a,m,n,us,ys,e1,e2,e3,e4,e5,e6⟩:=h3 i v e hv he;exact ⟨a,m,n,us,ys,e1,e2,e3,e4,e5.scale M0 (Ce M0 b0) λy=>by rw [BK M b,<- BX],e6⟩
def Okf.scale {ws:Gh}{d:PF}{b:Int}(h:Okf ws d)(b0:0<b):Okf ws (λy=>d.1 y*b,d.2):=
 ⟨λy=>Bu (h.nn y) (EX b0),h.nin,h.srt,λy hy=>h.inw y λe=>hy (by show d.1 y*b=0;rw [e,BV])⟩
def Sok.scale {ws:Gh}{rbs:Gg}{M b:Int}{S:List PF}{β γ:Nat}(h:Sok ws rbs M S β)(b0:0<b)(bb:Bt γ b):Sok ws rbs (M*b) (scl b S) (β+γ):=by
 refine ⟨Ce h.m0 b0,h.bm.mul bb,by unfold scl;rw [Ag];exact h.sl,λd hd=>?_,λi d rb hd hr=>?_⟩
 ·unfold scl at hd
  obtain ⟨e,he,rfl⟩:=AK.mp hd;exact (h.ok e he).scale b0
 ·unfold scl at hd
  rw [Aq] at hd;obtain ⟨e,he,rfl⟩:=Bg.mp hd;have f:=EW (h.fit i e rb he hr) (EX b0);show tot ws (λy=>e.1 y*b)*rb.2<=rb.1*(M*b);rw [eO,AV,<- BX];exact f
def oneW (x:Str)(n:Int):Str->Int:=λy=>if x=y then n else 0
def IntoR (c3 c4:Gj)(us:Gq)(ps:Gf)(ws:Gh)(M:Int)(S:List PF)(i:Nat)(d:PF)(rb:Int×Int)(add:Str->Int)(xs:Gh)(n:Nat)(H:Hp)(Q:VK)(E:XK):Prop:=
 (rb.1*M<tot ws (λy=>d.1 y+add y)*rb.2->BadO c3 n i M (tot ws (λy=>d.1 y+add y)) rb H E) /\
 (¬ rb.1*M<tot ws (λy=>d.1 y+add y)*rb.2->∀ nm',NmU d.2 xs nm'->(∀ pa,pairOf us ps nm'=.ref pa->BadE c4 [("pair",.ref pa),("phial",.int (i:Nat)),("place",.int (n:Nat))] H E) /\
  (pairOf us ps nm'=.non->∀ l' H',Same H H'->H l'=none->StV H' l' M (S.set i (λy=>d.1 y+add y,nm'))->Q (.ref l') H'))
def IntoR.mono {c3 c4:Gj}{us:Gq}{ps:Gf}{ws:Gh}{M:Int}{S:List PF}{i:Nat}{d:PF}{rb:Int×Int}{add:Str->Int}{xs:Gh}{n:Nat}{H H1:Hp}{Q:VK}{E:XK}(s:Same H H1)(h:IntoR c3 c4 us ps ws M S i d rb add xs n H Q E):IntoR c3 c4 us ps ws M S i d rb add xs n H1 Q E:=
 ⟨λc=>(h.1 c).mono s,λc nm' u=>⟨λpa e=>((h.2 c nm' u).1 pa e).mono s,λe l' H' s' nl=>(h.2 c nm' u).2 e l' H' (s.trans s') (sm0 s nl)⟩⟩
theorem aEu {M t b:Int}{x:Str}(b0:0<b)(y:Str):NW (M*b) [(x,t,b)] y=oneW x (t*M) y:=by
 rw [kX];unfold oneW;have:NW (M*b) [] y=0:=eE (by simp);rw [this,Int.add_zero];have e:nOf (M*b) (x,t,b)=t*M:=by
  show t*(M*b/b)=t*M;rw [Int.mul_ediv_cancel _ (by lia)]
 rw [e]
theorem pJ {x:Str}{n:Int}:∀ {ws:Gh},ws.Nodup->x∈ws->tot ws (oneW x n)=n
 |[],_,h=>by cases h
 |y::r,nd,h=>by
  have nd':=Ca.mp nd;have z:∀ {r:Gh},x∉r->tot r (oneW x n)=0:=λ{r}=>by
   induction r with
   |nil=>intro _;rfl
   |cons u q ih=>
    intro h;have ih':=ih λm=>h (Ah _ m);unfold tot at ih' ⊢;rw [Ak,AI,ih'];unfold oneW;rw [if_neg λe=>h (by rw [e];exact Al ..)];rfl
  by_cases e:x=y
  ·subst e
   have zr:=z nd'.1;unfold tot at zr ⊢;rw [Ak,AI,zr];unfold oneW;rw [if_pos rfl,Int.add_zero]
  ·have ih:=pJ (n:=n) nd'.2 ((AB.mp h).resolve_left e)
   unfold tot at ih ⊢;rw [Ak,AI,ih];unfold oneW;rw [if_neg e,Int.zero_add]
def Sok.small {ws:Gh}{rbs:Gg}{M:Int}{S:List PF}{β:Nat}{i:Nat}{d:PF}{rb:Int×Int}(h:Sok ws rbs M S β)(hd:S[i]?=some d)(hr:rbs[i]?=some rb)(rm:Rm rb.1 rb.2):0<=tot ws d.1/\Bt (100+β) (tot ws d.1):=by
 have n0:∀ r:Gh,0<=tot r d.1:=λr=>by
  induction r with
  |nil=>exact DB _
  |cons y r ih=>
   have:=(h.ok d (Ao hd)).nn y;unfold tot at ih ⊢;rw [Ak,AI];lia
 have f:=h.fit i d rb hd hr;have b1:=rm.b1;have m:=CV b1 (n0 ws);rw [Int.mul_one] at m;exact ⟨n0 ws,(rm.st.mul h.bm).le (n0 ws) (by lia)⟩
structure OnIn (H:Hp)(b r q l:Gj)(rs us:Gq)(ps:Gf)(rbs:Gg)(ws:Gh)(M:Int)(S:List PF)(β:Nat):Prop where
 bs:BS H b r q rs us ps rbs ws
 st:StV H l M S
 so:Sok ws rbs M S β
 b24:β<=1900
def OnIn.keep {H H':Hp}{b r q l:Gj}{rs us:Gq}{ps:Gf}{rbs:Gg}{ws:Gh}{M:Int}{S:List PF}{β:Nat}(s:Same H H')(h:OnIn H b r q l rs us ps rbs ws M S β):OnIn H' b r q l rs us ps rbs ws M S β:=⟨h.bs.keep s,h.st.keep s,h.so,h.b24⟩
theorem RmL.at {H:Hp}{rs:Gq}{rbs:Gg}(h:RmL H rs rbs){i:Nat}{rb:Int×Int}(hr:rbs[i]?=some rb):Rm rb.1 rb.2:=by
 obtain ⟨v,hv⟩:∃ v,rs[i]?=some v:=⟨_,Ae (by rw [h.1];exact (Ac.mp hr).1)⟩;obtain ⟨_,_,_,rm⟩:=h.2 i v rb hv hr;exact rm
def aJd {K:Ab}{H:Hp}{b r q l cm nm pr qa:Gj}{rs us:Gq}{ps:Gf}{rbs:Gg}{ws:Gh}{M:Int}{S:List PF}{β i:Nat}{d:PF}{rb:Int×Int}{x:Str}{t t' b':Int}
  (o:OnIn H b r q l rs us ps rbs ws M S β) (hd:S[i]?=some d) (hr:rbs[i]?=some rb) (xw:x∈ws) (hM:b'∣M*t') (am:Amt t b') (t0:0<t') (bt:Bt 2600 (NW (M*t') [(x,t,b')] x)) (bt':Bt 700 t')
  (hc:H cm=some (.tup [.ref pr])) (hp:H pr=some (.tup [.str x,.ref qa])) (hq:H qa=some (.tup [.int t,.int b'])) (hn:H nm=some (.tup [.str x])) :
  MoreIn K H b r q l cm nm rs us ps rbs ws (M*t') (scl t' S) i (λy=>d.1 y*t',d.2) rb [.ref pr] [(x,t,b')] [x]:=by
 have rm:=o.bs.rm.at hr;obtain ⟨n0,sm⟩:=o.so.small hd hr rm;have b24:=o.b24;have ss:=o.so.scale t0 bt';refine ⟨o.bs.bn,o.bs.rm,o.bs.ww,o.st.scale o.so.m0 t0,by unfold scl;rw [Ag,o.so.sl];exact o.bs.rm.1.symm,ss.ok,fE hd,hr,hc,.cons ⟨pr,qa,rfl,hp,hq⟩ .nil,λz hz=>?_,λz hz=>?_,(by show 1<=6;decide),hn,λz hz=>?_,(by show 1<=20;decide),Ce o.so.m0 t0,(o.so.bm.mul bt').mono (by lia),?_⟩
 ·rw [Az.mp hz]
  exact ⟨am,hM⟩
 ·rw [Az.mp hz]
  exact xw
 ·rw [Az.mp hz]
  exact xw
 ·have e:tot ws (λy=>d.1 y*t'+NW (M*t') [(x,t,b')] y)=tot ws d.1*t'+NW (M*t') [(x,t,b')] x:=by
   rw [hW (λy=>d.1 y*t') (NW (M*t') [(x,t,b')]) ws,eO];have:NW (M*t') [(x,t,b')]=oneW x (NW (M*t') [(x,t,b')] x):=funext λy=>by
    unfold oneW;split
    ·rename_i h;rw [h]
    ·rename_i h;exact eE (by simpa using λe=>h e.symm)
   conv=>lhs;rw [this]
   rw [pJ o.bs.ww.nd xw]
  show Bt 2900 (tot ws (λy=>d.1 y*t'+NW (M*t') [(x,t,b')] y));rw [e];have h1:Bt 2800 (tot ws d.1*t'):=(sm.mul bt').mono (by lia);exact (h1.add bt.mono).mono
inductive spODraw (C c3 c4:Gj)(vs:Gq)(H:Hp)(Q:VK)(E:XK):Prop
 |mk (p dx b r q l qa rs us ps rbs ws M S β i d rb x t b' n:_) (e0:vs=[.ref p,.ref b,.ref l,.int (n:Nat)]) (e1:n<1000) (e2:H p=some (.ins C dx (fs3 "phial" "ware" "amount" (.int (i:Nat)) (.str x) (.ref qa)))) (e3:H qa=some (.tup [.int t,.int b'])) (e4:RwA t b') (e5:x∈ws) (e6:OnIn H b r q l rs us ps rbs ws M S β) (e7:S[i]?=some d) (e8:rbs[i]?=some rb) (e9:IntoR c3 c4 us ps ws (M*b') (scl b' S) i (λy=>d.1 y*b',d.2) rb (oneW x (t*M)) [x] n H Q E):spODraw C c3 c4 vs H Q E
inductive spOEmpty (C:Gj)(vs:Gq)(H:Hp)(Q:VK)(E:XK):Prop
 |mk (p dx bv l M S i d nv:_) (e0:vs=[.ref p,bv,.ref l,nv]) (e1:H p=some (.ins C dx (fs1 "phial" (.int ((i:Nat):Int))))) (e2:StV H l M S) (e3:S.length<=16) (e4:S[i]?=some d) (e5:∀ l' H',Same H H'->H l'=none->StV H' l' M (S.set i (λ_=>0,d.2))->Q (.ref l') H'):spOEmpty C vs H Q E
inductive spORinse (C c2:Gj)(vs:Gq)(H:Hp)(Q:VK)(E:XK):Prop
 |mk (p dx bv l M S i d n:_) (e0:vs=[.ref p,bv,.ref l,.int ((n:Nat):Int)]) (e1:n<1000) (e2:H p=some (.ins C dx (fs1 "phial" (.int ((i:Nat):Int))))) (e3:StV H l M S) (e4:S.length<=16) (e5:S[i]?=some d) (e6:(¬ (∀ y,d.1 y=0)->BadE c2 [("phial",.int (i:Nat)),("place",.int (n:Nat))] H E)) (e7:((∀ y,d.1 y=0)->∀ l' H',Same H H'->H l'=none->StV H' l' M (S.set i (λ_=>0,[]))->Q (.ref l') H')):spORinse C c2 vs H Q E
def lH {M:Int}:IsMx M (λ_=>0) []:=⟨.nil,.nil,λy=>by simp,λp h=>nomatch h⟩
def fN {M:Int}{f:Str->Int}{ys:Gc}(mx:IsMx M f ys):ys=[]↔∀ y,f y=0:=by
 constructor
 ·rintro rfl y
  exact Br λh=>nomatch (mx.mem y).mpr h
 ·intro h
  cases ys with
  |nil=>rfl
  |cons x r=>exact absurd (h x.1) ((mx.mem x.1).mp (by simp))
section
variable {P:Aw}{w:World}{K:Ab}{mg:Gb}{base:Heap}{cP c0 c1 c2 c3 c4 f0 f1 f2 f3 f4 C:Gj}
abbrev Non:Gh:=["self","bench","phials","place"]
def aFc:FnScope Non Non (aG wY):=fnScOk
def aCi {f:Gj}{fd:Ay}(F:Fun K "onto_at" "Draw.onto_at" wY f fd)(D:DCl K C ["phial","ware","amount"])(cM:Cal P w K mg base (CXg P w) 6 "with_more" ["bench","phials","phial","comes","names","place"] (spMore K c3 c4)):FnOk P w K mg base (CXg P w) 7 f fd Non (spODraw C c3 c4):=by
 refine F.okFA aFc (λcdv A outer s H vs Q E hr h=>?_)
 ·obtain ⟨p,dx,b,r,q,l,qa,rs,us,ps,rbs,ws,M,S,β,i,d,rb,x,t,b',n,rfl,hn,hp,hqa,ra,xw,o,hd,hrb,kI⟩:=h
  refine ⟨_,aE (aL (lE cM hr rfl oA (aA (pv 1) (aA (pv 2) (aA (dA (pv 0) rfl) (aA (aT (aA (aT (aA (dA (pv 0) rfl) (aA (dA (pv 0) rfl) aB))) aB)) (aA (aT (aA (dA (pv 0) rfl) aB)) (aA (pv 3) aB)))))))),?_⟩;have F1:=aG2 (f1:="phial") (f2:="ware") (f3:="amount") (u1:=.int (i:Nat)) (u2:=.str x) (u3:=.ref qa) (by decide +kernel) (by decide +kernel);have F2:=aG1 (f1:="phial") (f2:="ware") (f3:="amount") (u1:=.int (i:Nat)) (u2:=.str x) (u3:=.ref qa) (by decide +kernel);have F3:=aG0 (f1:="phial") (f2:="ware") (f3:="amount") (u1:=.int (i:Nat)) (u2:=.str x) (u3:=.ref qa);refine ⟨_,rfl,_,rfl,_,rfl,p,C,dx,_,_,rfl,hp,D.cl,D.na _ (by simp),F1,_,rfl,p,C,dx,_,_,rfl,hp,D.cl,D.na _ (by simp),F2,_,rfl,p,C,dx,_,_,rfl,hp,D.cl,D.na _ (by simp),F3,zLn2,λpr npr=>⟨zLn1,λcm ncm=>?_⟩⟩;have s1:=Gu (o:=.tup [.str x,.ref qa]) npr;have s2:=Gu (o:=.tup [.ref pr]) ncm;refine ⟨_,rfl,p,C,dx,_,_,rfl,(s1.trans s2) _ _ hp,D.cl,D.na _ (by simp),F2,zLn1,λnm nnm=>⟨_,rfl,?_⟩⟩;have s3:=Gu (o:=.tup [.str x]) nnm;have s03:=(s1.trans s2).trans s3;have b0:0<b':=by have:=ra.am.b1;lia
  have e:NW (M*b') [(x,t,b')]=oneW x (t*M):=funext (aEu b0);have kI':=(kI.mono s03);rw [<- e] at kI';refine ⟨b,r,q,l,cm,nm,rs,us,ps,rbs,ws,M*b',scl b' S,i,_,rb,[.ref pr],[(x,t,b')],[x],n,rfl,hn,aJd (o.keep s03) hd hrb xw (Int.dvd_mul_left ..) ra.am b0 ?_ ra.bb (s3 _ _ aD) ((s2.trans s3) _ _ aD) (s03 _ _ hqa) aD,kI'.1,kI'.2⟩;rw [aEu b0];unfold oneW;rw [if_pos rfl];have b24:=o.b24;exact (ra.bt.mul o.so.bm).mono (by lia)
def aBw:FnScope Non Non (aG pY):=fnScOk
def yN {f:Gj}{fd:Ay}(F:Fun K "onto_at" "Empty.onto_at" pY f fd)(D:DCl K C ["phial"])(cH:Cal P w K mg base CX0 6 "with_phial" ["phials","phial","holds","names"] spWith):FnOk P w K mg base (CXg P w) 7 f fd Non (spOEmpty C):=by
 refine F.okFA aBw (λcdv A outer s H vs Q E hr h=>?_)
 ·obtain ⟨p,dx,bv,l,M,S,i,d,nv,rfl,hp,st,s16,hd,k⟩:=h
  refine ⟨_,aE (aL (aI cH hr (aA (pv 2) (aA (dA (pv 0) rfl) (aA (aT aB) (aA (aZ dB (aZ aX (pv 2) (dA (pv 0) rfl) (λ_ _=>rfl)) aH (λ_ _=>rfl)) aB)))))),?_⟩;obtain ⟨vs,v,hl,vl,hv,a,mm,nn,ms,ys,rfl,ha,hm,pr,mx,hnn⟩:=st.get hd;have il:=(Ac.mp hv).1;refine ⟨_,rfl,_,rfl,p,C,dx,_,_,rfl,hp,D.cl,D.na _ (by simp),aAd,zLn0,λz0 nz0=>?_⟩;have s1:=Gu (o:=.tup []) nz0;refine ⟨_,rfl,_,rfl,p,C,dx,_,_,rfl,s1 _ _ hp,D.cl,D.na _ (by simp),aAd,l,_,(i:Int),.ref a,rfl,rfl,Gw (s1 _ _ hl),aU hv,a,_,1,.ref nn,rfl,rfl,Gv (s1 _ _ ha),rfl,?_⟩;refine ⟨l,i,.ref z0,.ref nn,vs,rfl,s1 _ _ hl,il,by lia,λl' z H5 s5 nl' hz hl'=>?_⟩;exact k l' H5 (s1.trans s5) (sm0 s1 nl') (st.put hl (s1.trans s5) hl' ⟨z,z0,nn,[],[],rfl,hz,s5 _ _ aD,.nil,lH,(s1.trans s5) _ _ hnn⟩)
def aBv:FnScope Non Non (aG pX):=fnScOk
def yL {f:Gj}{fd g2:Ay}(F:Fun K "onto_at" "Rinse.onto_at" pX f fd)(D:DCl K C ["phial"])(R:ErB K mg cP c0 c1 c2 c3 c4 f0 f1 f2 f3 f4)(F2:FnOk P w K mg base CX0 1 f2 g2 ["self","place","phial"] (spI2 c2))(b2:Binds K g2 ["self","place","phial"] [])(cH:Cal P w K mg base CX0 6 "with_phial" ["phials","phial","holds","names"] spWith):FnOk P w K mg base (CXg P w) 7 f fd Non (spORinse C c2):=by
 refine F.okFA aBv (λcdv A outer s H vs Q E hr h=>?_)
 ·obtain ⟨p,dx,bv,l,M,S,i,d,n,rfl,hn,hp,st,s16,hd,kB,kG⟩:=h
  refine ⟨_,(aC (bD (aM (xX hr.units) (aZ dB (aZ aX (pv 2) (dA (pv 0) rfl) (λ_ _=>rfl)) aH (λ_ _=>rfl)) (aT aB))
    (aE (fI (k:=1) rfl xe_f rfl hr.mono rfl R.m2 (R.r2.e "place" (by simp)).i F2 b2 (aA (pv 3) (aA (dA (pv 0) rfl) aB))))
    aS)
   (aE (aL (aI cH hr (aA (pv 2) (aA (dA (pv 0) rfl) (aA (aT aB) (aA (aT aB) aB)))))))),?_⟩
  obtain ⟨vs,v,hl,vl,hv,a,mm,nn,ms,ys,rfl,ha,hm,pr,mx,hnn⟩:=st.get hd;have il:=(Ac.mp hv).1;refine ⟨_,rfl,_,rfl,p,C,dx,_,_,rfl,hp,D.cl,D.na _ (by simp),aAd,l,_,(i:Int),.ref a,rfl,rfl,Gw hl,aU hv,a,_,0,.ref mm,rfl,rfl,Gv ha,rfl,zLn0,λz0 nz0=>?_⟩;obtain ⟨H1,eH1,s1,hz0⟩:=updX (o:=.tup []) nz0;rw [eH1];refine ⟨mm,z0,_,rfl,rfl,Gv (s1 _ _ hm),Gv hz0,_,rfl,?_⟩;have pl:=pr.length;refine ite2 (λc=>?_) (λc=>?_)
  ·have ne:¬ (∀ y,d.1 y=0):=λz=>by
    have:=(fN mx).mpr z;subst this;have:ms=[]:=AY.mp pl;subst this;exact absurd c (by decide)
   exact ⟨_,rfl,_,rfl,p,C,dx,_,_,rfl,s1 _ _ hp,D.cl,D.na _ (by simp),aAd,xJ hn (by lia) ((kB ne).mono s1)⟩
  ·have em:ms=[]:=by
    cases ms with
    |nil=>rfl
    |cons u r=>exact absurd rfl c
   have z:∀ y,d.1 y=0:=(fN mx).mp (AY.mp (by rw [<- pl,em];rfl));refine ⟨_,rfl,_,rfl,p,C,dx,_,_,rfl,s1 _ _ hp,D.cl,D.na _ (by simp),aAd,zLn0,λz1 nz1=>⟨zLn0,λz2 nz2=>?_⟩⟩;have s2:=Gu (o:=.tup []) nz1;have s3:=Gu (o:=.tup []) nz2;have h1:upd (upd H1 z1 (.tup [])) z2 (.tup []) z1=some (.tup []):=s3 _ _ aD;have s03:=(s1.trans s2).trans s3;refine ⟨l,i,.ref z1,.ref z2,vs,rfl,s03 _ _ hl,il,by lia,λl' z' H5 s5 nl' hz hl'=>?_⟩;exact kG z l' H5 (s03.trans s5) (sm0 s03 nl') (st.put hl (s03.trans s5) hl' ⟨z',z1,z2,[],[],rfl,hz,s5 _ _ h1,.nil,lH,s5 _ _ aD⟩)
end
end K53
namespace L2
def aHo (m:Str)(Cs:List (Gj×Sp))(E:XK)(ta:TE)(t:TA):TE:=λσ H Q=>ta σ H λx H1=>∃ C sp a dx fs,(C,sp)∈Cs/\x=.ref a/\H1 a=some (.ins C dx fs)/\fs.lookup m=none/\t σ H1 λys H2=>sp (x::ys) H2 Q E
def aIt {k:Nat}(hC:∀ c∈Cs,Cls X.K c.1/\MCal X.prog X.w X.K X.mg X.base CX k c.1 m ps c.2)(hr:Room k X.A)(hx:hU CX X E)(he:PE X o ta)(ha:PA X (e::es) t)(hst:AR (e::es) X.env=(false,eval e X.env)::AR es X.env:=by rfl)(hpl:(backTo pos (AR es X.env)).any (·.1)=false:=by rfl)(ht:eval (.Call (.Attribute o m apos) (e::es) [] pos) X.env=(do
   let ov <- eval o X.env
   standAt apos.atName
   let (f,first) <- holding [ov] (getMethod ov m pl)
   callWith pos f first (backTo pos (AR (e::es) X.env)) (backToKw pos (keywordEach [] X.env))):=by rfl) :
  PE X (.Call (.Attribute o m apos) (e::es) [] pos) (aHo m Cs E ta t):=by
 intro Z s σ H Q I h;refine PySem.W.methodCall_KW (pl:=pl) (thn (he Z s σ H _ I h) λu s1 ⟨x,H1,I1,rx,C,sp,a,dx,fs,hm,ex,ea,l,q⟩=>?_) ht;subst ex;obtain rfl:u=AD a:=rx;obtain ⟨c,M⟩:=hC _ hm;obtain ⟨f,fd,hm',b,F⟩:=M;refine vI I1 ea c hm' l ?_;refine Fo (first:=[.ref a]) (h₀:=X.base) I.ok.mod.kin hm'.kp (thn (ha pos Z s1 σ H1 _ I1 q) λus s2 ⟨vs,H2,I2,r,q2⟩=>⟨I2.kIn,?_⟩) hst hpl;exact aDu (us:=.ref a::us) (vs:=.ref a::vs) (dvs:=[]) F hr b .nil hx I2 (.cons rfl r) (by rw [Cc];exact q2)
end L2
namespace K53
end K53
namespace K53
open L2 GM TM
def aJ8 {H H2:Hp}{d:Gj}{ob:Obj}{kvs:Gp}(hd:H d=some (.dK kvs))(s:Same (upd H d (.frz ob (.dK kvs))) H2):Same H (upd H2 d (.dK kvs)):=λb o e=>by
 by_cases n:b=d
 ·subst n
  rw [hd] at e;rw [aD];exact e
 ·rw [aJ n]
  exact s b o (by rw [aJ n];exact e)
def aEa {ks:Gh}{kvs:Gp}{i:Nat}{kv:Key×V}(h:kvs.map (·.1)=ks.map AQ)(hk:kvs[i]?=some kv):∃ y,ks[i]?=some y/\kv.1=AQ y:=by
 have e:=congrArg (λl=>l[i]?) h;simp only [Aq,hk,DD] at e;cases q:ks[i]? with
 |none=>rw [q] at e;cases e
 |some y=>rw [q] at e;exact ⟨y,rfl,AA e⟩
inductive spSum (K:Ab)(vs:Gq)(H:Hp)(Q:VK)(Ex:XK):Prop
 |mk (d kvs ks M xs:_) (e0:vs=[.ref d]) (e1:H d=some (.dK kvs)) (e2:DA H M xs kvs ks) (e3:0<M) (e4:Bt 2900 M) (e5:Over M xs) (e6:Bt 2900 (sumN M xs)) (e7:∀ f t b H',Same H H'->H' f=some (.tup [.int t,.int b])->Fr M t b (sumN M xs)->Q (.ref f) H'):spSum K vs H Q Ex
theorem lU (f:Str->Int)(nn:∀ y,0<=f y):∀ (ks:Gh) (i:Nat),((ks.take i).map f).sum<=(ks.map f).sum/\0<=((ks.take i).map f).sum
 |[],i=>by simp
 |y::r,0=>by
  have h:=lU f nn r r.length;rw [AN] at h;have:=nn y;simp only [List.take_zero,List.map_nil,List.sum_nil,Ak,AI];exact ⟨by lia,DB _⟩
 |y::r,i+1=>by
  have h:=lU f nn r i;have:=nn y;rw [List.take_succ_cons,Ak,Ak,AI,AI];exact ⟨by lia,by lia⟩
def aHd {M:Int}(hM:0<M){xs:Gc}(h:Over M xs)(y:Str):0<=NW M xs y:=by
 have:=(rG hM h xs.length y).1;rwa [AN] at this
section
variable {P:Aw}{w:World}{K:Ab}{mg:Gb}{base:Heap}
def aBt:FnScope ["_law_held","_law_found","_law_ware"] ["_law_held"] (aG sSum):=fnScOk
def aI1 {f:Gj}{fd:Ay}(F:Fun K "_law_sum" "_law_sum" sSum f fd)(cA:Cal P w K mg base CX0 2 "_law_add" ["_law_one","_law_other"] (spAdd K)):FnOk P w K mg base CX0 3 f fd ["_law_held"] (spSum K):=by
 refine F.okA aBt (λcdv A outer s H vs Q E hr h=>?_)
 ·obtain ⟨d,kvs,ks,M,xs,rfl,hd,da,M0,bM,ov,bS,k⟩:=h
  refine ⟨_,(aC (aK (i:=1) aBt.nd (aT (aA aH (aA aH aB))))
   (aC (xK (bR AJ rfl (xQ (pv 0)) (aQ (i:=2) aBt.nd)
    (aE (aK (i:=1) aBt.nd (aI cA hr (aA (pv 1) (aA (kH (iR hr) (pv 0) (pv 2) (λ_ _=>rfl)) aB)))))))
   (aE (aL (pv 1))))),?_⟩
  refine ⟨zLn2,λz nz=>?_⟩;obtain ⟨H1,eH1,s1,hz⟩:=updX (o:=.tup [.int 0,.int 1]) nz;rw [eH1];have hd1:=s1 _ _ hd;have da1:=da.keep s1.tk;have tkd:Tk H1 (upd H1 d (.frz (default:Obj) (.dK kvs))):=Tk.dk hd1;refine ⟨_,rfl,d,kvs,rfl,hd1,λob=>?_⟩;have tk:Tk H1 (upd H1 d (.frz ob (.dK kvs))):=Tk.dk hd1;have kl:ks.length=kvs.length:=by have:=congrArg List.length da.1.keys;simpa using this.symm
  have nw:=λy=>aHd M0 ov y;have tot':(ks.map (NW M xs)).sum=sumN M xs:=lQ da.1.nd λx hx=>(da.2.1 x.1).mpr (Cu hx);refine oN (λi σ H'=>∃ (v2:Gr) (p:Gj) (t b:Int),σ=[some (.ref d),some (.ref p),v2]/\Same (upd H1 d (.frz ob (.dK kvs))) H'/\H' p=some (.tup [.int t,.int b])/\Fr M t b ((ks.take i).map (NW M xs)).sum) ⟨none,z,0,1,rfl,Same.refl _,tk _ _ hz,Fr.zero⟩ ?_ ?_ ?_
  ·rintro i σ H' _ ⟨_,_,_,_,rfl,sm,_⟩
   exact sm _ _ aD
  ·rintro i kv σ H2 D' hN hkv ⟨v2,p,t,b,rfl,s2,hp,fr⟩
   obtain ⟨y,hy,ek⟩:=aEa da.1.keys hkv;rw [ek];obtain ⟨q,t2,b2,e1,e2,e3⟩:=da1.2.2 y (Ao hy);have dg:DGet H2 d (.str y) (some (.ref q)):=.inl ⟨kvs,.inr y,.inr ⟨ob,s2 _ _ aD⟩,rfl,e1.symm⟩;have st:=lU (NW M xs) nw ks i;have sy:0<=NW M xs y/\NW M xs y<=sumN M xs:=by
    have:=rG M0 ov xs.length y;rwa [AN] at this
   have f1:=dH M0 fr;have f2:=dH M0 e3;have tw:Tw K H2 p q t b t2 b2:=⟨Gv hp,Gv (s2 _ _ (tk _ _ e2)),fr.am,e3.am,(bS.le fr.am.t0 (by lia)).mono,(bM.le (by have:=fr.am.b1;lia) f1.2).mono,(bS.le e3.am.t0 (by lia)).mono,(bM.le (by have:=e3.am.b1;lia) f2.2).mono⟩;refine ⟨_,rfl,_,rfl,_,rfl,d,_,rfl,dg,p,q,t,b,t2,b2,rfl,tw,λr H3 s3 h3=>?_⟩;refine hN _ _ ⟨_,r,_,_,rfl,s2.trans s3,h3,?_⟩;have e:((ks.take (i+1)).map (NW M xs)).sum=((ks.take i).map (NW M xs)).sum+NW M xs y:=by
    rw [Dd,hy,AW,Fs];simp
   rw [e];exact fr.plus e3
  ·rintro σ H2 ⟨v2,p,t,b,rfl,s2,hp,fr⟩
   refine ⟨d,ob,kvs,s2 _ _ aD,(λo u z=>by have z':H d=some (.frz o u):=z;rw [hd] at z';cases z'),?_⟩;have pd:p≠d:=λe=>by rw [e,s2 _ _ aD] at hp;cases hp
   rw [<- kl,AN,tot'] at fr;exact ⟨_,rfl,k p t b _ (s1.trans (aJ8 hd1 s2)) (by rw [aJ pd];exact hp) fr⟩
end
def aA7:Cr "dict" = some (.type "dict"):=by decide +kernel
def pG {kvs:Gp}(nd:(kvs.map (·.1)).Nodup){kv:Key×V}(h:kv∈kvs):valV kvs kv.1=some kv.2:=by
 induction kvs with
 |nil=>cases h
 |cons x r ih=>
  rw [Ak] at nd;have nd':=Ca.mp nd;unfold valV
  rcases AB.mp h with e|hm
  ·subst e
   simp
  ·have ne:¬ x.1=kv.1:=λe=>nd'.1 (e▸Cu hm)
   have:=ih nd'.2 hm;unfold valV at this;rw [DT,decide_eq_false ne];exact this
def aDy {H:Hp}{us:Gq}{ys:Gc}(h:PrL H us ys):∃ kvs:Gp,us.length=kvs.length/\kvs.map (·.1)=(ys.map (·.1)).map AQ/\(∀ (i:Nat) u kv,us[i]?=some u->kvs[i]?=some kv->∃ z,u=.ref z/\H z=some (.tup [kV kv.1,kv.2])) /\
  ∀ y∈ys,∃ q,(AQ y.1,V.ref q)∈kvs/\H q=some (.tup [.int y.2.1,.int y.2.2]):=by
 induction h with
 |nil=>exact ⟨[],rfl,rfl,λi u kv h=>by simp at h,λy h=>nomatch h⟩
 |@cons v x vs xs p _ ih=>
  obtain ⟨kvs,h1,h2,h3,h4⟩:=ih;obtain ⟨a,q,rfl,ha,hq⟩:=p;refine ⟨(AQ x.1,.ref q)::kvs,by rw [AS,AS,h1],by rw [Ak,Ak,Ak,h2],λi u kv hu hk=>?_,λy hy=>?_⟩
  ·cases i with
   |zero=>cases hu;cases hk;exact ⟨a,rfl,ha⟩
   |succ i=>exact h3 i u kv (by simpa using hu) (by simpa using hk)
  ·rcases AB.mp hy with rfl|hy
   ·exact ⟨q,Al ..,hq⟩
   ·obtain ⟨q',m,e⟩:=h4 y hy
    exact ⟨q',Ah _ m,e⟩
theorem tF {M t b N:Int}{x:Str}(hM:0<M)(h:Fr M t b N):nOf M (x,t,b)=N:=by
 have b0:b≠0:=by have:=h.am.b1;lia
 show t*(M/b)=N;obtain ⟨k,hk⟩:=h.dvd;have e:=h.e;rw [hk,Int.mul_ediv_cancel_left _ b0];rw [hk] at e;refine BM b0 ?_;rw [<- e,BK b k,BX]
theorem uE {H:Hp}{M:Int}{cs:Gc}{kvs:Gp}:∀ {ks:Gh},(∀ y∈ks,∃ (p:Gj) (t b:Int),valV kvs (AQ y)=some (.ref p)/\H p=some (.tup [.int t,.int b])/\Fr M t b (NW M cs y)) ->
  ∃ es:Gc,es.map (·.1)=ks/\∀ e∈es,∃ q,valV kvs (AQ e.1)=some (.ref q)/\H q=some (.tup [.int e.2.1,.int e.2.2])/\Fr M e.2.1 e.2.2 (NW M cs e.1)
 |[],_=>⟨[],rfl,λe h=>nomatch h⟩
 |y::r,h=>by
  obtain ⟨es,h1,h2⟩:=uE (ks:=r) λz hz=>h z (Ah _ hz);obtain ⟨p,t,b,e1,e2,e3⟩:=h y (Al ..);refine ⟨(y,t,b)::es,by rw [Ak,h1],λe he=>?_⟩
  rcases AB.mp he with rfl|he
  ·exact ⟨p,e1,e2,e3⟩
  ·exact h2 e he
theorem gW {M:Int}(hM:0<M){f:Str->Int}:∀ {es:Gc},(es.map (·.1)).Nodup->(∀ e∈es,Fr M e.2.1 e.2.2 (f e.1))->∀ y,NW M es y=if y∈es.map (·.1) then f y else 0
 |[],_,_,y=>by rw [if_neg (by simp)];exact eE (by simp)
 |e::r,nd,h,y=>by
  rw [Ak] at nd;have nd':=Ca.mp nd;have ih:=gW hM nd'.2 (λz hz=>h z (Ah _ hz)) y;rw [kX,ih];have n:=tF (x:=e.1) hM (h e (Al ..));have n':nOf M e=f e.1:=n
  by_cases c:e.1=y
  ·subst c
   rw [if_pos rfl,if_neg nd'.1,if_pos (by simp),n',Int.add_zero]
  ·rw [if_neg c,Int.zero_add]
   by_cases c2:y∈r.map (·.1)
   ·rw [if_pos c2,if_pos (by rw [Ak];exact Ah _ c2)]
   ·rw [if_neg c2,if_neg (by rw [Ak];exact λz=>(AB.mp z).elim (λz=>c z.symm) c2)]
theorem aHk:∀ {kvs:Gp} {ks:Gh},kvs.map (·.1)=ks.map AQ->∃ zs:Gn,kvs=txK zs/\zs.map (·.1)=ks
 |[],[],_=>⟨[],rfl,rfl⟩
 |[],_::_,h=>by simp at h
 |_::_,[],h=>by simp at h
 |kv::r,k::ks,h=>by
  rw [Ak,Ak] at h;injection h with h1 h2;obtain ⟨zs,e1,e2⟩:=aHk h2;refine ⟨(k,kv.2)::zs,?_,by rw [Ak,e2]⟩;rw [e1];show kv::txK zs=(AQ k,kv.2)::txK zs;rw [<- h1]
theorem tQ {H:Hp}{M:Int}{X:Gc}:∀ {as:List Gj} {zs:Gn},as.length=zs.length->(∀ a z,(a,z)∈as.zip zs->H a=some (.tup [.str z.1,z.2]))->(∀ z∈zs,∃ q t b,z.2=.ref q/\H q=some (.tup [.int t,.int b])/\Fr M t b (NW M X z.1)) ->
  ∃ ys:Gc,PrL H (as.map V.ref) ys/\ys.map (·.1)=zs.map (·.1)/\∀ y∈ys,Fr M y.2.1 y.2.2 (NW M X y.1)
 |[],[],_,_,_=>⟨[],.nil,rfl,λy h=>nomatch h⟩
 |[],_::_,h,_,_=>by simp at h
 |_::_,[],h,_,_=>by simp at h
 |a::as,z::zs,h,h1,h2=>by
  obtain ⟨ys,e1,e2,e3⟩:=tQ (as:=as) (zs:=zs) (by simpa using h) (λa' z' m=>h1 a' z' (by rw [Co];exact Ah _ m)) λz' m=>h2 z' (Ah _ m);obtain ⟨q,t,b,f1,f2,f3⟩:=h2 z (Al ..);have f4:=h1 a z (by rw [Co];exact Al ..);rw [f1] at f4;refine ⟨(z.1,t,b)::ys,.cons ⟨a,q,rfl,f4,f2⟩ e1,by rw [Ak,Ak,e2],λy hy=>?_⟩
  rcases AB.mp hy with rfl|hy
  ·exact f3
  ·exact e3 y hy
structure LawIn (K:Ab)(H:Hp)(b r q l dm nm:Gj)(rs us:Gq)(ps:Gf)(rbs:Gg)(ws:Gh)(M:Int)(S:List PF)(i:Nat)(d:PF)(rb:Int×Int)(kvm:Gp)(ksm:Gh)(cs:Gc)(xs:Gh):Prop where
 bs:BS H b r q rs us ps rbs ws
 st:StV H l M S
 sl:S.length=rs.length
 ok:∀ d∈S,Okf ws d
 di:S[i]?=some d
 rbi:rbs[i]?=some rb
 hm:H dm=some (.dK kvm)
 da:DA H M cs kvm ksm
 oc:Over M cs
 cw:∀ x∈cs,x.1∈ws
 cp:∀ y∈ksm,0<NW M cs y
 hn:SqL K H nm (xs.map V.str)\/SqT K H nm (xs.map V.str)
 xw:∀ x∈xs,x∈ws
 xl:xs.length<=20
 m0:0<M
 bm:Bt 2900 M
 bS:Bt 2900 (tot ws (λy=>d.1 y+NW M cs y))
def IntoL (us:Gq)(ps:Gf)(ws:Gh)(M:Int)(S:List PF)(i:Nat)(d:PF)(rb:Int×Int)(add:Str->Int)(xs:Gh)(H:Hp)(Q:VK):Prop:=
 (rb.1*M<tot ws (λy=>d.1 y+add y)*rb.2->∀ z t3 a t b H',Same H H'->H' z=some (.tup [.ref t3,.non])->H' t3=some (.tup [.str "spilt",.int ((i:Nat):Int),.ref a])->H' a=some (.tup [.int t,.int b])->Fr (M*rb.2) t b (tot ws (λy=>d.1 y+add y)*rb.2-rb.1*M)->Q (.ref z) H') /\
 (¬ rb.1*M<tot ws (λy=>d.1 y+add y)*rb.2->∀ nm',NmU d.2 xs nm'->(∀ pa,pairOf us ps nm'=.ref pa->∀ z t3 H',Same H H'->H' z=some (.tup [.ref t3,.non])->H' t3=some (.tup [.str "touch",.int ((i:Nat):Int),.ref pa])->Q (.ref z) H') /\
  (pairOf us ps nm'=.non->∀ z l' H',Same H H'->H l'=none->H' z=some (.tup [.non,.ref l'])->StV H' l' M (S.set i (λy=>d.1 y+add y,nm'))->Q (.ref z) H'))
inductive spInto (K:Ab)(vs:Gq)(H:Hp)(Q:VK)(Ex:XK):Prop
 |mk (b r q l dm nm rs us ps rbs ws M S i d rb kvm ksm cs xs:_) (e0:vs=[.ref b,.ref l,.int ((i:Nat):Int),.ref dm,.ref nm]) (e1:LawIn K H b r q l dm nm rs us ps rbs ws M S i d rb kvm ksm cs xs) (e2:IntoL us ps ws M S i d rb (NW M cs) xs H Q):spInto K vs H Q Ex
section
variable {P:Aw}{w:World}{K:Ab}{mg:Gb}{base:Heap}
abbrev aLi:Gh:=["_law_bench","_law_state","_law_phial","_law_more","_law_names_here","_law_held","_law_ware","_law_lies","_law_named_here","_law_pair","_law_found"]
def jM:FnScope aLi ["_law_bench","_law_state","_law_phial","_law_more","_law_names_here"] (aG aFn):=fnScOk
def aGf {f:Gj}{fd:Ay}(F:Fun K "_law_into" "_law_into" aFn f fd)(T:Txt mg)(cA:Cal P w K mg base CX0 3 "_law_add" ["_law_one","_law_other"] (spAdd K))(cS:Cal P w K mg base CX0 3 "_law_sum" ["_law_held"] (spSum K))(cU:Cal P w K mg base CX0 3 "_law_under" ["_law_one","_law_other"] (spLess K))(cT:Cal P w K mg base CX0 3 "_law_take" ["_law_one","_law_other"] (spTake K)):FnOk P w K mg base CX0 4 f fd ["_law_bench","_law_state","_law_phial","_law_more","_law_names_here"] (spInto K):=by
 refine F.okA jM (λcdv A outer s H vs Q E hr h=>?_)
 ·obtain ⟨b,r,q,l,dm,nm,rs,us,ps,rbs,ws,M,S,i,d,rb,kvm,ksm,cs,xs,rfl,m,kS,kG⟩:=h
  refine ⟨_,(aC (aK (i:=5) jM.nd (aY (lP rfl) rfl T.dict' aA7 (aA (aZ dB (aZ aX (pv 1) (pv 2) (λ_ _=>rfl)) aH (λ_ _=>rfl)) aB)))
   (aC (xK (bR AJ rfl (xQ (pv 3)) (aQ (i:=6) jM.nd)
    (aE (mF (iR hr) (pv 5) (pv 6) (aI cA hr (aA (sQ (iR hr) (pv 5) (pv 6) (aT (aA aH (aA aH aB))) ⟨rfl,rfl,rfl,rfl⟩) (aA (kH (iR hr) (pv 3) (pv 6) (λ_ _=>rfl)) aB))) rfl))))
   (aC (aK (i:=7) jM.nd (aI cS hr (aA (pv 5) aB)))
   (aC (bD (dX (aI cU hr (aA (aZ dB (pit 0 0) (pv 2) (λ_ _=>rfl)) (aA (pv 7) aB))))
    (aE (aL (aT (aA (aT (aA aR (aA (pv 2) (aA (aI cT hr (aA (pv 7) (aA (aZ dB (pit 0 0) (pv 2) (λ_ _=>rfl)) aB))) aB)))) (aA dI aB)))))
    aS)
   (aC (aK (i:=8) jM.nd (aY bG rfl T.tup' dG (aA (aV (iO rfl) rfl T.sorted' boot_sorted (aA (aY (aA3 rfl) rfl T.set' aEq (aA (aP aD4 (aY bC rfl T.list' dS (aA (aZ dB (aZ aX (pv 1) (pv 2) (λ_ _=>rfl)) aH (λ_ _=>rfl)) aB)) (aY bC rfl T.list' dS (aA (pv 4) aB))) aB)) aB)) aB)))
   (aC (bR AJ rfl (iL (pit 0 1)) (aQ (i:=9) jM.nd)
    (aE (bD (PW.pt (fH (aM eK (pit 9 0) (pv 8) rfl) (eQ (aM eK (pit 9 1) (pv 8) rfl))))
     (aE (aL (aT (aA (aT (aA aR (aA (pv 2) (aA (pv 9) aB)))) (aA dI aB)))))
     aS)))
   (aC (aK (i:=10) jM.nd (aY bC rfl T.list' dS (aA (pv 1) aB)))
   (aC (fK (aT (aA (aY bG rfl T.tup' dG (aA (nX rfl rfl T.sorted' (pv 5)) aB)) (aA (pv 8) aB))) (jZ (pv 10) (pv 2) set_list))
   (aE (aL (aT (aA dI (aA (pv 10) aB))))))))))))),?_⟩
  obtain ⟨vs,v,hl,vl,hv,a,mm,nn,ms,ys,rfl,ha,hmm,pr,mx,hnn⟩:=m.st.get m.di;have okd:=m.ok d (Ao m.di);have M0:=m.m0;have bn:=m.bs.bn;obtain ⟨kv0,k1,k2,k3,k4⟩:=aDy pr;have nd0:(kv0.map (·.1)).Nodup:=by
   rw [k2];exact CJ.mpr (mx.nd.imp λh e=>h (AQ.inj e))
  refine ⟨_,rfl,_,rfl,l,_,(i:Int),.ref a,rfl,rfl,Gw hl,aU hv,a,_,0,.ref mm,rfl,rfl,Gv ha,rfl,mm,ms,kv0,rfl,hmm,k1,nd0,k3,λp np=>?_⟩;obtain ⟨H1,eH1,s1,hp1⟩:=updX (o:=.dK kv0) np;rw [eH1];have pm:p≠dm:=λe=>by rw [e,m.hm] at np;cases np
  have da1:DA H1 M ys kv0 (ys.map (·.1)):=⟨⟨k2,mx.nd⟩,λy=>Iff.rfl,λy hy=>by
   obtain ⟨x,hx,rfl⟩:=AK.mp hy;obtain ⟨q',mq,hq'⟩:=k4 x hx;refine ⟨q',_,_,pG nd0 mq,s1 _ _ hq',?_⟩;rw [mx.nw];exact mx.fr x hx⟩
  obtain ⟨es,ee,ef⟩:=uE m.da.2.2;have oe:Over M es:=λe he=>by
   obtain ⟨_,_,_,fr⟩:=ef e he;exact ⟨fr.am,fr.dvd⟩
  have oy:Over M ys:=mx.over;have oye:Over M (ys++es):=λe he=>(Bm.mp he).elim (oy e) (oe e);have nwe:∀ y,NW M es y=NW M cs y:=λy=>by
   rw [gW M0 (f:=NW M cs) (by rw [ee];exact m.da.1.nd) (λe he=>by obtain ⟨_,_,_,fr⟩:=ef e he;exact fr),ee]
   by_cases c:y∈ksm
   ·rw [if_pos c]
   ·rw [if_neg c,eE λz=>c ((m.da.2.1 y).mpr z)]
  have nwT:∀ y,NW M (ys++es) y=d.1 y+NW M cs y:=λy=>by rw [kY,mx.nw,nwe]
  have ew:∀ e∈es,e.1∈ws:=λe he=>by
   have:e.1∈ksm:=by rw [<- ee];exact Cu he
   obtain ⟨x,hx,e'⟩:=AK.mp ((m.da.2.1 e.1).mp this);rw [<- e'];exact m.cw x hx
  have yw:∀ e∈ys,e.1∈ws:=λe he=>okd.inw e.1 ((mx.mem e.1).mp (Cu he));have sT:sumN M (ys++es)=tot ws (λy=>d.1 y+NW M cs y):=by
   rw [<- lQ m.bs.ww.nd (xs:=ys++es) (λx hx=>(Bm.mp hx).elim (yw x) (ew x))];unfold tot;exact congrArg List.sum (Dg λy _=>nwT y)
  have bT:=m.bS;rw [<- sT] at bT kS kG;have el:es.length=ksm.length:=by rw [<- ee,Ag]
  have kl:kvm.length=ksm.length:=m.da.1.len;have hm1:=s1 _ _ m.hm;have l6:∀ zs:Gc,(zs.map (·.1)).Nodup->(∀ z∈zs,z.1∈ws)->zs.length<=6:=λzs n w=>by
   have:=n.length_le_of_subset (l₂:=ws) λy hy=>by
    obtain ⟨x,hx,rfl⟩:=AK.mp hy;exact w x hx
   rw [Ag] at this;exact Bj this m.bs.ww.l
  have yl:=l6 ys mx.nd yw;have esl:=l6 es (by rw [ee];exact m.da.1.nd) ew;refine ⟨_,rfl,dm,kvm,rfl,hm1,λob=>?_⟩;have tk:Tk H1 (upd H1 dm (.frz ob (.dK kvm))):=Tk.dk hm1;refine oN (λj σ H'=>∃ (v6:Gr) (kvs:Gp) (ks:Gh),σ=[some (.ref b),some (.ref l),some (.int ((i:Nat):Int)),some (.ref dm),some (.ref nm),some (.ref p),v6,none,none,none,none]/\(∀ c o,c≠p->upd H1 dm (.frz ob (.dK kvm)) c=some o->H' c=some o)/\H' p=some (.dK kvs)/\DA H' M ((ys++es).take (ys.length+j)) kvs ks/\ks.length<=ys.length+j) ⟨none,kv0,_,rfl,λc o _ h=>h,by rw [aJ pm];exact hp1,by rw [Nat.add_zero,List.take_left];exact da1.keep tk,by rw [Ag];exact Aj _⟩ ?_ ?_ ?_
  ·rintro j σ H' _ ⟨_,_,_,rfl,sm,_⟩
   exact sm _ _ (Bi pm) aD
  ·rintro j kv σ H2 D' hN hkv ⟨v6,kvs,ks,rfl,s2,hp2,da,kl2⟩
   obtain ⟨y,hy,ek⟩:=aEa m.da.1.keys hkv;rw [ek];have jl:=(Ac.mp hkv).1;obtain ⟨e,he⟩:∃ e,es[j]?=some e:=⟨_,Ae (by have:=(Ac.mp hy).1;lia)⟩;have ey:e.1=y:=by
    have h1:(es.map (·.1))[j]?=some e.1:=by rw [Aq,he];rfl
    rw [ee,hy] at h1;exact (AA h1).symm
   have hx:(ys++es)[ys.length+j]?=some e:=by rw [AH (by lia),Nat.add_sub_cancel_left];exact he
   obtain ⟨q',e1,e2,e3⟩:=ef e (Ao he);rw [ey] at e1;refine ⟨_,rfl,p,rfl,.inl ⟨kvs,.inl hp2⟩,_,rfl,zLn2,λz1 nz1=>⟨_,DGet.k (k:=AQ y) ((Gu nz1) _ _ hp2),?_⟩⟩;have w1:=Gu (o:=.tup [.int 0,.int 1]) nz1;have hz1:upd H2 z1 (.tup [.int 0,.int 1]) z1=some (.tup [.int 0,.int 1]):=aD;have hp3:=w1 _ _ hp2;have da3:=da.keep w1.tk;have dm3:upd H2 z1 (.tup [.int 0,.int 1]) dm=some (.frz ob (.dK kvm)):=w1 _ _ (s2 _ _ (Bi pm) aD);have q3:upd H2 z1 (.tup [.int 0,.int 1]) q'=some (.tup [.int e.2.1,.int e.2.2]):=by
    have qp:q'≠p:=λz=>by rw [z,np] at e2;cases e2
    exact w1 _ _ (s2 _ _ qp (tk _ _ (s1 _ _ e2)))
   generalize upd H2 z1 (.tup [.int 0,.int 1])=H3 at w1 hz1 hp3 da3 dm3 q3 ⊢;obtain ⟨g,t,b',eg,hg,fr⟩:∃ (g:Gj) (t b':Int),(valV kvs (AQ y)).getD (.ref z1)=.ref g/\SqT K H3 g [.int t,.int b']/\Fr M t b' (NW M ((ys++es).take (ys.length+j)) y):=by
    by_cases hyk:y∈ks
    ·obtain ⟨p',t,b',f1,f2,f3⟩:=da3.2.2 _ hyk
     exact ⟨p',t,b',by rw [f1];rfl,Gv f2,f3⟩
    ·have:valV kvs (AQ y)=none:=by
      cases e:valV kvs (AQ y) with
      |none=>rfl
      |some v=>exact absurd ((da.1.get y).mp (by rw [e];rfl)) hyk
     refine ⟨z1,0,1,by rw [this];rfl,Gv hz1,?_⟩;rw [eE (λz=>hyk ((da.2.1 _).mpr z))];exact Fr.zero
   rw [eg];have nwl:=rG M0 oye (ys.length+j) y;have fs:=dH M0 fr;have fse:=dH M0 e3;have nwe':NW M cs e.1<=sumN M (ys++es):=by
    have h1:=rG M0 oye (ys++es).length e.1;rw [AN,kY,nwe] at h1;have h2:=aHd M0 oy e.1;lia
   have tw:Tw K H3 g q' t b' e.2.1 e.2.2:=⟨hg,Gv q3,fr.am,e3.am,(bT.le fr.am.t0 (by lia)).mono,(m.bm.le (by have:=fr.am.b1;lia) fs.2).mono,(bT.le e3.am.t0 (by lia)).mono,(m.bm.le (by have:=e3.am.b1;lia) fse.2).mono⟩;have dg:DGet H3 dm (.str y) (some (.ref q')):=.inl ⟨kvm,.inr y,.inr ⟨ob,dm3⟩,rfl,e1.symm⟩;refine ⟨_,rfl,_,rfl,dm,_,rfl,dg,g,q',t,b',e.2.1,e.2.2,rfl,tw,λr' H4 s4 h4=>?_⟩;have hp4:=s4 _ _ hp3;have frn:Fr M ((t*e.2.2+e.2.1*b')/G (t*e.2.2+e.2.1*b') (b'*e.2.2)) (b'*e.2.2/G (t*e.2.2+e.2.1*b') (b'*e.2.2)) (NW M ((ys++es).take (ys.length+j)) e.1+nOf M e):=by
    have n':nOf M e=NW M cs e.1:=tF (x:=e.1) M0 e3;rw [n',ey];have e3':=e3;rw [ey] at e3';exact fr.plus e3'
   obtain ⟨ks',da',kl'⟩:=(da3.keep s4.tk).step hx h4 frn;rw [ey] at da';refine ⟨_,rfl,_,rfl,p,_,rfl,DPut.k (k:=AQ y) hp4 (bQ (by rw [da.1.len];lia)),?_⟩;refine hN _ _ ⟨_,_,ks',rfl,λc o nc hc=>?_,aD,da'.keep (Tk.dk hp4),by lia⟩;rw [aJ nc];exact s4 _ _ (w1 _ _ (s2 c o nc hc))
  ·rintro σ H2 ⟨v6,kvs,ks,rfl,s2,hp2,da,kl2⟩
   have dm2:=s2 _ _ (Bi pm) aD;refine ⟨dm,ob,kvm,dm2,(λo u z=>by have z':H dm=some (.frz o u):=z;rw [m.hm] at z';cases z'),?_⟩;have s3:Same H (upd H2 dm (.dK kvm)):=λc o hc=>by
    by_cases n:c=dm
    ·subst n
     rw [m.hm] at hc;rw [aD];exact hc
    ·have ncp:c≠p:=λz=>by rw [z,np] at hc;cases hc
     rw [aJ n];exact s2 c o ncp (by rw [aJ n];exact s1 _ _ hc)
   have hp3:upd H2 dm (.dK kvm) p=some (.dK kvs):=by rw [aJ pm];exact hp2
   have da3:DA (upd H2 dm (.dK kvm)) M (ys++es) kvs ks:=by
    rw [kl,<- el,<- As,AN] at da;exact da.keep λc zs hc=>by
     have n:c≠dm:=λz=>by rw [z,dm2] at hc;cases hc
     rw [aJ n];exact hc
   generalize upd H2 dm (.dK kvm)=H3 at s3 hp3 da3 ⊢;refine ⟨_,rfl,p,kvs,ks,M,ys++es,rfl,hp3,da3,M0,m.bm,oye,bT,λli t b' H4 s4 hli fr=>?_⟩;have s04:=s3.trans s4;have bn4:=bn.keep s04;obtain ⟨t_le,b_le⟩:=dH M0 fr;have bb:=fr.am.b1;have bt:Bt 4000 t:=(bT.le fr.am.t0 t_le).mono;have bb':Bt 4000 b':=(m.bm.le (by lia) b_le).mono;obtain ⟨rv,hrv⟩:∃ rv,rs[i]?=some rv:=⟨_,Ae (by rw [<- m.sl];exact (Ac.mp m.di).1)⟩;obtain ⟨rb',hrb',ra,rfl,hra,rmm⟩:=m.bs.rm.get hrv;rw [m.rbi] at hrb';cases hrb';have tw:Tw K H4 ra li rb.1 rb.2 t b':=⟨Gv (s04 _ _ hra),Gv hli,⟨by have:=rmm.t1;lia,rmm.b1,rmm.g⟩,fr.am,rmm.st.mono,rmm.sb.mono,bt,bb'⟩;have frr:Fr rb.2 rb.1 rb.2 rb.1:=aAe rmm;refine ⟨b,_,_,rfl,Gv bn4.hp,rfl,_,rfl,r,_,(i:Int),.ref ra,rfl,rfl,Gv bn4.hr,aU hrv,_,rfl,ra,li,rb.1,rb.2,t,b',rfl,tw,_,rfl,?_⟩;rw [aAf M0 fr];refine ite2 (λc=>?_) (λc=>?_)
   ·have c':rb.1*M<sumN M (ys++es)*rb.2:=of_decide_eq_true c
    obtain ⟨le,fo⟩:=fT (M1:=M) (M2:=rb.2) M0 (by have:=rmm.b1;lia) fr frr (by lia);refine ⟨_,rfl,_,rfl,b,_,_,rfl,Gv bn4.hp,rfl,_,rfl,r,_,(i:Int),.ref ra,rfl,rfl,Gv bn4.hr,aU hrv,li,ra,t,b',rb.1,rb.2,rfl,tw.flip,le,λpo H5 s5 h5=>⟨zLn3,λt3 nt3=>⟨zLn2,λz nz=>?_⟩⟩⟩;have s6:=Gu (o:=.tup [.str "spilt",.int ((i:Nat):Int),.ref po]) nt3;have s7:=Gu (o:=.tup [.ref t3,.non]) nz;exact kS c' z t3 po _ _ _ (((s04.trans s5).trans s6).trans s7) aD (s7 _ _ aD) ((s6.trans s7) _ _ h5) fo
   ·have c':¬ rb.1*M<sumN M (ys++es)*rb.2:=of_decide_eq_false (by simpa using c)
    refine ⟨_,rfl,_,rfl,l,_,(i:Int),.ref a,rfl,rfl,Gw (s04 _ _ hl),aU hv,a,_,1,.ref nn,rfl,rfl,Gv (s04 _ _ ha),rfl,nn,_,rfl,.inr (Gv (s04 _ _ hnn)),λc1 nc1=>?_⟩;have w1:=Gu (o:=.lst (d.2.map V.str)) nc1;refine ⟨_,rfl,nm,_,rfl,m.hn.imp (λh=>(s04.trans w1).seq h) (λh=>(s04.trans w1).tup h),λc2 nc2=>?_⟩;have w2:=Gu (o:=.lst (xs.map V.str)) nc2;have nl:d.2.length<=6:=Bj ((fQ okd.srt).length_le_of_subset okd.nin) m.bs.ww.l;have xl:=m.xl;refine ⟨c1,c2,_,_,rfl,rfl,w2 _ _ aD,aD,bP (by rw [Ag,Ag];lia),λc3 nc3=>?_⟩;have ll:(d.2++xs).length<=30:=by rw [As];lia
    refine ⟨c3,d.2++xs,rfl,Gw (by rw [AW];exact aD),by lia,λp2 np2=>⟨p2,_,rfl,aD,DS (SX.ddl_len _) (by lia),λp3 nm' pm' so np3=>⟨p3,_,rfl,.inl ⟨Gw aD,λp4 np4=>?_⟩⟩⟩⟩;have u:=aD9 pm' so;have w4:=Gu (o:=.tup (nm'.map V.str)) np4;have w:=((((w1.trans w2).trans (Gu nc3)).trans (Gu np2)).trans (Gu (o:=.lst (nm'.map V.str)) np3)).trans w4;have bn5:=bn4.keep w;obtain ⟨kT,kO⟩:=kG c' nm' u;refine ⟨b,_,_,rfl,Gv bn5.hp,rfl,q,rfl,⟨_,Gv bn5.hq⟩,?_⟩;refine mS (xs:=us) (λj σ H'=>∃ v9:Gr,σ=[some (.ref b),some (.ref l),some (.int ((i:Nat):Int)),some (.ref dm),some (.ref nm),some (.ref p),v6,some (.ref li),some (.ref p4),v9,none]/\pairOf us ps nm'=pairOf (us.drop j) (ps.drop j) nm'/\Same H4 H'/\H' p4=some (.tup (nm'.map V.str))) ⟨none,rfl,rfl,w,aD⟩ ?_ ?_ ?_
    ·rintro j σ H' hj ⟨_,rfl,_,s',_⟩
     exact Gv (s' _ _ bn4.hq)
    ·rintro j v' σ H5 hv' ⟨v9,rfl,e,s5,h5⟩
     obtain ⟨y,hy⟩:∃ y,ps[j]?=some y:=⟨_,Ae (by rw [<- bn4.pt.1];exact (Ac.mp hv').1)⟩;obtain ⟨z,rfl,hz⟩:=bn4.pt.2 j v' y hv' hy;have hz':SqT K H5 z [.str y.1,.str y.2]:=Gv (s5 _ _ hz);have hn5:SqT K H5 p4 (nm'.map V.str):=Gv h5;rw [kK hv' hy] at e;refine ⟨z,_,_,rfl,hz',rfl,_,rfl,p4,_,rfl,.inr hn5,rfl,fP nm',_,rfl,ite2 (λh1=>?_) (λh1=>?_)⟩
     ·have m1:=eJ.mp h1
      refine ⟨z,_,_,rfl,hz',rfl,_,rfl,p4,_,rfl,.inr hn5,rfl,fP nm',_,rfl,ite2 (λh2=>?_) (λh2=>?_)⟩
      ·rw [if_pos ⟨m1,eJ.mp h2⟩] at e
       refine ⟨_,rfl,_,rfl,zLn3,λt3 nt3=>⟨zLn2,λzz nzz=>?_⟩⟩;have s6:=Gu (o:=.tup [.str "touch",.int ((i:Nat):Int),.ref z]) nt3;have s7:=Gu (o:=.tup [.ref t3,.non]) nzz;exact kT z e zz t3 _ (((s04.trans s5).trans s6).trans s7) aD (s7 _ _ aD)
      ·rw [if_neg λz=>h2 (eJ.mpr z.2)] at e
       exact ⟨_,rfl,e,s5,h5⟩
     ·rw [if_neg λz=>h1 (eJ.mpr z.1)] at e
      exact ⟨_,rfl,e,s5,h5⟩
    ·rintro σ H5 ⟨v9,rfl,e,s5,h5⟩
     rw [List.drop_length,iD] at e;have kO':=kO e;have s05:=s04.trans s5;refine ⟨_,rfl,l,_,rfl,.inl (Gw (s05 _ _ hl)),λl' nl'=>?_⟩;obtain ⟨H6,eH6,w6,hl6⟩:=updX (o:=.lst vs) nl';rw [eH6];obtain ⟨zs,ez,ek⟩:=aHk da3.1.keys;have hp6:H6 p=some (.dK (txK zs)):=by rw [<- ez];exact w6 _ _ (s5 _ _ (s4 _ _ hp3))
     have zl:zs.length=ks.length:=by rw [<- ek,Ag]
     have da6:=((da3.keep s4.tk).keep s5.tk).keep w6.tk;refine ⟨_,rfl,p,zs,rfl,hp6,by rw [ek];exact da3.1.nd,by lia,λq1 as zs' H7 s7 pz srt al ht hq1=>?_⟩;have zv:∀ z∈zs',∃ q t b,z.2=.ref q/\H7 q=some (.tup [.int t,.int b])/\Fr M t b (NW M (ys++es) z.1):=λz hz=>by
      have mz:=pz.mem_iff.mp hz;have mk:((AQ z.1:Key),z.2)∈kvs:=by rw [ez];exact AK.mpr ⟨z,mz,rfl⟩
      have nk:(kvs.map (·.1)).Nodup:=by rw [da3.1.keys];exact CJ.mpr (da3.1.nd.imp λh e=>h (AQ.inj e))
      have vz:=pG nk mk;obtain ⟨q',t',b2,f1,f2,f3⟩:=da6.2.2 z.1 (by rw [<- ek];exact Cu mz);have vz':valV kvs (AQ z.1)=some z.2:=vz;rw [f1] at vz';exact ⟨q',t',b2,(AA vz').symm,s7 _ _ f2,f3⟩
     obtain ⟨yn,py,ny,fy⟩:=tQ al ht zv;refine ⟨q1,_,rfl,.inl ⟨Gw hq1,λtz ntz=>⟨_,rfl,zLn2,λzt nzt=>?_⟩⟩⟩;have w8:=Gu (o:=.tup (as.map V.ref)) ntz;have w9:=Gu (o:=.tup [.ref tz,.ref p4]) nzt;have w79:=(s7.trans w8).trans w9;have il:=(Ac.mp hv).1;have lz:l'≠zt:=λe=>by rw [<- e,(s7.trans w8) _ _ hl6] at nzt;cases nzt
     refine ⟨_,rfl,_,rfl,l',vs,(i:Int),i,rfl,rfl,w79 _ _ hl6,gF il,?_⟩;refine ⟨_,rfl,zLn2,λzz nzz=>?_⟩;have nl0:H l'=none:=sm0 s05 nl';have sF:Same H (upd (upd (upd (upd H7 tz (.tup (as.map V.ref))) zt (.tup [.ref tz,.ref p4])) l' (.lst (vs.set i (.ref zt)))) zz (.tup [.non,.ref l'])):=λc o hc=>by
      have h1:=((s05.trans w6).trans w79) _ _ hc;have ncl:c≠l':=λz=>by rw [z,nl0] at hc;cases hc
      exact (Gu nzz) _ _ (by rw [aJ ncl];exact h1)
     have sG:∀ c o,c≠l'->upd (upd H7 tz (.tup (as.map V.ref))) zt (.tup [.ref tz,.ref p4]) c=some o->upd (upd (upd (upd H7 tz (.tup (as.map V.ref))) zt (.tup [.ref tz,.ref p4])) l' (.lst (vs.set i (.ref zt)))) zz (.tup [.non,.ref l']) c=some o:=λc o n hc=>(Gu nzz) _ _ (by rw [aJ n];exact hc);have tkG:Tk (upd (upd H7 tz (.tup (as.map V.ref))) zt (.tup [.ref tz,.ref p4])) (upd (upd (upd (upd H7 tz (.tup (as.map V.ref))) zt (.tup [.ref tz,.ref p4])) l' (.lst (vs.set i (.ref zt)))) zz (.tup [.non,.ref l'])):=λc ts hc=>sG c _ (λz=>by rw [z,w79 _ _ hl6] at hc;cases hc) hc;refine kO' zz l' _ sF nl0 aD (m.st.put hl sF ((Gu nzz) _ _ aD) ⟨zt,tz,p4,as.map V.ref,yn,rfl,tkG _ _ aD,tkG _ _ (w9 _ _ aD),py.keep (λc ts hc=>tkG _ _ ((w8.trans w9) _ _ hc)),?_,tkG _ _ ((w6.trans w79) _ _ h5)⟩);have memk:∀ y,y∈yn.map (·.1)↔y∈(ys++es).map (·.1):=λy=>by
      rw [ny,(pz.map (·.1)).mem_iff,ek,da3.2.1]
     refine ⟨?_,?_,λy=>?_,λz hz=>?_⟩
     ·rw [ny,CJ]
      exact srt.imp λh=>List.le_of_lt h
     ·rw [ny,(pz.map (·.1)).nodup_iff,ek]
      exact da3.1.nd
     ·rw [memk]
      show _↔d.1 y+NW M cs y≠0;rw [<- nwT];constructor
      ·intro hy
       rw [nwT];have h1:=okd.nn y;have h2:=aHd M0 m.oc y;rw [AW,Bm] at hy
       rcases hy with hy|hy
       ·have:=(mx.mem y).mp hy
        lia
       ·have:=m.cp y (by rw [<- ee];exact hy)
        lia
      ·intro h
       exact Br λz=>h (eE z)
     ·have:=fy z hz
      rw [nwT] at this;exact this
end
end K53
namespace L2
open PySem.W
section
variable {X:Cx}
def yD (hu:X.A.units+64<cLine):OpR X (BW .Eq) (λx y H Q=>∃ a b xs,x=.ref a/\y=.ref b/\SqT X.K H a xs/\SqT X.K H b []/\Q (.bl xs.isEmpty) H):=by
 intro Z s σ H x y v u Q I rx ry h;obtain ⟨a,b,xs,rfl,rfl,ha,hb,q⟩:=h;cases rx;cases ry;obtain ⟨its,r,p,_⟩:=I.tuple ha;obtain ⟨its',r',p',_⟩:=I.tuple hb;cases r';obtain ⟨o,o1,o2,n,o3⟩:=p;obtain ⟨o',o1',o2',n',o3'⟩:=p';have key:=SeqAt.RcAt.tuples (A:=X.A) (s:=s) (l:=a) (b:=b) (items:=its.toArray) (items2:=#[]) (e:=λ_=>true) ⟨o,o1,o2,n,o3⟩ ⟨o',o1',o2',n',o3'⟩ (by lia) (λj h1 h2=>absurd h2 (by simp));cases r with
 |nil=>exact key X.prog X.w X.xe _ ⟨.bl _,H,I,rfl,q⟩
 |cons r t=>exact key X.prog X.w X.xe _ ⟨.bl _,H,I,rfl,q⟩
end
end L2
namespace K53
open L2 GM TM
def tW {M N t1 b1 t2 b2:Int}(M0:0<M)(h:Fr M t1 b1 N)(h2:Amt t2 b2):Fr (M*b2) (t1*t2/G (t1*t2) (b1*b2)) (b1*b2/G (t1*t2) (b1*b2)) (N*t2):=by
 have a1:=h.am.b1;have a2:=h2.b1;have n1:=Bu h.am.t0 h2.t0;have hb:1<=b1*b2:=mul1 a1 a2;refine ⟨iF n1 hb,?_⟩;have crs:=fO (t1*t2) (b1*b2);generalize t1*t2/G (t1*t2) (b1*b2)=x at *
 generalize b1*b2/G (t1*t2) (b1*b2)=y at *
 refine BM (show b1*b2≠0 by lia) ?_
 calc x*(M*b2)*(b1*b2)=(x*(b1*b2))*(M*b2):=by rw [AV]
  _=((t1*t2)*y)*(M*b2):=by rw [crs]
  _=(t1*M)*(t2*y*b2):=by grind
  _=(N*b1)*(t2*y*b2):=by rw [h.e]
  _=N*t2*y*(b1*b2):=by grind
def IntoL.mono {us:Gq}{ps:Gf}{ws:Gh}{M:Int}{S:List PF}{i:Nat}{d:PF}{rb:Int×Int}{add:Str->Int}{xs:Gh}{H H1:Hp}{Q:VK}(s:Same H H1)(h:IntoL us ps ws M S i d rb add xs H Q):IntoL us ps ws M S i d rb add xs H1 Q:=
 ⟨λc z t3 a t b H' s'=>h.1 c z t3 a t b H' (s.trans s'),λc nm' u=>⟨λpa e z t3 H' s'=>(h.2 c nm' u).1 pa e z t3 H' (s.trans s'),λe z l' H' s' nl=>(h.2 c nm' u).2 e z l' H' (s.trans s') (sm0 s nl)⟩⟩
theorem aDg {t:Int}(h:Amt t t):t=1:=by
 have g:=h.g;unfold G at g;rw [Int.gcd_self] at g;have:=h.t0;lia
def zf (t b:Int)(y:Str×Int×Int):Str×Int×Int:=(y.1,y.2.1*t/G (y.2.1*t) (y.2.2*b),y.2.2*b/G (y.2.1*t) (y.2.2*b))
def rf (t b:Int)(y:Str×Int×Int):Str×Int×Int:=(y.1,(y.2.1*(zf t b y).2.2-(zf t b y).2.1*y.2.2)/G (y.2.1*(zf t b y).2.2-(zf t b y).2.1*y.2.2) (y.2.2*(zf t b y).2.2),y.2.2*(zf t b y).2.2/G (y.2.1*(zf t b y).2.2-(zf t b y).2.1*y.2.2) (y.2.2*(zf t b y).2.2))
def aBh {M N t b:Int}{y:Str×Int×Int}(M0:0<M)(h:Fr M y.2.1 y.2.2 N)(a:Amt t b):Fr (M*b) (zf t b y).2.1 (zf t b y).2.2 (N*t):=tW M0 h a
def aIg {M N t b:Int}{y:Str×Int×Int}(M0:0<M)(h:Fr M y.2.1 y.2.2 N)(a:Amt t b)(tb:t<=b):(zf t b y).2.1*y.2.2<=y.2.1*(zf t b y).2.2/\Fr (M*b) (rf t b y).2.1 (rf t b y).2.2 (N*b-N*t):=by
 have b0:0<b:=by have:=a.b1;lia
 have Mb:0<M*b:=Ce M0 b0;have f1:Fr (M*b) y.2.1 y.2.2 (N*b):=jD h M0 (by rw [BK M b,<- BX]);have f2:=aBh M0 h a;have n0:=h.nonneg M0;have le:N*t*(M*b)<=N*b*(M*b):=EW (CV tb n0) (EX Mb);obtain ⟨l,fo⟩:=fT Mb Mb f1 f2 le;exact ⟨l,jD fo (Ce Mb Mb) (by grind)⟩
def RefL (wd:Str)(i:Nat)(H:Hp)(Q:VK):Prop:=∀ z t3 H',Same H H'->H' z=some (.tup [.ref t3,.non])->H' t3=some (.tup [.str wd,.int ((i:Nat):Int),.non])->Q (.ref z) H'
inductive spPoured (K:Ab)(vs:Gq)(H:Hp)(Q:VK)(Ex:XK):Prop
 |mk (b r q l a rs us ps rbs ws M S β i j t b' di dj rbj:_) (e0:vs=[.ref b,.ref l,.ref a]) (e1:OnIn H b r q l rs us ps rbs ws M S β) (e2:RwV H a (.pour i j t b')) (e3:GoodR rs.length ws (.pour i j t b')) (e4:S[i]?=some di) (e5:S[j]?=some dj) (e6:rbs[j]?=some rbj) (e7:((∀ y,di.1 y=0)->RefL "dry" i H Q)) (e8:(¬ (∀ y,di.1 y=0)->IntoL us ps ws (M*b') ((scl b' S).set i (λy=>di.1 y*b'-di.1 y*t,di.2)) j (λy=>dj.1 y*b',dj.2) rbj (λy=>di.1 y*t) di.2 H Q)):spPoured K vs H Q Ex
section
variable {P:Aw}{w:World}{K:Ab}{mg:Gb}{base:Heap}
abbrev Npou:Gh:=["_law_bench","_law_state","_law_row_here","_law_held","_law_names_here","_law_out","_law_rest","_law_ware","_law_much","_law_found"]
def nN:FnScope Npou ["_law_bench","_law_state","_law_row_here"] (aG pU):=fnScOk
def yJ {f:Gj}{fd:Ay}(F:Fun K "_law_poured" "_law_poured" pU f fd)(T:Txt mg)(cB:Cal P w K mg base CX0 4 "_law_by" ["_law_one","_law_other"] (spBy K))(cT:Cal P w K mg base CX0 4 "_law_take" ["_law_one","_law_other"] (spTake K))(cI:Cal P w K mg base CX0 4 "_law_into" ["_law_bench","_law_state","_law_phial","_law_more","_law_names_here"] (spInto K)):FnOk P w K mg base CX0 5 f fd ["_law_bench","_law_state","_law_row_here"] (spPoured K):=by
 refine F.okA nN (λcdv A outer s H vs Q E hr h=>?_)
 ·obtain ⟨b,r,q,l,a,rs,us,ps,rbs,ws,M,S,β,i,j,t,b',di,dj,rbj,rfl,o,⟨qa,hra,hqa⟩,⟨g1,g2,g3,g4,g5,g6⟩,hdi,hdj,hrj,kD,kI⟩:=h
  refine ⟨_,(aC (fK (aZ aX (pv 1) (pit 2 1) (λ_ _=>rfl)) (fM rfl (bE (aQ (i:=3) nN.nd) (bE (aQ (i:=4) nN.nd) dY))))
   (aC (bD (aM (yD hr.units) (pv 3) (aT aB))
    (aE (aL (aT (aA (aT (aA aR (aA (pit 2 1) (aA dI aB)))) (aA dI aB)))))
    aS)
   (aC (aK (i:=5) nN.nd mG)
   (aC (aK (i:=6) nN.nd (cZ aB))
   (aC (bR AJ rfl (iL (pv 3)) (fM rfl (bE (aQ (i:=7) nN.nd) (bE (aQ (i:=8) nN.nd) dY)))
    (aC (mF (iR hr) (pv 5) (pv 7) (aI cB hr (aA (pv 8) (aA (pit 2 3) aB))) rfl)
    (aE (bD (aM (xY hr.units) (pit 2 3) (aT (aA aH (aA aH aB))))
     (aE (cV (iP Bk Bb Ba bO (pv 6) (aA (aT (aA (pv 7) (aA (aI cT hr (aA (pv 8) (aA (kH (iR hr) (pv 5) (pv 7) (λ_ _=>rfl)) aB))) aB))) aB))))
     aS))))
   (aC (aK (i:=9) nN.nd (aY bC rfl T.list' dS (aA (pv 1) aB)))
   (aC (fK (aT (aA (aY bG rfl T.tup' dG (aA (pv 6) aB)) (aA (pv 4) aB))) (jZ (pv 9) (pit 2 1) set_list))
   (aE (aL (aI cI hr (aA (pv 0) (aA (pv 9) (aA (pit 2 2) (aA (pv 5) (aA (pv 4) aB))))))))))))))),?_⟩
  obtain ⟨vs,v,hl,vl,hv,a1,mm,nn,ms,ys,rfl,ha1,hmm,pr,mx,hnn⟩:=o.st.get hdi;have okd:=o.so.ok di (Ao hdi);have M0:=o.so.m0;have b0:0<b':=by have:=g4.am.b1;lia
  have sqr:=Gv (K:=K) hra;have pl:=pr.length;refine ⟨_,rfl,a,_,_,rfl,sqr,rfl,l,_,(i:Int),.ref a1,rfl,rfl,Gw hl,aU hv,?_⟩;refine ⟨a1,_,rfl,Gv ha1,rfl,_,_,rfl,_,_,rfl,rfl,?_⟩;refine ⟨_,rfl,zLn0,λz0 nz0=>⟨mm,z0,_,rfl,rfl,Gv ((Gu nz0) _ _ hmm),Gv aD,_,rfl,ite2 (λc=>?_) (λc=>?_)⟩⟩
  ·have em:ms=[]:=by
    cases ms with
    |nil=>rfl
    |cons u r=>exact absurd c (by show ¬ (false=true);decide)
   have z:∀ y,di.1 y=0:=(fN mx).mp (AY.mp (by rw [<- pl,em];rfl));have s1:=Gu (o:=.tup []) nz0;refine ⟨a,_,_,rfl,Gv (s1 _ _ hra),rfl,zLn3,λt3 nt3=>⟨zLn2,λzz nzz=>?_⟩⟩;have s2:=Gu (o:=.tup [.str "dry",.int ((i:Nat):Int),.non]) nt3;have s3:=Gu (o:=.tup [.ref t3,.non]) nzz;exact kD z zz t3 _ ((s1.trans s2).trans s3) aD (s3 _ _ aD)
  ·have ne:¬ (∀ y,di.1 y=0):=λz=>by
    have:=(fN mx).mpr z;subst this;have:ms=[]:=AY.mp pl;subst this;exact absurd rfl c
   have kI':=kI ne;obtain ⟨H1,eH1,s1,_⟩:=updX (o:=.tup []) nz0;rw [eH1];intro od nod;have s2:=Gu (o:=.dK []) nod;refine ⟨zLn0,λrl nrl=>?_⟩;have s3:=Gu (o:=.lst []) nrl;have ho3:upd (upd H1 od (.dK [])) rl (.lst []) od=some (.dK []):=s3 _ _ aD;have hr3:upd (upd H1 od (.dK [])) rl (.lst []) rl=some (.lst []):=aD;have or':od≠rl:=λe=>by rw [<- e,aD] at nrl;cases nrl
   have s03:=(s1.trans s2).trans s3;have od0:H od=none:=sm0 s1 nod;have rl0:H rl=none:=sm0 (s1.trans s2) nrl;generalize upd (upd H1 od (.dK [])) rl (.lst [])=H3 at s03 ho3 hr3 ⊢;refine ⟨_,rfl,mm,rfl,⟨_,Gv (s03 _ _ hmm)⟩,?_⟩;have am:=g4.am;have fy:∀ y∈ys,Fr M y.2.1 y.2.2 (di.1 y.1):=mx.fr;have Mb:0<M*b':=Ce M0 b0;have zm:(ys.map (zf t b')).map (·.1)=ys.map (·.1):=by rw [Cb];rfl
   have rmm:(ys.map (rf t b')).map (·.1)=ys.map (·.1):=by rw [Cb];rfl
   have fz:∀ z∈ys.map (zf t b'),Fr (M*b') z.2.1 z.2.2 (di.1 z.1*t):=λz hz=>by
    obtain ⟨y,hy,rfl⟩:=AK.mp hz;exact aBh M0 (fy y hy) am
   have frr:∀ z∈ys.map (rf t b'),Fr (M*b') z.2.1 z.2.2 (di.1 z.1*b'-di.1 z.1*t):=λz hz=>by
    obtain ⟨y,hy,rfl⟩:=AK.mp hz;exact (aIg M0 (fy y hy) am g6).2
   have nwz:∀ y,NW (M*b') (ys.map (zf t b')) y=di.1 y*t:=λy=>by
    rw [gW Mb (f:=λy=>di.1 y*t) (by rw [zm];exact mx.nd) fz,zm]
    by_cases c:y∈ys.map (·.1)
    ·rw [if_pos c]
    ·rw [if_neg c]
     have:di.1 y=0:=Br λh=>c ((mx.mem y).mpr h);rw [this,BV]
   have yl:ys.length<=6:=Bj (zB mx okd.inw) o.bs.ww.l;refine mS (xs:=ms) (λk σ H'=>∃ (v7 v8:Gr) (kvs:Gp) (ks:Gh) (rvs:Gq),σ=[some (.ref b),some (.ref l),some (.ref a),some (.ref mm),some (.ref nn),some (.ref od),some (.ref rl),v7,v8,none]/\(∀ c o,c≠od->c≠rl->H3 c=some o->H' c=some o)/\H' od=some (.dK kvs)/\DA H' (M*b') ((ys.map (zf t b')).take k) kvs ks/\ks.length<=k/\H' rl=some (.lst rvs)/\PrL H' rvs (if ([t,b']:List Int)=[1,1] then [] else (ys.map (rf t b')).take k)/\rvs.length<=k)
    ⟨none,none,[],[],[],rfl,λ_ _ _ _ h=>h,ho3,⟨.nil,λy=>by simp,λy hy=>by simp at hy⟩,Aj _,hr3,by rw [List.take_zero];split<;>exact .nil,Aj _⟩ ?_ ?_ ?_
   ·rintro k σ H' hk ⟨_,_,_,_,_,rfl,sm,_⟩
    exact Gv (sm _ _ (λe=>by rw [e,od0] at hmm;cases hmm) (λe=>by rw [e,rl0] at hmm;cases hmm) (s03 _ _ hmm))
   ·rintro k v' σ H4 hv' ⟨v7,v8,kvs,ks,rvs,rfl,s4,ho4,da,kl,hr4,pr4,rvl⟩
    obtain ⟨y,hy,pp,qq,rfl,h1,h2⟩:=pr.get hv';have kp:∀ c o,H c=some o->H4 c=some o:=λc o hc=>s4 c o (λe=>by rw [e,od0] at hc;cases hc) (λe=>by rw [e,rl0] at hc;cases hc) (s03 _ _ hc);have ym:=Ao hy;have kl6:k<6:=by have:=(Ac.mp hy).1;lia
    have fyy:=fy y ym;have hz:(ys.map (zf t b'))[k]?=some (zf t b' y):=by rw [Aq,hy];rfl
    have hrf:(ys.map (rf t b'))[k]?=some (rf t b' y):=by rw [Aq,hy];rfl
    obtain ⟨lef,frf⟩:=aIg M0 fyy am g6;have fzz:=aBh M0 fyy am;obtain ⟨vi,hvi⟩:∃ vi,rs[i]?=some vi:=⟨_,Ae g1⟩;obtain ⟨rbi,hri,_,_,_,rmi⟩:=o.bs.rm.get hvi;obtain ⟨tn,tb⟩:=o.so.small hdi hri rmi;have b24:=o.b24;have yS:di.1 y.1<=tot ws di.1:=by
     have e1:=(hV o.bs.ww.nd mx okd.inw);have e2:=(rG M0 mx.over ys.length y.1).2;rw [AN,mx.nw] at e2;lia
    have ynn:=okd.nn y.1;have by1:Bt 2600 (di.1 y.1):=(tb.le ynn yS).mono (by lia);have fsm:=dH M0 fyy;have bM:=o.so.bm;have b1:Bt 4000 y.2.1:=(by1.le fyy.am.t0 fsm.1).mono;have b2:Bt 4000 y.2.2:=(bM.le (by have:=fyy.am.b1;lia) fsm.2).mono (by lia);have zsm:=dH Mb fzz;have b3:Bt 4000 (zf t b' y).2.1:=((by1.mul g4.bt).le fzz.am.t0 zsm.1).mono;have b4:Bt 4000 (zf t b' y).2.2:=((bM.mul g4.bb).le (by have:=fzz.am.b1;lia) zsm.2).mono (by lia);refine ⟨pp,_,rfl,Gv (kp _ _ h1),rfl,_,_,rfl,_,_,rfl,rfl,?_⟩;have tw1:Tw K H4 qq qa y.2.1 y.2.2 t b':=⟨Gv (kp _ _ h2),Gv (kp _ _ hqa),fyy.am,am,b1,b2,g4.bt.mono,g4.bb.mono⟩;refine ⟨_,rfl,a,_,_,rfl,Gv (kp _ _ hra),rfl,qq,qa,y.2.1,y.2.2,t,b',rfl,tw1,λr' H5 s5 h5=>?_⟩;have ho5:=s5 _ _ ho4;have yk:y.1∉((ys.map (zf t b')).take k).map (·.1):=λhm=>by
     rw [List.map_take,zm] at hm;obtain ⟨n,hn⟩:=CY hm;rw [List.getElem?_take] at hn;split at hn
     ·rename_i lt
      rw [Aq] at hn;obtain ⟨y',hy',e⟩:=Bg.mp hn;have:=(List.getElem?_inj (l:=ys.map (·.1)) (i:=n) (j:=k) (by rw [Ag];have:=(Ac.mp hy').1;lia) mx.nd).mp (by rw [Aq,Aq,hy',hy];exact congrArg some e);lia
     ·cases hn
    have frn:Fr (M*b') (zf t b' y).2.1 (zf t b' y).2.2 (NW (M*b') ((ys.map (zf t b')).take k) (zf t b' y).1+nOf (M*b') (zf t b' y)):=by
     rw [eE (y:=(zf t b' y).1) yk,Int.zero_add,tF (x:=(zf t b' y).1) Mb fzz];exact fzz
    obtain ⟨ks',da',kl'⟩:=(da.keep s5.tk).step hz h5 frn;refine ⟨_,rfl,_,rfl,od,_,rfl,DPut.k (k:=AQ y.1) ho5 (bQ (by rw [da.1.len];lia)),?_⟩;have tk6:Tk H5 (upd H5 od (.dK (putK kvs (AQ y.1) (.ref r')))):=Tk.dk ho5;have da6:=da'.keep tk6;have ho6:upd H5 od (.dK (putK kvs (AQ y.1) (.ref r'))) od=some (.dK (putK kvs (AQ y.1) (.ref r'))):=aD;have hr6:upd H5 od (.dK (putK kvs (AQ y.1) (.ref r'))) rl=some (.lst rvs):=by rw [aJ (Bi or')];exact s5 _ _ hr4
    have k6:∀ c o,c≠od->c≠rl->H4 c=some o->upd H5 od (.dK (putK kvs (AQ y.1) (.ref r'))) c=some o:=λc o n1 n2 hc=>by rw [aJ n1];exact s5 _ _ hc
    have kp6:∀ c o,H c=some o->upd H5 od (.dK (putK kvs (AQ y.1) (.ref r'))) c=some o:=λc o hc=>k6 c o (λe=>by rw [e,od0] at hc;cases hc) (λe=>by rw [e,rl0] at hc;cases hc) (kp c o hc);have pr6:PrL (upd H5 od (.dK (putK kvs (AQ y.1) (.ref r')))) rvs (if ([t,b']:List Int)=[1,1] then [] else (ys.map (rf t b')).take k):=(pr4.keep s5.tk).keep tk6;have h6:upd H5 od (.dK (putK kvs (AQ y.1) (.ref r'))) r'=some (.tup [.int (zf t b' y).2.1,.int (zf t b' y).2.2]):=tk6 _ _ h5;have vk:valV (putK kvs (AQ y.1) (.ref r')) (AQ y.1)=some (.ref r'):=by rw [lS,if_pos rfl]
    generalize upd H5 od (.dK (putK kvs (AQ y.1) (.ref r')))=H6 at da6 ho6 hr6 k6 kp6 pr6 h6 ⊢;refine ⟨a,_,_,rfl,Gv (kp6 _ _ hra),rfl,zLn2,λz1 nz1=>⟨qa,z1,[t,b'],[1,1],rfl,rfl,Gv ((Gu nz1) _ _ (kp6 _ _ hqa)),Gv aD,_,rfl,?_⟩⟩;obtain ⟨H7,eH7,w1,_⟩:=updX (o:=.tup [.int 1,.int 1]) nz1;rw [eH7];refine ite2 (λc2=>?_) (λc2=>?_)
    ·have n11:¬ ([t,b']:List Int)=[1,1]:=λe=>by rw [decide_eq_true e] at c2;cases c2
     have dg:DGet H7 od (.str y.1) (some (.ref r')):=.inl ⟨_,.inr y.1,.inl (w1 _ _ ho6),rfl,vk.symm⟩;have tw2:Tw K H7 qq r' y.2.1 y.2.2 (zf t b' y).2.1 (zf t b' y).2.2:=⟨Gv (w1 _ _ (kp6 _ _ h2)),Gv (w1 _ _ h6),fyy.am,fzz.am,b1,b2,b3,b4⟩;refine ⟨_,rfl,.inl ⟨rfl,_,Gw (w1 _ _ hr6)⟩,_,rfl,_,rfl,_,rfl,_,rfl,od,_,rfl,dg,qq,r',y.2.1,y.2.2,(zf t b' y).2.1,(zf t b' y).2.2,rfl,tw2,lef,λr2 H8 s8 h8=>⟨zLn2,λpz npz=>?_⟩⟩;have w9:=Gu (o:=.tup [.str y.1,.ref r2]) npz;have w79:=(w1.trans s8).trans w9;have hr9:=w79 _ _ hr6;refine ⟨rl,rvs,_,rfl,rfl,hr9,bQ (by lia),?_⟩;have tkr:Tk (upd H8 pz (.tup [.str y.1,.ref r2])) (upd (upd H8 pz (.tup [.str y.1,.ref r2])) rl (.lst (rvs++[.ref pz]))):=λc ts hc=>by
      rw [aJ λe=>by rw [e,hr9] at hc;cases hc];exact hc
     refine ⟨_,_,_,ks',rvs++[.ref pz],rfl,λc o n1 n2 hc=>?_,?_,(da6.keep w79.tk).keep tkr,by lia,aD,?_,by rw [As,Bo];lia⟩
     ·rw [aJ n2]
      exact w79 _ _ (k6 c o n1 n2 (s4 c o n1 n2 hc))
     ·rw [aJ or']
      exact w79 _ _ ho6
     ·rw [if_neg n11] at pr6 ⊢
      rw [Dd,hrf];exact ((pr6.keep w79.tk).keep tkr).snoc ⟨pz,r2,rfl,tkr _ _ aD,tkr _ _ (w9 _ _ h8)⟩
    ·have e11:([t,b']:List Int)=[1,1]:=Br λe=>c2 (by rw [decide_eq_false e];rfl)
     refine ⟨_,_,_,ks',rvs,rfl,λc o n1 n2 hc=>w1 _ _ (k6 c o n1 n2 (s4 c o n1 n2 hc)),w1 _ _ ho6,da6.keep w1.tk,by lia,w1 _ _ hr6,?_,by lia⟩;rw [if_pos e11] at pr6 ⊢;exact pr6.keep w1.tk
   ·rintro σ H4 ⟨v7,v8,kvs,ks,rvs,rfl,s4,ho4,da,kl,hr4,pr4,rvl⟩
    have kp:∀ c o,H c=some o->H4 c=some o:=λc o hc=>s4 c o (λe=>by rw [e,od0] at hc;cases hc) (λe=>by rw [e,rl0] at hc;cases hc) (s03 _ _ hc);have zl:(ys.map (zf t b')).take ms.length=ys.map (zf t b'):=by rw [pl,<- Ag (f:=zf t b'),AN]
    have rl':(ys.map (rf t b')).take ms.length=ys.map (rf t b'):=by rw [pl,<- Ag (f:=rf t b'),AN]
    rw [zl] at da;rw [rl'] at pr4;have sH:Same H H4:=λc o hc=>kp c o hc;have il:=(Ac.mp hv).1;refine ⟨_,rfl,l,_,rfl,.inl (Gw (kp _ _ hl)),λfl nfl=>?_⟩;have w5:=Gu (o:=.lst vs) nfl;refine ⟨_,rfl,rl,_,rfl,.inl ⟨Gw (w5 _ _ hr4),λtz ntz=>⟨_,rfl,zLn2,λzt nzt=>?_⟩⟩⟩;have w6:=Gu (o:=.tup rvs) ntz;have w7:=Gu (o:=.tup [.ref tz,.ref nn]) nzt;have w57:=(w5.trans w6).trans w7;have hfl:upd (upd (upd H4 fl (.lst vs)) tz (.tup rvs)) zt (.tup [.ref tz,.ref nn]) fl=some (.lst vs):=(w6.trans w7) _ _ aD;have htz:upd (upd (upd H4 fl (.lst vs)) tz (.tup rvs)) zt (.tup [.ref tz,.ref nn]) tz=some (.tup rvs):=w7 _ _ aD;have hzt:upd (upd (upd H4 fl (.lst vs)) tz (.tup rvs)) zt (.tup [.ref tz,.ref nn]) zt=some (.tup [.ref tz,.ref nn]):=aD;generalize upd (upd (upd H4 fl (.lst vs)) tz (.tup rvs)) zt (.tup [.ref tz,.ref nn])=H7 at w57 hfl htz hzt ⊢;refine ⟨_,rfl,a,_,_,rfl,Gv (w57 _ _ (kp _ _ hra)),rfl,fl,vs,(i:Int),i,rfl,rfl,hfl,gF il,?_⟩;have fl0:H fl=none:=sm0 sH nfl;have tk8:∀ c o,c≠fl->H7 c=some o->upd H7 fl (.lst (vs.set i (.ref zt))) c=some o:=λc o n hc=>by rw [aJ n];exact hc
    have s8:Same H (upd H7 fl (.lst (vs.set i (.ref zt)))):=λc o hc=>tk8 c o (λe=>by rw [e,fl0] at hc;cases hc) (w57 _ _ (kp _ _ hc));have t8:Tk H7 (upd H7 fl (.lst (vs.set i (.ref zt)))):=λc ts hc=>tk8 c _ (λe=>by rw [e,hfl] at hc;cases hc) hc;have fl8:upd H7 fl (.lst (vs.set i (.ref zt))) fl=some (.lst (vs.set i (.ref zt))):=aD;have od8:upd H7 fl (.lst (vs.set i (.ref zt))) od=some (.dK kvs):=tk8 _ _ (λe=>by rw [<- e,ho4] at nfl;cases nfl) (w57 _ _ ho4);have da8:=(da.keep w57.tk).keep t8;have pr8:=(pr4.keep w57.tk).keep t8;have tz8:=t8 _ _ htz;have zt8:=t8 _ _ hzt;generalize upd H7 fl (.lst (vs.set i (.ref zt)))=H8 at s8 fl8 od8 da8 pr8 tz8 zt8 ⊢;have ew:(NW (M*b') (ys.map (zf t b')))=λy=>di.1 y*t:=funext nwz;have o8:=o.keep s8;have sc:=o.so.scale b0 g4.bb;refine ⟨_,rfl,_,rfl,a,_,_,rfl,Gv (s8 _ _ hra),rfl,_,rfl,_,rfl,b,r,q,fl,od,nn,rs,us,ps,rbs,ws,M*b',(scl b' S).set i (λy=>di.1 y*b'-di.1 y*t,di.2),j,(λy=>dj.1 y*b',dj.2),rbj,kvs,ks,ys.map (zf t b'),di.2,rfl,?_,by rw [ew];exact kI'.mono s8⟩;have mxr:IsMx (M*b') (λy=>di.1 y*b'-di.1 y*t) (if ([t,b']:List Int)=[1,1] then [] else ys.map (rf t b')):=by
     split
     ·rename_i e
      injection e with e1 e2;injection e2 with e2 _;exact lH.congr λy=>by rw [e1,e2,Int.sub_self]
     ·rename_i e
      have tb:t≠b':=λz=>e (by
       rw [<- z] at am ⊢;rw [aDg am])
      refine ⟨by rw [rmm];exact mx.pw,by rw [rmm];exact mx.nd,λy=>?_,frr⟩;rw [rmm,mx.mem,<- Int.mul_sub];constructor
      ·intro h z
       rcases Fw.mp z with z|z
       ·exact h z
       ·lia
      ·intro h z
       exact h (by rw [z,BV])
    have S1:StV H8 fl (M*b') ((scl b' S).set i (λy=>di.1 y*b'-di.1 y*t,di.2)):=(o.st.scale M0 b0).put hl s8 fl8 ⟨zt,tz,nn,rvs,_,rfl,zt8,tz8,pr8,mxr,s8 _ _ hnn⟩;have nl:di.2.length<=6:=Bj ((fQ okd.srt).length_le_of_subset okd.nin) o.bs.ww.l;refine ⟨o8.bs,S1,by rw [BB];unfold scl;rw [Ag,o.so.sl];exact o.bs.rm.1.symm,λd hd=>?_,by rw [AU g3];exact fE hdj,hrj,od8,da8,λz hz=>⟨(fz z hz).am,(fz z hz).dvd⟩,λz hz=>?_,λy hy=>?_,.inr (Gv (s8 _ _ hnn)),okd.nin,by lia,Mb,(o.so.bm.mul g4.bb).mono (by have:=o.b24;lia),?_⟩
    ·rcases Ek hd with h|h
     ·exact sc.ok d h
     ·rw [h]
      refine ⟨λy=>?_,okd.nin,okd.srt,λy hy=>okd.inw y λe=>hy (by show di.1 y*b'-di.1 y*t=0;rw [e,BV,BV];rfl)⟩;have:=CV g6 (okd.nn y);show 0<=di.1 y*b'-di.1 y*t;lia
    ·obtain ⟨y,hy,rfl⟩:=AK.mp hz
     exact okd.inw y.1 ((mx.mem y.1).mp (Cu hy))
    ·rw [nwz]
     have h1:=(da.2.1 y).mp hy;rw [zm] at h1;have h2:=(mx.mem y).mp h1;have h3:=okd.nn y;exact Ce (by lia) (by lia)
    ·rw [ew]
     show Bt 2900 (tot ws (λy=>dj.1 y*b'+di.1 y*t));rw [hW (λy=>dj.1 y*b') (λy=>di.1 y*t) ws,eO,eO];obtain ⟨vi,hvi⟩:∃ vi,rs[i]?=some vi:=⟨_,Ae g1⟩;obtain ⟨rbi,hri,_,_,_,rmi⟩:=o.bs.rm.get hvi;obtain ⟨_,tb1⟩:=o.so.small hdi hri rmi;obtain ⟨_,tb2⟩:=o.so.small hdj hrj (o.bs.rm.at hrj);have b24:=o.b24;have h1:Bt 2800 (tot ws dj.1*b'):=(tb2.mul g4.bb).mono (by lia);have h2:Bt 2800 (tot ws di.1*t):=(tb1.mul g4.bt).mono (by lia);exact (h1.add h2).mono
end
def ResL (us:Gq)(ps:Gf)(rbs:Gg)(ws:Gh)(M:Int)(S:List PF)(H:Hp)(Q:VK):Rw->Prop
 |.draw i x t b=>∃ d rb,S[i]?=some d/\rbs[i]?=some rb/\IntoL us ps ws (M*b) (scl b S) i (λy=>d.1 y*b,d.2) rb (oneW x (t*M)) [x] H Q
 |.fill i x t b=>∃ d rb,S[i]?=some d/\rbs[i]?=some rb/\(¬ tot ws d.1*b<t*M->RefL "low" i H Q)/\(tot ws d.1*b<t*M->IntoL us ps ws (M*b) (scl b S) i (λy=>d.1 y*b,d.2) rb (oneW x (t*M-tot ws d.1*b)) [x] H Q)
 |.pour i j t b=>∃ di dj rbj,S[i]?=some di/\S[j]?=some dj/\rbs[j]?=some rbj/\((∀ y,di.1 y=0)->RefL "dry" i H Q)/\(¬ (∀ y,di.1 y=0)->IntoL us ps ws (M*b) ((scl b S).set i (λy=>di.1 y*b-di.1 y*t,di.2)) j (λy=>dj.1 y*b,dj.2) rbj (λy=>di.1 y*t) di.2 H Q)
 |.empty i=>∃ d,S[i]?=some d/\∀ z l' H',Same H H'->H l'=none->H' z=some (.tup [.non,.ref l'])->StV H' l' M (S.set i (λ_=>0,d.2))->Q (.ref z) H'
 |.rinse i=>∃ d,S[i]?=some d/\(¬ (∀ y,d.1 y=0)->RefL "wet" i H Q)/\((∀ y,d.1 y=0)->∀ z l' H',Same H H'->H l'=none->H' z=some (.tup [.non,.ref l'])->StV H' l' M (S.set i (λ_=>0,[]))->Q (.ref z) H')
inductive spAfter (K:Ab)(vs:Gq)(H:Hp)(Q:VK)(Ex:XK):Prop
 |mk (b r q l a rs us ps rbs ws M S β rw:_) (e0:vs=[.ref b,.ref l,.ref a]) (e1:OnIn H b r q l rs us ps rbs ws M S β) (e2:RwV H a rw) (e3:GoodR rs.length ws rw) (e4:ResL us ps rbs ws M S H Q rw):spAfter K vs H Q Ex
theorem tX {M t b N rt rb:Int}(hM:0<M)(h:Fr M t b N):decide (t*rb<rt*b)=decide (N*rb<rt*M):=by
 have b0:0<b:=by have:=h.am.b1;lia
 refine decide_eq_decide.mpr ?_;have e1:rt*b*M=rt*M*b:=AV ..;have e2:t*rb*M=N*rb*b:=by rw [AV,h.e,AV]
 rw [<- Fn hM,e1,e2,Fn b0]
theorem nw1 {M t b N:Int}{x:Str}(M0:0<M)(fr:Fr M t b N):NW M [(x,t,b)]=oneW x N:=funext λy=>by
 rw [kX];unfold oneW;have:NW M [] y=0:=eE (by simp);rw [this,Int.add_zero,tF M0 fr]
def law1 {K:Ab}{H:Hp}{b r q l dd nl qa:Gj}{rs us:Gq}{ps:Gf}{rbs:Gg}{ws:Gh}{M:Int}{S:List PF}{β i:Nat}{d:PF}{rb:Int×Int}{x:Str}{t t' b' N:Int}
  (o:OnIn H b r q l rs us ps rbs ws M S β) (hd:S[i]?=some d) (hr:rbs[i]?=some rb) (xw:x∈ws) (fr:Fr (M*t') t b' N) (N0:0<N) (bN:Bt 2600 N) (t0:0<t') (bt':Bt 700 t')
  (hm:H dd=some (.dK [(AQ x,.ref qa)])) (hq:H qa=some (.tup [.int t,.int b'])) (hn:H nl=some (.lst [.str x])) :
  LawIn K H b r q l dd nl rs us ps rbs ws (M*t') (scl t' S) i (λy=>d.1 y*t',d.2) rb [(AQ x,.ref qa)] [x] [(x,t,b')] [x]:=by
 have rm:=o.bs.rm.at hr;obtain ⟨n0,sm⟩:=o.so.small hd hr rm;have b24:=o.b24;have ss:=o.so.scale t0 bt';have Mb:=Ce o.so.m0 t0;have nw:=nw1 (x:=x) Mb fr;refine ⟨o.bs,o.st.scale o.so.m0 t0,by unfold scl;rw [Ag,o.so.sl];exact o.bs.rm.1.symm,ss.ok,fE hd,hr,hm,⟨⟨rfl,by simp⟩,λy=>Iff.rfl,λy hy=>?_⟩,λz hz=>?_,λz hz=>?_,λy hy=>?_,.inl (Gw hn),λz hz=>?_,(by show 1<=20;decide),Mb,(o.so.bm.mul bt').mono (by lia),?_⟩
 ·rw [Az.mp hy,nw]
  refine ⟨qa,t,b',?_,hq,?_⟩
  ·unfold valV
   simp
  ·unfold oneW
   rw [if_pos rfl];exact fr
 ·rw [Az.mp hz]
  exact ⟨fr.am,fr.dvd⟩
 ·rw [Az.mp hz]
  exact xw
 ·rw [Az.mp hy,nw]
  unfold oneW;rw [if_pos rfl];exact N0
 ·rw [Az.mp hz]
  exact xw
 ·rw [nw]
  show Bt 2900 (tot ws (λy=>d.1 y*t'+oneW x N y));rw [hW (λy=>d.1 y*t') (oneW x N) ws,eO,pJ o.bs.ww.nd xw];have h1:Bt 2800 (tot ws d.1*t'):=(sm.mul bt').mono (by lia);exact (h1.add bN.mono).mono
section
variable {P:Aw}{w:World}{K:Ab}{mg:Gb}{base:Heap}
abbrev Naft:Gh:=["_law_bench","_law_state","_law_row_here","_law_lies","_law_found"]
def aFf:FnScope Naft ["_law_bench","_law_state","_law_row_here"] (aG xH):=fnScOk
def aCt {f:Gj}{fd:Ay}(F:Fun K "_law_after" "_law_after" xH f fd)(T:Txt mg)(cI:Cal P w K mg base CX0 5 "_law_into" ["_law_bench","_law_state","_law_phial","_law_more","_law_names_here"] (spInto K))(cP:Cal P w K mg base CX0 5 "_law_poured" ["_law_bench","_law_state","_law_row_here"] (spPoured K))(cS:Cal P w K mg base CX0 5 "_law_sum" ["_law_held"] (spSum K))(cU:Cal P w K mg base CX0 5 "_law_under" ["_law_one","_law_other"] (spLess K))(cT:Cal P w K mg base CX0 5 "_law_take" ["_law_one","_law_other"] (spTake K)):FnOk P w K mg base CX0 6 f fd ["_law_bench","_law_state","_law_row_here"] (spAfter K):=by
 refine F.okA aFf (λcdv A outer s H vs Q E hr h=>?_)
 ·obtain ⟨b,r,q,l,a,rs,us,ps,rbs,ws,M,S,β,rw',rfl,o,rv,gr,res⟩:=h
  refine ⟨_,(aC (bD (aM cJ (pit 2 0) aR)
    (aE (aL (aI cI hr (aA (pv 0) (aA (pv 1) (aA (pit 2 1) (aA (xS (sM (pit 2 2) (pit 2 3) xM) rfl rfl (by simp) (by simp)) (aA (cZ (aA (pit 2 2) aB)) aB))))))))
    aS)
   (aC (bD (aM cJ (pit 2 0) aR)
    (aE (aL (aI cP hr (aA (pv 0) (aA (pv 1) (aA (pv 2) aB))))))
    aS)
   (aC (bD (aM cJ (pit 2 0) aR)
    (aC (aK (i:=3) aFf.nd (aI cS hr (aA (aY (lP rfl) rfl T.dict' aA7 (aA (aZ dB (aZ aX (pv 1) (pit 2 1) (λ_ _=>rfl)) aH (λ_ _=>rfl)) aB)) aB)))
    (aC (bD (eZ (dX (aI cU hr (aA (pv 3) (aA (pit 2 3) aB)))))
     (aE (aL (aT (aA (aT (aA aR (aA (pit 2 1) (aA dI aB)))) (aA dI aB)))))
     aS)
    (aE (aL (aI cI hr (aA (pv 0) (aA (pv 1) (aA (pit 2 1) (aA (xS (sM (pit 2 2) (aI cT hr (aA (pit 2 3) (aA (pv 3) aB))) xM) rfl rfl (by simp) (by simp)) (aA (cZ (aA (pit 2 2) aB)) aB))))))))))
    aS)
   (aC (aK (i:=4) aFf.nd (aY bC rfl T.list' dS (aA (pv 1) aB)))
   (aC (bD (PW.pt (fH (aM cJ (pit 2 0) aR) (eQ (aM (xX hr.units) (aZ dB (aZ aX (pv 4) (pit 2 1) (λ_ _=>rfl)) aH (λ_ _=>rfl)) (aT aB)))))
    (aE (aL (aT (aA (aT (aA aR (aA (pit 2 1) (aA dI aB)))) (aA dI aB)))))
    aS)
   (aC (fK (aT (aA (aT aB) (aA (aZ aX (cZ (aA (aZ dB (aZ aX (pv 4) (pit 2 1) (λ_ _=>rfl)) aH (λ_ _=>rfl)) (aA (aT aB) aB))) (aY aA6 rfl T.int' aEr (aA (dU cJ (pit 2 0) aR) aB)) (λ_ _=>rfl)) aB))) (jZ (pv 4) (pit 2 1) set_list))
   (aE (aL (aT (aA dI (aA (pv 4) aB))))))))))),?_⟩
  have b24:=o.b24;cases rw' with
  |draw i x t b'=>
   obtain ⟨q',h1,h2⟩:=rv;obtain ⟨g1,g2,g3,g4⟩:=gr;obtain ⟨d,rb,hd,hrb,kI⟩:=res;have sq:=Gv (K:=K) h1;have b0:0<b':=by have:=g3.am.b1;lia
   refine ⟨a,_,_,rfl,sq,rfl,rfl,_,rfl,iteT ⟨_,rfl,_,rfl,a,_,_,rfl,sq,rfl,λdd ndd=>?_⟩⟩;have s1:=Gu (o:=.dK []) ndd;refine ⟨a,_,_,rfl,Gv (s1 _ _ h1),rfl,a,_,_,rfl,Gv (s1 _ _ h1),rfl,aD,[(.inr x,.ref q')],rfl,by show 1<=15;decide,?_⟩;have s2:Same H (upd (upd H dd (.dK [])) dd (.dK [(.inr x,.ref q')])):=λc o hc=>by
    have n:c≠dd:=λe=>by rw [e,ndd] at hc;cases hc
    rw [aJ n,aJ n];exact hc
   refine ⟨a,_,_,rfl,Gv (s2 _ _ h1),rfl,zLn1,λnl nnl=>?_⟩;have s3:=Gu (o:=.lst [.str x]) nnl;have Mb:=Ce o.so.m0 b0;have fr:Fr (M*b') t b' (t*M):=⟨g3.am,by rw [<- BX]⟩;refine ⟨b,r,q,l,dd,nl,rs,us,ps,rbs,ws,M*b',scl b' S,i,_,rb,_,[x],[(x,t,b')],[x],rfl,law1 (o.keep (s2.trans s3)) hd hrb g2 fr (Ce (by lia) o.so.m0) ((g3.bt.mul o.so.bm).mono (by lia)) b0 g3.bb (s3 _ _ aD) ((s2.trans s3) _ _ h2) aD,?_⟩;rw [nw1 Mb fr];exact kI.mono (s2.trans s3)
  |fill i x t b'=>
   obtain ⟨q',h1,h2⟩:=rv;obtain ⟨g1,g2,g3⟩:=gr;obtain ⟨d,rb,hd,hrb,kL,kI⟩:=res;have sq:=Gv (K:=K) h1;have b0:0<b':=by have:=g3.am.b1;lia
   have M0:=o.so.m0;obtain ⟨vs,v,hl,vl,hv,a1,mm,nn,ms,ys,rfl,ha1,hmm,pr,mx,hnn⟩:=o.st.get hd;have okd:=o.so.ok d (Ao hd);obtain ⟨kv0,k1,k2,k3,k4⟩:=aDy pr;have nd0:(kv0.map (·.1)).Nodup:=by
    rw [k2];exact CJ.mpr (mx.nd.imp λh e=>h (AQ.inj e))
   obtain ⟨n0,sm⟩:=o.so.small hd hrb (o.bs.rm.at hrb);have tS:sumN M ys=tot ws d.1:=hV o.bs.ww.nd mx okd.inw;refine ⟨a,_,_,rfl,sq,rfl,rfl,_,rfl,iteF ⟨a,_,_,rfl,sq,rfl,rfl,_,rfl,iteF ⟨a,_,_,rfl,sq,rfl,rfl,_,rfl,iteT ⟨_,rfl,a,_,_,rfl,sq,rfl,l,_,(i:Int),.ref a1,rfl,rfl,Gw hl,aU hv,a1,_,0,.ref mm,rfl,rfl,Gv ha1,rfl,mm,ms,kv0,rfl,hmm,k1,nd0,k3,λp np=>?_⟩⟩⟩⟩;have s1:=Gu (o:=.dK kv0) np;have da1:DA (upd H p (.dK kv0)) M ys kv0 (ys.map (·.1)):=⟨⟨k2,mx.nd⟩,λy=>Iff.rfl,λy hy=>by
    obtain ⟨x',hx,rfl⟩:=AK.mp hy;obtain ⟨q2,mq,hq'⟩:=k4 x' hx;refine ⟨q2,_,_,pG nd0 mq,s1 _ _ hq',?_⟩;rw [mx.nw];exact mx.fr x' hx⟩
   refine ⟨p,kv0,ys.map (·.1),M,ys,rfl,aD,da1,M0,o.so.bm.mono (by lia),mx.over,by rw [tS];exact sm.mono (by lia),λli tl bl H2 s2 hli frl=>?_⟩;rw [tS] at frl;have s02:=s1.trans s2;have fsm:=dH M0 frl;have bl1:=frl.am.b1;have tw:Tw K H2 li q' tl bl t b':=⟨Gv hli,Gv (s02 _ _ h2),frl.am,g3.am,(sm.le frl.am.t0 fsm.1).mono (by lia),(o.so.bm.le (by lia) fsm.2).mono (by lia),g3.bt.mono,g3.bb.mono⟩;refine ⟨_,rfl,a,_,_,rfl,Gv (s02 _ _ h1),rfl,li,q',tl,bl,t,b',rfl,tw,_,rfl,?_⟩;rw [tX M0 frl];refine ite2 (λc=>?_) (λc=>?_)
   ·have c':¬ tot ws d.1*b'<t*M:=λz=>by rw [decide_eq_true z] at c;cases c
    refine ⟨a,_,_,rfl,Gv (s02 _ _ h1),rfl,zLn3,λt3 nt3=>⟨zLn2,λzz nzz=>?_⟩⟩;have w1:=Gu (o:=.tup [.str "low",.int ((i:Nat):Int),.non]) nt3;have w2:=Gu (o:=.tup [.ref t3,.non]) nzz;exact kL c' zz t3 _ ((s02.trans w1).trans w2) aD (w2 _ _ aD)
   ·have c':tot ws d.1*b'<t*M:=Br λz=>c (by rw [decide_eq_false z];rfl)
    have f1:Fr b' t b' t:=⟨g3.am,by rw [BK]⟩;obtain ⟨le,fo⟩:=fT (M1:=b') (M2:=M) b0 M0 f1 frl (by lia);rw [BK b' M] at fo;refine ⟨_,rfl,_,rfl,a,_,_,rfl,Gv (s02 _ _ h1),rfl,λdd ndd=>?_⟩;have s3:=Gu (o:=.dK []) ndd;have s03:=s02.trans s3;refine ⟨a,_,_,rfl,Gv (s03 _ _ h1),rfl,a,_,_,rfl,Gv (s03 _ _ h1),rfl,_,rfl,q',li,t,b',tl,bl,rfl,⟨Gv (s03 _ _ h2),Gv (s3 _ _ hli),tw.a2,tw.a1,tw.st2,tw.sb2,tw.st1,tw.sb1⟩,le,λpo H4 s4 hpo=>⟨s4 _ _ aD,[(.inr x,.ref po)],rfl,by show 1<=15;decide,?_⟩⟩;have dd4:=s4 _ _ (aD (H:=H2) (a:=dd) (o:=.dK []));have dd0:H dd=none:=sm0 s02 ndd;have s5:Same H (upd H4 dd (.dK [(.inr x,.ref po)])):=λc o hc=>by
     rw [aJ λe=>by rw [e,dd0] at hc;cases hc];exact (s03.trans s4) _ _ hc
    have pod:po≠dd:=λe=>by rw [e,dd4] at hpo;cases hpo
    have po5:=(aJ (H:=H4) (o:=.dK [(.inr x,.ref po)]) pod).trans hpo;refine ⟨a,_,_,rfl,Gv (s5 _ _ h1),rfl,zLn1,λnl nnl=>?_⟩;have s6:=Gu (o:=.lst [.str x]) nnl;have Mb:=Ce M0 b0;refine ⟨b,r,q,l,dd,nl,rs,us,ps,rbs,ws,M*b',scl b' S,i,_,rb,_,[x],[(x,_,_)],[x],rfl,law1 (o.keep (s5.trans s6)) hd hrb g2 fo (by lia) (((g3.bt.mul o.so.bm).le (by lia) (by have:=Bu n0 (EX b0);lia)).mono (by lia)) b0 g3.bb (s6 _ _ aD) (s6 _ _ po5) aD,?_⟩;rw [nw1 Mb fo];exact (kI c').mono (s5.trans s6)
  |pour i j t b'=>
   obtain ⟨q',h1,h2⟩:=id rv;obtain ⟨di,dj,rbj,k1,k2,k3,k4,k5⟩:=res;have sq:=Gv (K:=K) h1;refine ⟨a,_,_,rfl,sq,rfl,rfl,_,rfl,iteF ⟨a,_,_,rfl,sq,rfl,rfl,_,rfl,iteT ⟨_,rfl,_,rfl,_,rfl,?_⟩⟩⟩;exact ⟨b,r,q,l,a,rs,us,ps,rbs,ws,M,S,β,i,j,t,b',di,dj,rbj,rfl,o,rv,gr,k1,k2,k3,k4,k5⟩
  |empty i=>
   have h1:H a=some (.tup [.str "empty",.int ((i:Nat):Int)]):=rv;obtain ⟨d,hd,k⟩:=res;have sq:=Gv (K:=K) h1;obtain ⟨vs,v,hl,vl,hv,a1,mm,nn,ms,ys,rfl,ha1,hmm,pr,mx,hnn⟩:=o.st.get hd;have il:=(Ac.mp hv).1;refine ⟨a,_,_,rfl,sq,rfl,rfl,_,rfl,iteF ⟨a,_,_,rfl,sq,rfl,rfl,_,rfl,iteF ⟨a,_,_,rfl,sq,rfl,rfl,_,rfl,iteF ⟨_,rfl,l,_,rfl,.inl (Gw hl),λfl nfl=>?_⟩⟩⟩⟩;obtain ⟨H1,eH1,s1,hfl⟩:=updX (o:=.lst vs) nfl;rw [eH1];refine ⟨a,_,_,rfl,Gv (s1 _ _ h1),rfl,rfl,_,rfl,iteF ⟨zLn0,λe0 ne0=>?_⟩⟩;obtain ⟨H2,eH2,s2,he0⟩:=updX (o:=.tup []) ne0;rw [eH2];have s02:=s1.trans s2;refine ⟨_,rfl,a,_,_,rfl,Gv (s02 _ _ h1),rfl,fl,_,(i:Int),.ref a1,rfl,rfl,Gw (s2 _ _ hfl),aU hv,a1,_,1,.ref nn,rfl,rfl,Gv (s02 _ _ ha1),rfl,zLn0,λe1 ne1=>⟨zLn2,λll nll=>?_⟩⟩;have s3:=Gu (o:=.tup []) ne1;have s4:=Gu (o:=.lst [.ref nn,.ref e1]) nll;have s24:=s3.trans s4;have s04:=s02.trans s24;refine ⟨a,_,_,rfl,Gv (s04 _ _ h1),rfl,rfl,.inr ⟨_,rfl,ll,_,0,.ref nn,rfl,rfl,Gw aD,rfl,zLn2,λzt nzt=>?_⟩⟩;have s5:=Gu (o:=.tup [.ref e0,.ref nn]) nzt;have hfl5:=(s24.trans s5) _ _ (s2 _ _ hfl);have he05:=(s24.trans s5) _ _ he0;have s05:=s04.trans s5;have hn5:=s05 _ _ hnn;have hzt:upd _ zt (.tup [.ref e0,.ref nn]) zt=some (.tup [.ref e0,.ref nn]):=aD (H:=upd (upd H2 e1 (.tup [])) ll (.lst [.ref nn,.ref e1]));generalize upd (upd (upd H2 e1 (.tup [])) ll (.lst [.ref nn,.ref e1])) zt (.tup [.ref e0,.ref nn])=H5 at s05 hfl5 he05 hn5 hzt ⊢;refine ⟨_,rfl,a,_,_,rfl,Gv (s05 _ _ h1),rfl,fl,vs,(i:Int),i,rfl,rfl,hfl5,gF il,?_⟩;refine ⟨_,rfl,zLn2,λzz nzz=>?_⟩;have fl0:H fl=none:=nfl;have sF:Same H (upd (upd H5 fl (.lst (vs.set i (.ref zt)))) zz (.tup [.non,.ref fl])):=λc o hc=>(Gu nzz) _ _ (by rw [aJ (λe=>by rw [e,fl0] at hc;cases hc)];exact s05 _ _ hc);have tkF:Tk H5 (upd (upd H5 fl (.lst (vs.set i (.ref zt)))) zz (.tup [.non,.ref fl])):=λc ts hc=>(Gu nzz) _ _ (by rw [aJ (λe=>by rw [e,hfl5] at hc;cases hc)];exact hc);exact k zz fl _ sF fl0 aD (o.st.put hl sF ((Gu nzz) _ _ aD) ⟨zt,e0,nn,[],[],rfl,tkF _ _ hzt,tkF _ _ he05,.nil,lH,tkF _ _ hn5⟩)
  |rinse i=>
   have h1:H a=some (.tup [.str "rinse",.int ((i:Nat):Int)]):=rv;obtain ⟨d,hd,kB,kG⟩:=res;have sq:=Gv (K:=K) h1;obtain ⟨vs,v,hl,vl,hv,a1,mm,nn,ms,ys,rfl,ha1,hmm,pr,mx,hnn⟩:=o.st.get hd;have il:=(Ac.mp hv).1;refine ⟨a,_,_,rfl,sq,rfl,rfl,_,rfl,iteF ⟨a,_,_,rfl,sq,rfl,rfl,_,rfl,iteF ⟨a,_,_,rfl,sq,rfl,rfl,_,rfl,iteF ⟨_,rfl,l,_,rfl,.inl (Gw hl),λfl nfl=>?_⟩⟩⟩⟩;obtain ⟨H1,eH1,s1,hfl⟩:=updX (o:=.lst vs) nfl;rw [eH1];have pl:=pr.length;refine ⟨a,_,_,rfl,Gv (s1 _ _ h1),rfl,rfl,_,rfl,iteT ⟨_,rfl,a,_,_,rfl,Gv (s1 _ _ h1),rfl,fl,_,(i:Int),.ref a1,rfl,rfl,Gw hfl,aU hv,a1,_,0,.ref mm,rfl,rfl,Gv (s1 _ _ ha1),rfl,zLn0,λx0 nx0=>⟨mm,x0,_,rfl,rfl,Gv ((Gu nx0) _ _ (s1 _ _ hmm)),Gv aD,_,rfl,ite2 (λc=>?_) (λc=>?_)⟩⟩⟩
   ·have ne:¬ (∀ y,d.1 y=0):=λz=>by
     have:=(fN mx).mpr z;subst this;have:ms=[]:=AY.mp pl;subst this;exact absurd c (by decide)
    have w0:=Gu (o:=.tup []) nx0;refine ⟨a,_,_,rfl,Gv ((s1.trans w0) _ _ h1),rfl,zLn3,λt3 nt3=>⟨zLn2,λzz nzz=>?_⟩⟩;have w1:=Gu (o:=.tup [.str "wet",.int ((i:Nat):Int),.non]) nt3;have w2:=Gu (o:=.tup [.ref t3,.non]) nzz;exact kB ne zz t3 _ (((s1.trans w0).trans w1).trans w2) aD (w2 _ _ aD)
   have em:ms=[]:=by
    cases ms with
    |nil=>rfl
    |cons u r=>exact absurd rfl c
   have zr:∀ y,d.1 y=0:=(fN mx).mp (AY.mp (by rw [<- pl,em];rfl));have k:=kG zr;have w0:=Gu (o:=.tup []) nx0;replace s1:=s1.trans w0;replace hfl:=w0 _ _ hfl;generalize upd H1 x0 (.tup [])=H1' at s1 hfl ⊢;refine ⟨zLn0,λe0 ne0=>?_⟩;obtain ⟨H2,eH2,s2,he0⟩:=updX (o:=.tup []) ne0;rw [eH2];have s02:=s1.trans s2;refine ⟨_,rfl,a,_,_,rfl,Gv (s02 _ _ h1),rfl,fl,_,(i:Int),.ref a1,rfl,rfl,Gw (s2 _ _ hfl),aU hv,a1,_,1,.ref nn,rfl,rfl,Gv (s02 _ _ ha1),rfl,zLn0,λe1 ne1=>⟨zLn2,λll nll=>?_⟩⟩;have s3:=Gu (o:=.tup []) ne1;have s4:=Gu (o:=.lst [.ref nn,.ref e1]) nll;have s24:=s3.trans s4;have s04:=s02.trans s24;refine ⟨a,_,_,rfl,Gv (s04 _ _ h1),rfl,rfl,.inr ⟨_,rfl,ll,_,1,.ref e1,rfl,rfl,Gw aD,rfl,zLn2,λzt nzt=>?_⟩⟩;have s5:=Gu (o:=.tup [.ref e0,.ref e1]) nzt;have hfl5:=(s24.trans s5) _ _ (s2 _ _ hfl);have he05:=(s24.trans s5) _ _ he0;have s05:=s04.trans s5;have he1:upd (upd H2 e1 (.tup [])) ll (.lst [.ref nn,.ref e1]) e1=some (.tup []):=s4 _ _ aD;have hn5:=s5 _ _ he1;have hzt:upd _ zt (.tup [.ref e0,.ref e1]) zt=some (.tup [.ref e0,.ref e1]):=aD (H:=upd (upd H2 e1 (.tup [])) ll (.lst [.ref nn,.ref e1]));generalize upd (upd (upd H2 e1 (.tup [])) ll (.lst [.ref nn,.ref e1])) zt (.tup [.ref e0,.ref e1])=H5 at s05 hfl5 he05 hn5 hzt ⊢;refine ⟨_,rfl,a,_,_,rfl,Gv (s05 _ _ h1),rfl,fl,vs,(i:Int),i,rfl,rfl,hfl5,gF il,?_⟩;refine ⟨_,rfl,zLn2,λzz nzz=>?_⟩;have fl0:H fl=none:=nfl;have sF:Same H (upd (upd H5 fl (.lst (vs.set i (.ref zt)))) zz (.tup [.non,.ref fl])):=λc o hc=>(Gu nzz) _ _ (by rw [aJ (λe=>by rw [e,fl0] at hc;cases hc)];exact s05 _ _ hc);have tkF:Tk H5 (upd (upd H5 fl (.lst (vs.set i (.ref zt)))) zz (.tup [.non,.ref fl])):=λc ts hc=>(Gu nzz) _ _ (by rw [aJ (λe=>by rw [e,hfl5] at hc;cases hc)];exact hc);exact k zz fl _ sF fl0 aD (o.st.put hl sF ((Gu nzz) _ _ aD) ⟨zt,e0,e1,[],[],rfl,tkF _ _ hzt,tkF _ _ he05,.nil,lH,tkF _ _ hn5⟩)
end
inductive spOFill (C c1 c3 c4:Gj)(vs:Gq)(H:Hp)(Q:VK)(E:XK):Prop
 |mk (p dx b r q l qa rs us ps rbs ws M S β i d rb x t b' n:_) (e0:vs=[.ref p,.ref b,.ref l,.int (n:Nat)]) (e1:n<1000) (e2:H p=some (.ins C dx (fs3 "phial" "ware" "level" (.int (i:Nat)) (.str x) (.ref qa)))) (e3:H qa=some (.tup [.int t,.int b'])) (e4:RwA t b') (e5:x∈ws) (e6:OnIn H b r q l rs us ps rbs ws M S β) (e7:S[i]?=some d) (e8:rbs[i]?=some rb) (e9:(¬ tot ws d.1*b'<t*M->BadE c1 [("phial",.int (i:Nat)),("place",.int (n:Nat))] H E)) (e10:(tot ws d.1*b'<t*M->IntoR c3 c4 us ps ws (M*b') (scl b' S) i (λy=>d.1 y*b',d.2) rb (oneW x (t*M-tot ws d.1*b')) [x] n H Q E)):spOFill C c1 c3 c4 vs H Q E
inductive spOPour (C c0 c3 c4:Gj)(vs:Gq)(H:Hp)(Q:VK)(E:XK):Prop
 |mk (p dx b r q l qa rs us ps rbs ws M S β i j t b' di dj rbj n:_) (e0:vs=[.ref p,.ref b,.ref l,.int (n:Nat)]) (e1:n<1000) (e2:H p=some (.ins C dx (fs3 "one" "other" "part" (.int (i:Nat)) (.int (j:Nat)) (.ref qa)))) (e3:H qa=some (.tup [.int t,.int b'])) (e4:RwA t b') (e5:1<=t) (e6:t<=b') (e7:i≠j) (e8:OnIn H b r q l rs us ps rbs ws M S β) (e9:S[i]?=some di) (e10:S[j]?=some dj) (e11:rbs[j]?=some rbj) (e12:((∀ y,di.1 y=0)->BadE c0 [("phial",.int (i:Nat)),("place",.int (n:Nat))] H E)) (e13:(¬ (∀ y,di.1 y=0)->IntoR c3 c4 us ps ws (M*b') ((scl b' S).set i (λy=>di.1 y*b'-di.1 y*t,di.2)) j (λy=>dj.1 y*b',dj.2) rbj (λy=>di.1 y*t) di.2 n H Q E)):spOPour C c0 c3 c4 vs H Q E
theorem qG {H:Hp}(g:Str×Int×Int->Str×Int×Int):∀ {ys:Gc} {vs:Gq},vs.length=ys.length->(∀ (i:Nat) y v,ys[i]?=some y->vs[i]?=some v->Pr H v (g y))->PrL H vs (ys.map g)
 |[],[],_,_=>.nil
 |y::ys,v::vs,hl,h=>.cons (h 0 y v rfl rfl) (qG g (by simpa using hl) λi y v hy hv=>h (i+1) y v (by simpa using hy) (by simpa using hv))
def mt (t b:Int):Int:=(1*b-t*1)/G (1*b-t*1) (1*b)
def mb (t b:Int):Int:=1*b/G (1*b-t*1) (1*b)
def sf (t b:Int)(y:Str×Int×Int):Str×Int×Int:=(y.1,y.2.1*mt t b/G (y.2.1*mt t b) (y.2.2*mb t b),y.2.2*mb t b/G (y.2.1*mt t b) (y.2.2*mb t b))
def mtb {t b:Int}(a:Amt t b)(tb:t<=b):t*1<=1*b/\Amt (mt t b) (mb t b)/\mt t b*b=(b-t)*mb t b:=by
 have b1:=a.b1;have f1:Fr 1 1 1 1:=⟨⟨by decide,by decide,by decide +kernel⟩,rfl⟩;have f2:Fr b t b t:=⟨a,by rw [BK]⟩;obtain ⟨h1,h2⟩:=fT (M1:=1) (M2:=b) (by decide) (by lia) f1 f2 (by lia);refine ⟨h1,h2.am,?_⟩;have:=h2.e;unfold mt mb;simp only [Int.one_mul,Int.mul_one] at this ⊢;exact this
def aKl {M N t b:Int}{y:Str×Int×Int}(M0:0<M)(h:Fr M y.2.1 y.2.2 N)(a:Amt t b)(tb:t<=b):Fr (M*b) (sf t b y).2.1 (sf t b y).2.2 (N*b-N*t):=by
 obtain ⟨_,am,e⟩:=mtb a tb;have m1:=am.b1;refine jD (tW M0 h am) (Ce M0 (by lia)) ?_;generalize mt t b=x at *
 generalize mb t b=z at *
 calc N*x*(M*b)=N*M*(x*b):=by grind
  _=N*M*((b-t)*z):=by rw [e]
  _=(N*b-N*t)*(M*z):=by grind
section
variable {P:Aw}{w:World}{K:Ab}{mg:Gb}{base:Heap}{cP c0 c1 c2 c3 c4 f0 f1 f2 f3 f4 C:Gj}
abbrev Nof:Gh:=["self","bench","phials","place","lies","comes"]
def pQ:FnScope Nof Non (aG wX):=fnScOk
def aCh {f:Gj}{fd g1:Ay}(F:Fun K "onto_at" "Fill.onto_at" wX f fd)(D:DCl K C ["phial","ware","level"])(R:ErB K mg cP c0 c1 c2 c3 c4 f0 f1 f2 f3 f4)(F1:FnOk P w K mg base CX0 1 f1 g1 ["self","place","phial"] (spI2 c1))(b1:Binds K g1 ["self","place","phial"] [])
  (cW:Cal P w K mg base CX0 6 "whole" ["one"] (lW K)) (cL:Cal P w K mg base CX0 6 "less" ["one","other"] (spLess K)) (cMi:Cal P w K mg base CX0 6 "minus" ["one","other"] (spMinus K)) (cM:Cal P w K mg base (CXg P w) 6 "with_more" ["bench","phials","phial","comes","names","place"] (spMore K c3 c4)):FnOk P w K mg base (CXg P w) 7 f fd Non (spOFill C c1 c3 c4):=by
 refine F.okFA pQ (λcdv A outer s H vs Q E hr h=>?_)
 ·obtain ⟨p,dx,b,r,q,l,qa,rs,us,ps,rbs,ws,M,S,β,i,d,rb,x,t,b',n,rfl,hn,hp,hqa,ra,xw,o,hd,hrb,kB,kI⟩:=h
  refine ⟨_,(aC (aK (i:=4) pQ.nd (aI cW hr (aA (aZ dB (aZ aX (pv 2) (dA (pv 0) rfl) (λ_ _=>rfl)) aH (λ_ _=>rfl)) aB)))
   (aC (bD (eZ (dX (aI cL hr (aA (pv 4) (aA (dA (pv 0) rfl) aB)))))
    (aE (fI (k:=1) rfl xe_f rfl hr.mono rfl R.m1 (R.r1.e "place" (by simp)).i F1 b1 (aA (pv 3) (aA (dA (pv 0) rfl) aB))))
    aS)
   (aC (aK (i:=5) pQ.nd (aT (aA (aT (aA (dA (pv 0) rfl) (aA (aI cMi hr (aA (dA (pv 0) rfl) (aA (pv 4) aB))) aB))) aB)))
   (aE (aL (lE cM hr rfl oA (aA (pv 1) (aA (pv 2) (aA (dA (pv 0) rfl) (aA (pv 5) (aA (aT (aA (dA (pv 0) rfl) aB)) (aA (pv 3) aB)))))))))))),?_⟩
  have E1:=aG2 (f1:="phial") (f2:="ware") (f3:="level") (u1:=.int (i:Nat)) (u2:=.str x) (u3:=.ref qa) (by decide +kernel) (by decide +kernel);have E2:=aG1 (f1:="phial") (f2:="ware") (f3:="level") (u1:=.int (i:Nat)) (u2:=.str x) (u3:=.ref qa) (by decide +kernel);have E3:=aG0 (f1:="phial") (f2:="ware") (f3:="level") (u1:=.int (i:Nat)) (u2:=.str x) (u3:=.ref qa);obtain ⟨vs,v,hl,vl,hv,a,mm,nn,ms,ys,rfl,ha,hm,pr,mx,hnn⟩:=o.st.get hd;have M0:=o.so.m0;have b24:=o.b24;have okd:=o.so.ok d (Ao hd);have oy:=mx.over;obtain ⟨n0,sm⟩:=o.so.small hd hrb (o.bs.rm.at hrb);have tS:sumN M ys=tot ws d.1:=hV o.bs.ww.nd mx okd.inw;have b0:0<b':=by have:=ra.am.b1;lia
  have i16:i<16:=by
   have h1:=(Ac.mp hd).1;have h2:=o.bs.bn.l16;have h3:=o.so.sl;have h4:=o.bs.rm.1;lia
  refine ⟨_,rfl,_,rfl,p,C,dx,_,_,rfl,hp,D.cl,D.na _ (by simp),E1,l,_,(i:Int),.ref a,rfl,rfl,Gw hl,aU hv,a,_,0,.ref mm,rfl,rfl,Gv ha,rfl,mm,ms,ys,M,rfl,Gv hm,pr,oy,M0,o.so.bm.mono (by lia),λj=>?_,λli tl bl H1 s1 hli frl=>?_⟩
  ·exact (sm.le (bW M0 (oy.take j)) (by rw [<- tS];exact fD M0 j oy)).mono (by lia)
  rw [tS] at frl;have fsm:=dH M0 frl;have bl1:=frl.am.b1;have tw:Tw K H1 li qa tl bl t b':=⟨hli,Gv (s1 _ _ hqa),frl.am,ra.am,(sm.le frl.am.t0 fsm.1).mono (by lia),(o.so.bm.le (by lia) fsm.2).mono (by lia),ra.bt.mono,ra.bb.mono⟩;refine ⟨_,rfl,_,rfl,p,C,dx,_,_,rfl,s1 _ _ hp,D.cl,D.na _ (by simp),E3,li,qa,tl,bl,t,b',rfl,tw,_,rfl,?_⟩;rw [tX M0 frl];refine ite2 (λc=>?_) (λc=>?_)
  ·have c':¬ tot ws d.1*b'<t*M:=λz=>by rw [decide_eq_true z] at c;cases c
   exact ⟨_,rfl,_,rfl,p,C,dx,_,_,rfl,s1 _ _ hp,D.cl,D.na _ (by simp),E1,xJ hn (by lia) ((kB c').mono s1)⟩
  ·have c':tot ws d.1*b'<t*M:=Br λz=>c (by rw [decide_eq_false z];rfl)
   have f1:Fr b' t b' t:=⟨ra.am,by rw [BK]⟩;obtain ⟨le,fo⟩:=fT (M1:=b') (M2:=M) b0 M0 f1 frl (by lia);rw [BK b' M] at fo;refine ⟨_,rfl,p,C,dx,_,_,rfl,s1 _ _ hp,D.cl,D.na _ (by simp),E2,_,rfl,p,C,dx,_,_,rfl,s1 _ _ hp,D.cl,D.na _ (by simp),E3,_,rfl,qa,li,t,b',tl,bl,rfl,tw.flip,le,λpo H2 s2 hpo=>⟨zLn2,λpr npr=>⟨zLn1,λcm ncm=>?_⟩⟩⟩;have s3:=Gu (o:=.tup [.str x,.ref po]) npr;have s4:=Gu (o:=.tup [.ref pr]) ncm;have s04:=((s1.trans s2).trans s3).trans s4;refine ⟨_,rfl,_,rfl,_,rfl,p,C,dx,_,_,rfl,s04 _ _ hp,D.cl,D.na _ (by simp),E1,_,rfl,_,rfl,p,C,dx,_,_,rfl,s04 _ _ hp,D.cl,D.na _ (by simp),E2,zLn1,λnm nnm=>⟨_,rfl,?_⟩⟩;have s5:=Gu (o:=.tup [.str x]) nnm;have s05:=s04.trans s5;have Mb:=Ce M0 b0;have kI':=(kI c').mono s05;have bN:Bt 2600 (t*M-tot ws d.1*b'):=((ra.bt.mul o.so.bm).le (by lia) (by have:=Bu n0 (EX b0);lia)).mono (by lia);have e:=nw1 (x:=x) Mb fo;rw [<- e] at kI';refine ⟨b,r,q,l,cm,nm,rs,us,ps,rbs,ws,M*b',scl b' S,i,_,rb,[.ref pr],[(x,_,_)],[x],n,rfl,hn,aJd (o.keep s05) hd hrb xw fo.dvd fo.am b0 ?_ ra.bb (s5 _ _ aD) ((s4.trans s5) _ _ aD) (((s3.trans s4).trans s5) _ _ hpo) aD,kI'.1,kI'.2⟩;rw [e];unfold oneW;rw [if_pos rfl];exact bN
abbrev Nop:Gh:=["self","bench","phials","place","holds","names","goes","stays","behind"]
def iC:FnScope Nop Non (aG jT):=fnScOk
def ndp:(["ware","many","self"]:Gh).Nodup:=by decide +kernel
def aCg {f aO:Gj}{fd g0:Ay}(F:Fun K "onto_at" "Pour.onto_at" jT f fd)(T:Txt mg)(D:DCl K C ["one","other","part"])(mO:mg "ONE" = some (.ref aO))(sO:∀ H:Hp,SqT K H aO [.int 1,.int 1])(R:ErB K mg cP c0 c1 c2 c3 c4 f0 f1 f2 f3 f4)(F0:FnOk P w K mg base CX0 1 f0 g0 ["self","place","phial"] (spI2 c0))(b0':Binds K g0 ["self","place","phial"] [])
  (cT:Cal P w K mg base CX0 6 "times" ["one","other"] (spTimes K)) (cMi:Cal P w K mg base CX0 6 "minus" ["one","other"] (spMinus K)) (cX:Cal P w K mg base CX0 6 "mixture" ["pairs"] (jK K)) (cH:Cal P w K mg base CX0 6 "with_phial" ["phials","phial","holds","names"] spWith) (cM:Cal P w K mg base (CXg P w) 6 "with_more" ["bench","phials","phial","comes","names","place"] (spMore K c3 c4)):FnOk P w K mg base (CXg P w) 7 f fd Non (spOPour C c0 c3 c4):=by
 refine F.okFA iC (λcdv A outer s H vs Q E hr h=>?_)
 ·obtain ⟨p,dx,b,r,q,l,qa,rs,us,ps,rbs,ws,M,S,β,i,j,t,b',di,dj,rbj,n,rfl,hn,hp,hqa,ra,t1,tb,ij,o,hdi,hdj,hrj,kD,kI⟩:=h
  refine ⟨_,(aC (aK (i:=4) iC.nd (aZ dB (aZ aX (pv 2) (dA (pv 0) rfl) (λ_ _=>rfl)) aH (λ_ _=>rfl)))
   (aC (aK (i:=5) iC.nd (aZ dB (aZ aX (pv 2) (dA (pv 0) rfl) (λ_ _=>rfl)) aH (λ_ _=>rfl)))
   (aC (bD (aM (yD hr.units) (pv 4) (aT aB))
    (aE (fI (k:=1) rfl xe_f rfl hr.mono rfl R.m0 (R.r0.e "place" (by simp)).i F0 b0' (aA (pv 3) (aA (dA (pv 0) rfl) aB))))
    aS)
   (aC (sL (iy:=6) (N':=["ware","many","self"]) (g:=gTup K 2 (qX (gName 0) (qX (gName 1) gNil))) (λσ=>[none,none,some 0].map λt=>t.bind λj=>(σ[j]?).join) rfl rfl (by decide +kernel) (by decide +kernel)
     (vG (sc:=aG jT) rfl (by decide +kernel)) (λ_ _ _=>iK (sc:=aG jT) (N:=Nop) [none,none,some 0] rfl rfl rfl rfl (by decide +kernel))
     (iL (pv 4)) (λ_ _ _ _ _ _=>fM rfl (bE (gD (i:=0) ndp rfl (Or.inl rfl) (Or.inr rfl)) (bE (gD (i:=1) ndp rfl (Or.inl rfl) (Or.inr rfl)) dY)))
     (λ_ _ _ _ _ _=>eR)
     (λ_ _ _ _ _ _=>aT (aA (pv 0) (aA (aI cT hr (aA (pv 1) (aA (xR (K:=K) rfl (pv 2) rfl) aB))) aB))) iC.nd rfl (Or.inl rfl) (Or.inr rfl) rfl)
   (aC (sL (iy:=7) (N':=["ware","many","self"]) (g:=gTup K 2 (qX (gName 0) (qX (gName 1) gNil))) (λσ=>[none,none,some 0].map λt=>t.bind λj=>(σ[j]?).join) rfl rfl (by decide +kernel) (by decide +kernel)
     (vG (sc:=aG jT) rfl (by decide +kernel)) (λ_ _ _=>iK (sc:=aG jT) (N:=Nop) [none,none,some 0] rfl rfl rfl rfl (by decide +kernel))
     (iL (pv 4)) (λ_ _ _ _ _ _=>fM rfl (bE (gD (i:=0) ndp rfl (Or.inl rfl) (Or.inr rfl)) (bE (gD (i:=1) ndp rfl (Or.inl rfl) (Or.inr rfl)) dY)))
     (λ_ _ _ _ _ _=>eR)
     (λ_ _ _ _ _ _=>aT (aA (pv 0) (aA (aI cT hr (aA (pv 1) (aA (aI cMi hr (aA (eT (v:=.ref aO) rfl mO rfl) (aA (xR (K:=K) rfl (pv 2) rfl) aB))) aB))) aB))) iC.nd rfl (Or.inl rfl) (Or.inr rfl) rfl)
   (aC (aK (i:=8) iC.nd (lE cM hr rfl oA (aA (pv 1) (aA (pv 2) (aA (dA (pv 0) rfl) (aA (aY bG rfl T.tup' dG (aA (pv 6) aB)) (aA (pv 5) (aA (pv 3) aB))))))))
   (aE (aL (aI cH hr (aA (pv 8) (aA (dA (pv 0) rfl) (aA (aI cX hr (aA (pv 7) aB)) (aA (pv 5) aB))))))))))))),?_⟩
  have E1:=aG2 (f1:="one") (f2:="other") (f3:="part") (u1:=.int (i:Nat)) (u2:=.int (j:Nat)) (u3:=.ref qa) (by decide +kernel) (by decide +kernel);have E2:=aG1 (f1:="one") (f2:="other") (f3:="part") (u1:=.int (i:Nat)) (u2:=.int (j:Nat)) (u3:=.ref qa) (by decide +kernel);have E3:=aG0 (f1:="one") (f2:="other") (f3:="part") (u1:=.int (i:Nat)) (u2:=.int (j:Nat)) (u3:=.ref qa);obtain ⟨vs,v,hl,vl,hv,a,mm,nn,ms,ys,rfl,ha,hm,pr,mx,hnn⟩:=o.st.get hdi;have M0:=o.so.m0;have b24:=o.b24;have am:=ra.am;have okd:=o.so.ok di (Ao hdi);have b0:0<b':=by have:=am.b1;lia
  have Mb:=Ce M0 b0;have pl:=pr.length;have fy:∀ y∈ys,Fr M y.2.1 y.2.2 (di.1 y.1):=mx.fr;have sl16:S.length<=16:=by rw [o.so.sl,<- o.bs.rm.1];exact o.bs.bn.l16
  have i16:i<16:=by
   have h1:=(Ac.mp hdi).1;lia
  have j16:j<S.length:=(Ac.mp hdj).1;obtain ⟨vi,hvi⟩:∃ vi,rs[i]?=some vi:=⟨_,Ae (by have:=(Ac.mp hdi).1;have:=o.so.sl;have:=o.bs.rm.1;lia)⟩;obtain ⟨rbi,hri,_,_,_,rmi⟩:=o.bs.rm.get hvi;obtain ⟨tn,tbt⟩:=o.so.small hdi hri rmi;refine ⟨_,rfl,_,rfl,p,C,dx,_,_,rfl,hp,D.cl,D.na _ (by simp),E1,l,_,(i:Int),.ref a,rfl,rfl,Gw hl,aU hv,a,_,0,.ref mm,rfl,rfl,Gv ha,rfl,?_⟩;refine ⟨_,rfl,_,rfl,p,C,dx,_,_,rfl,hp,D.cl,D.na _ (by simp),E1,l,_,(i:Int),.ref a,rfl,rfl,Gw hl,aU hv,a,_,1,.ref nn,rfl,rfl,Gv ha,rfl,?_⟩;refine ⟨_,rfl,zLn0,λz0 nz0=>⟨mm,z0,_,rfl,rfl,Gv ((Gu nz0) _ _ hm),Gv aD,_,rfl,ite2 (λc=>?_) (λc=>?_)⟩⟩
  ·have em:ms=[]:=by
    cases ms with
    |nil=>rfl
    |cons u r=>exact absurd c (by show ¬ (false=true);decide)
   have z:∀ y,di.1 y=0:=(fN mx).mp (AY.mp (by rw [<- pl,em];rfl));have s1:=Gu (o:=.tup []) nz0;exact ⟨_,rfl,_,rfl,p,C,dx,_,_,rfl,s1 _ _ hp,D.cl,D.na _ (by simp),E1,xJ hn (by lia) ((kD z).mono s1)⟩
  have ne:¬ (∀ y,di.1 y=0):=λz=>by
   have:=(fN mx).mpr z;subst this;have:ms=[]:=AY.mp pl;subst this;exact absurd rfl c
  have kI':=kI ne;obtain ⟨H1,eH1,s1,_⟩:=updX (o:=.tup []) nz0;rw [eH1];have yl:ys.length<=6:=Bj (zB mx okd.inw) o.bs.ww.l;have ysm:∀ y∈ys,Bt 2600 (di.1 y.1)/\Bt 4000 y.2.1/\Bt 4000 y.2.2:=λy ym=>by
   have yS:di.1 y.1<=tot ws di.1:=by
    have e1:=(hV o.bs.ww.nd mx okd.inw);have e2:=(rG M0 mx.over ys.length y.1).2;rw [AN,mx.nw] at e2;lia
   have ynn:=okd.nn y.1;have by1:Bt 2600 (di.1 y.1):=(tbt.le ynn yS).mono (by lia);have fyy:=fy y ym;have fsm:=dH M0 fyy;exact ⟨by1,(by1.le fyy.am.t0 fsm.1).mono,(o.so.bm.le (by have:=fyy.am.b1;lia) fsm.2).mono (by lia)⟩
  refine ⟨_,rfl,mm,rfl,⟨_,Gv (s1 _ _ hm)⟩,λgl ngl=>?_⟩;refine hJ (Ys.tup (Gv (K:=K) (s1 _ _ hm))) (λk _ y H=>∃ x,ys[k]?=some x/\Pr H y (zf t b' x)) (λ_ _ _ _ _ h tk=>by obtain ⟨x,e,h⟩:=h;exact ⟨x,e,h.keep tk⟩) ngl (by lia) (λk u H' R hu sm' hR=>?_) (λgvs H2 s2 hgl gvl hgv=>?_)
  ·obtain ⟨z,hz,pz,qz,rfl,h1,h2⟩:=pr.get hu
   have s':=s1.trans sm';have zm:=Ao hz;obtain ⟨_,z1,z2⟩:=ysm z zm;refine ⟨pz,_,rfl,Gv (s' _ _ h1),rfl,_,_,rfl,_,_,rfl,rfl,((Keep.refl _).set rfl).set rfl,?_⟩;refine ⟨_,rfl,_,rfl,_,rfl,p,C,dx,_,_,rfl,s' _ _ hp,D.cl,D.na _ (by simp),E3,qz,qa,z.2.1,z.2.2,t,b',rfl,⟨Gv (s' _ _ h2),Gv (s' _ _ hqa),(fy z zm).am,am,z1,z2,ra.bt.mono,ra.bb.mono⟩,λr' H5 s5 h5=>⟨zLn2,λl' hl'=>?_⟩⟩;exact hR _ _ (s5.trans (Gu hl')) ⟨z,hz,l',r',rfl,aD,Gu hl' _ _ h5⟩
  have prg:PrL H2 gvs (ys.map (zf t b')):=qG _ (by lia) λk y v hy hv'=>by
   obtain ⟨u',hu'⟩:∃ u',ms[k]?=some u':=⟨_,Ae (by have:=(Ac.mp hy).1;lia)⟩;obtain ⟨x,e,h⟩:=hgv k u' v hu' hv';rw [hy] at e;cases e;exact h
  have s02:=s1.trans s2;obtain ⟨mle,mam,me⟩:=mtb am tb;have mm1:=mam.b1;have mbS:Bt 4000 (mb t b'):=by
   have g0:=rH (a:=1*b'-t*1) (b:=1*b') (by lia);exact (ra.bb.le (by lia) (by unfold mb;rw [Int.one_mul];exact Ci _ (by lia))).mono
  have mtS:Bt 4000 (mt t b'):=by
   refine (ra.bb.le mam.t0 ?_).mono;unfold mt;exact Ez (Ci _ (by lia)) (by lia)
  refine ⟨_,rfl,mm,rfl,⟨_,Gv (s02 _ _ hm)⟩,λsl nsl=>?_⟩;refine hJ (Ys.tup (Gv (K:=K) (s02 _ _ hm))) (λk _ y H=>∃ x,ys[k]?=some x/\Pr H y (sf t b' x)) (λ_ _ _ _ _ h tk=>by obtain ⟨x,e,h⟩:=h;exact ⟨x,e,h.keep tk⟩) nsl (by lia) (λk u H' R hu sm' hR=>?_) (λsvs H3 s3 hsl svl hsv=>?_)
  ·obtain ⟨z,hz,pz,qz,rfl,h1,h2⟩:=pr.get hu
   have s':=s02.trans sm';have zm:=Ao hz;obtain ⟨_,z1,z2⟩:=ysm z zm;refine ⟨pz,_,rfl,Gv (s' _ _ h1),rfl,_,_,rfl,_,_,rfl,rfl,((Keep.refl _).set rfl).set rfl,?_⟩;refine ⟨_,rfl,_,rfl,_,rfl,p,C,dx,_,_,rfl,s' _ _ hp,D.cl,D.na _ (by simp),E3,aO,qa,1,1,t,b',rfl,⟨sO _,Gv (s' _ _ hqa),⟨by decide,by decide,by decide +kernel⟩,am,dD 4000 (c:=2) (by decide) (by decide),dD 4000 (c:=2) (by decide) (by decide),ra.bt.mono,ra.bb.mono⟩,mle,λrm H4 s4 hrm=>?_⟩;refine ⟨qz,rm,z.2.1,z.2.2,mt t b',mb t b',rfl,⟨Gv ((s'.trans s4) _ _ h2),Gv hrm,(fy z zm).am,mam,z1,z2,mtS,mbS⟩,λr' H5 s5 h5=>⟨zLn2,λl' hl'=>?_⟩⟩;exact hR _ _ ((s4.trans s5).trans (Gu hl')) ⟨z,hz,l',r',rfl,aD,Gu hl' _ _ h5⟩
  have prs:PrL H3 svs (ys.map (sf t b')):=qG _ (by lia) λk y v hy hv'=>by
   obtain ⟨u',hu'⟩:∃ u',ms[k]?=some u':=⟨_,Ae (by have:=(Ac.mp hy).1;lia)⟩;obtain ⟨x,e,h⟩:=hsv k u' v hu' hv';rw [hy] at e;cases e;exact h
  have s03:=s02.trans s3;refine ⟨_,rfl,_,rfl,_,rfl,p,C,dx,_,_,rfl,s03 _ _ hp,D.cl,D.na _ (by simp),E2,_,rfl,gl,_,rfl,.inl ⟨Gw (s3 _ _ hgl),λgt ngt=>?_⟩⟩;obtain ⟨H4,eH4,s4,hgt⟩:=updX (o:=.tup gvs) ngt;rw [eH4];have s04:=s03.trans s4;have o4:=o.keep s04;have zm:(ys.map (zf t b')).map (·.1)=ys.map (·.1):=by rw [Cb];rfl
  have smm:(ys.map (sf t b')).map (·.1)=ys.map (·.1):=by rw [Cb];rfl
  have fz:∀ z∈ys.map (zf t b'),Fr (M*b') z.2.1 z.2.2 (di.1 z.1*t):=λz hz=>by
   obtain ⟨y,hy,rfl⟩:=AK.mp hz;exact aBh M0 (fy y hy) am
  have fs:∀ z∈ys.map (sf t b'),Fr (M*b') z.2.1 z.2.2 (di.1 z.1*b'-di.1 z.1*t):=λz hz=>by
   obtain ⟨y,hy,rfl⟩:=AK.mp hz;exact aKl M0 (fy y hy) am tb
  have nwz:NW (M*b') (ys.map (zf t b'))=λy=>di.1 y*t:=funext λy=>by
   rw [gW Mb (f:=λy=>di.1 y*t) (by rw [zm];exact mx.nd) fz,zm]
   by_cases c:y∈ys.map (·.1)
   ·rw [if_pos c]
   ·rw [if_neg c]
    have:di.1 y=0:=Br λh=>c ((mx.mem y).mpr h);rw [this,BV]
  have nws:NW (M*b') (ys.map (sf t b'))=λy=>di.1 y*b'-di.1 y*t:=funext λy=>by
   rw [gW Mb (f:=λy=>di.1 y*b'-di.1 y*t) (by rw [smm];exact mx.nd) fs,smm]
   by_cases c:y∈ys.map (·.1)
   ·rw [if_pos c]
   ·rw [if_neg c]
    have:di.1 y=0:=Br λh=>c ((mx.mem y).mpr h);rw [this,BV,BV];rfl
  have sc:=o.so.scale b0 ra.bb;have bMb:Bt 2900 (M*b'):=(o.so.bm.mul ra.bb).mono (by lia);have nl:di.2.length<=6:=Bj ((fQ okd.srt).length_le_of_subset okd.nin) o.bs.ww.l;have hin:∀ y∈ys,y.1∈ws:=λy hy=>okd.inw y.1 ((mx.mem y.1).mp (Cu hy));refine ⟨_,rfl,_,rfl,b,r,q,l,gt,nn,rs,us,ps,rbs,ws,M*b',scl b' S,j,(λy=>dj.1 y*b',dj.2),rbj,gvs,ys.map (zf t b'),di.2,n,rfl,hn,?_,?_,?_⟩
  ·refine ⟨o4.bs.bn,o4.bs.rm,o.bs.ww,o4.st.scale M0 b0,by unfold scl;rw [Ag,o.so.sl];exact o.bs.rm.1.symm,sc.ok,fE hdj,hrj,hgt,prg.keep (s3.trans s4).tk,λz hz=>⟨(fz z hz).am,(fz z hz).dvd⟩,λz hz=>?_,by rw [Ag];exact yl,s04 _ _ hnn,okd.nin,by lia,Mb,bMb,?_⟩
   ·obtain ⟨y,hy,rfl⟩:=AK.mp hz
    exact hin y hy
   ·rw [nwz]
    show Bt 2900 (tot ws (λy=>dj.1 y*b'+di.1 y*t));rw [hW (λy=>dj.1 y*b') (λy=>di.1 y*t) ws,eO,eO];obtain ⟨_,tb2⟩:=o.so.small hdj hrj (o.bs.rm.at hrj);have h1:Bt 2800 (tot ws dj.1*b'):=(tb2.mul ra.bb).mono (by lia);have h2:Bt 2800 (tot ws di.1*t):=(tbt.mul ra.bt).mono (by lia);exact (h1.add h2).mono
  ·rw [nwz]
   exact (kI'.mono s04).1
  ·rw [nwz]
   have kI4:=kI'.mono s04;refine λc nm' u=>⟨(kI4.2 c nm' u).1,λe l' H5 s5 nl' st5=>?_⟩;obtain ⟨vs5,hl5,vl5,hvs5⟩:=st5.ex;have s35:=s4.trans s5;have sumS:sumN (M*b') (ys.map (sf t b'))=tot ws (λy=>di.1 y*b'-di.1 y*t):=by
    rw [<- nws];exact (lQ o.bs.ww.nd λx hx=>by
     obtain ⟨y,hy,rfl⟩:=AK.mp hx;exact hin y hy).symm
   have ovs:Over (M*b') (ys.map (sf t b')):=λz hz=>⟨(fs z hz).am,(fs z hz).dvd⟩;refine ⟨_,rfl,_,rfl,p,C,dx,_,_,rfl,(s04.trans s5) _ _ hp,D.cl,D.na _ (by simp),E1,_,rfl,sl,svs,ys.map (sf t b'),M*b',rfl,Gw (s35 _ _ hsl),prs.keep s35.tk,by rw [Ag];lia,ovs,Mb,bMb.mono,?_,λxm xs' xy H6 s6 hxm pxm mxm=>?_⟩
   ·have n1:=bW Mb ovs
    have h1:Bt 2800 (tot ws di.1*b'):=(tbt.mul ra.bb).mono (by lia);refine (h1.le n1 ?_).mono;rw [sumS,<- eO];have:∀ ws:Gh,tot ws (λy=>di.1 y*b'-di.1 y*t)<=tot ws (λy=>di.1 y*b'):=λws=>by
     induction ws with
     |nil=>exact DB _
     |cons y r ih=>
      unfold tot at ih ⊢;rw [Ak,Ak,AI,AI];have:=Bu (okd.nn y) (show 0<=t by lia);lia
    exact this ws
   ·have st6:=st5.keep s6
    have svl:vs5.length<=20:=by
     rw [vl5,BB];unfold scl;rw [Ag];lia
    have mxz:IsMx (M*b') (λy=>di.1 y*b'-di.1 y*t) xy:=by
     have:=IsMx.of mxm;rw [nws] at this;exact this
    have si:i<vs5.length:=by
     rw [vl5,BB];unfold scl;rw [Ag];exact (Ac.mp hdi).1
    refine ⟨_,rfl,l',i,.ref xm,.ref nn,vs5,rfl,s6 _ _ hl5,si,svl,λl7 z7 H7 s7 nl7 hz7 hl7=>?_⟩;have s47:=(s5.trans s6).trans s7;refine (kI4.2 c nm' u).2 e l7 H7 s47 (sm0 (s5.trans s6) nl7) ?_;have:=st6.put (d:=(λy=>di.1 y*b'-di.1 y*t,di.2)) (s6 _ _ hl5) s7 hl7 ⟨z7,xm,nn,xs',xy,rfl,hz7,s7 _ _ hxm,pxm.keep s7.tk,mxz,(s04.trans s47) _ _ hnn⟩;rw [Fk _ _ (Bi ij)] at this;exact this
end
def ResP (c0 c1 c2 c3 c4:Gj)(us:Gq)(ps:Gf)(rbs:Gg)(ws:Gh)(M:Int)(S:List PF)(n:Nat)(H:Hp)(Q:VK)(E:XK):Rw->Prop
 |.draw i x t b=>∃ d rb,S[i]?=some d/\rbs[i]?=some rb/\IntoR c3 c4 us ps ws (M*b) (scl b S) i (λy=>d.1 y*b,d.2) rb (oneW x (t*M)) [x] n H Q E
 |.empty i=>∃ d,S[i]?=some d/\∀ l' H',Same H H'->H l'=none->StV H' l' M (S.set i (λ_=>0,d.2))->Q (.ref l') H'
 |.rinse i=>∃ d,S[i]?=some d/\(¬ (∀ y,d.1 y=0)->BadE c2 [("phial",.int (i:Nat)),("place",.int (n:Nat))] H E)/\((∀ y,d.1 y=0)->∀ l' H',Same H H'->H l'=none->StV H' l' M (S.set i (λ_=>0,[]))->Q (.ref l') H')
 |.fill i x t b=>∃ d rb,S[i]?=some d/\rbs[i]?=some rb/\(¬ tot ws d.1*b<t*M->BadE c1 [("phial",.int (i:Nat)),("place",.int (n:Nat))] H E)/\(tot ws d.1*b<t*M->IntoR c3 c4 us ps ws (M*b) (scl b S) i (λy=>d.1 y*b,d.2) rb (oneW x (t*M-tot ws d.1*b)) [x] n H Q E)
 |.pour i j t b=>∃ di dj rbj,S[i]?=some di/\S[j]?=some dj/\rbs[j]?=some rbj/\((∀ y,di.1 y=0)->BadE c0 [("phial",.int (i:Nat)),("place",.int (n:Nat))] H E)/\(¬ (∀ y,di.1 y=0)->IntoR c3 c4 us ps ws (M*b) ((scl b S).set i (λy=>di.1 y*b-di.1 y*t,di.2)) j (λy=>dj.1 y*b,dj.2) rbj (λy=>di.1 y*t) di.2 n H Q E)
inductive spDoneAt (K:Ab)(c0 c1 c2 c3 c4:Gj)(vs:Gq)(H:Hp)(Q:VK)(E:XK):Prop
 |mk (b r q l a rs us ps rbs ws M S β rw n:_) (e0:vs=[.ref b,.ref l,.ref a,.int ((n:Nat):Int)]) (e1:n<1000) (e2:OnIn H b r q l rs us ps rbs ws M S β) (e3:RwV H a rw) (e4:GoodR rs.length ws rw) (e5:ResP c0 c1 c2 c3 c4 us ps rbs ws M S n H Q E rw):spDoneAt K c0 c1 c2 c3 c4 vs H Q E
abbrev aD5 (CD CF CP CE CR c0 c1 c2 c3 c4:Gj):List (Gj×Sp):=[(CD,spODraw CD c3 c4),(CF,spOFill CF c1 c3 c4),(CP,spOPour CP c0 c3 c4),(CE,spOEmpty CE),(CR,spORinse CR c2)]
section
variable {P:Aw}{w:World}{K:Ab}{mg:Gb}{base:Heap}{cP c0 c1 c2 c3 c4 f0 f1 f2 f3 f4 CD CF CP CE CR:Gj}
def aB1:FnScope ["bench","phials","row","place"] ["bench","phials","row","place"] (aG qD):=fnScOk
def yT {f:Gj}{fd:Ay}(F:Fun K "done_at" "done_at" qD f fd)(cD:Cal P w K mg base CX0 7 "deed_at" ["bench","row","place"] (spDeedAt CD CF CP CE CR))(hT:∀ c∈aD5 CD CF CP CE CR c0 c1 c2 c3 c4,Cls K c.1/\MCal P w K mg base (CXg P w) 7 c.1 "onto_at" Non c.2):FnOk P w K mg base (CXg P w) 8 f fd ["bench","phials","row","place"] (spDoneAt K c0 c1 c2 c3 c4):=by
 refine F.okFA aB1 (λcdv A outer s H vs Q E hr h=>?_)
 ·obtain ⟨b,r,q,l,a,rs,us,ps,rbs,ws,M,S,β,rw',n,rfl,hn,o,rv,gr,res⟩:=h
  refine ⟨_,aE (aL (aIt hT hr oA (aI cD hr (aA (pv 0) (aA (pv 2) (aA (pv 3) aB)))) (aA (pv 0) (aA (pv 1) (aA (pv 3) aB))))),?_⟩;have s16:S.length<=16:=by rw [o.so.sl,<- o.bs.rm.1];exact o.bs.bn.l16
  refine ⟨_,rfl,_,rfl,_,rfl,b,a,rs.length,ws,rw',n,rfl,⟨⟨r,_,rs,o.bs.bn.hp,o.bs.bn.hr,rfl⟩,rv,gr,o.bs.ww.w⟩,λq' p dx H' h2 s' np hp=>?_⟩;cases rw' with
  |draw i x' t b'=>
   obtain ⟨d,rb,hd,hrb,kI⟩:=res;exact ⟨CD,_,p,dx,_,Al ..,rfl,hp,aAc (by decide +kernel) (by decide +kernel) (by decide +kernel),_,rfl,_,rfl,_,rfl,p,dx,b,r,q,l,q',rs,us,ps,rbs,ws,M,S,β,i,d,rb,x',t,b',n,rfl,hn,hp,s' _ _ h2,gr.2.2.1,gr.2.1,o.keep s',hd,hrb,kI.mono s'⟩
  |fill i x' t b'=>
   obtain ⟨d,rb,hd,hrb,kB,kI⟩:=res;exact ⟨CF,_,p,dx,_,Ah _ (Al ..),rfl,hp,aAc (by decide +kernel) (by decide +kernel) (by decide +kernel),_,rfl,_,rfl,_,rfl,p,dx,b,r,q,l,q',rs,us,ps,rbs,ws,M,S,β,i,d,rb,x',t,b',n,rfl,hn,hp,s' _ _ h2,gr.2.2,gr.2.1,o.keep s',hd,hrb,λc=>(kB c).mono s',λc=>(kI c).mono s'⟩
  |pour i j t b'=>
   obtain ⟨di,dj,rbj,hdi,hdj,hrj,kD,kI⟩:=res;obtain ⟨g1,g2,g3,g4,g5,g6⟩:=gr;exact ⟨CP,_,p,dx,_,Ah _ (Ah _ (Al ..)),rfl,hp,aAc (by decide +kernel) (by decide +kernel) (by decide +kernel),_,rfl,_,rfl,_,rfl,p,dx,b,r,q,l,q',rs,us,ps,rbs,ws,M,S,β,i,j,t,b',di,dj,rbj,n,rfl,hn,hp,s' _ _ h2,g4,g5,g6,g3,o.keep s',hdi,hdj,hrj,λc=>(kD c).mono s',λc=>(kI c).mono s'⟩
  |empty i=>
   obtain ⟨d,hd,k⟩:=res;exact ⟨CE,_,p,dx,_,Ah _ (Ah _ (Ah _ (Al ..))),rfl,hp,aEc (by decide +kernel),_,rfl,_,rfl,_,rfl,p,dx,_,l,M,S,i,d,_,rfl,hp,o.st.keep s',s16,hd,λl' H2 s2 nl st=>k l' H2 (s'.trans s2) (sm0 s' nl) st⟩
  |rinse i=>
   obtain ⟨d,hd,kB,kG⟩:=res;exact ⟨CR,_,p,dx,_,Ah _ (Ah _ (Ah _ (Ah _ (Al ..)))),rfl,hp,aEc (by decide +kernel),_,rfl,_,rfl,_,rfl,p,dx,_,l,M,S,i,d,n,rfl,hn,hp,o.st.keep s',s16,hd,λc=>(kB c).mono s',λz l' H2 s2 nl st=>kG z l' H2 (s'.trans s2) (sm0 s' nl) st⟩
end
end K53
namespace TR
open L2 GM
def aH3 {σ:L2.St}(S:L2.St->Hp->Prop)(h:∀ σ' H',S σ' H'->u D σ' H')(g:∀ N:L2.St->Hp->Prop,(∀ σ' H',S σ' H'->N σ' H')->t { D with nx:=N } σ H):tSeq t u D σ H:=g (u D) h
def Top2 (l:List Int)(f s:Int):Prop:=∃ r,(l++[0,0]).Perm (f::s::r)/\s<=f/\∀ x∈r,x<=s
def Nd (ds:List Int)(d:Int):Prop:=∃ f s,Top2 ds f s/\d=max f (s+1)
def av:List Int->Int
 |[]=>0
 |c::r=>av r-c+1
def Okc:List Int->Prop
 |[]=>True
 |c::r=>Okc r/\0<=c/\c<64/\c<=av r
def Gd (p:List Int)(m l:Int):Prop:=∀ r,Okc r->l<=av r->Okc (p++r)/\av r-l+m<=av (p++r)
def Am (H:Hp)(m:Gj)(n:Nat):Prop:=∃ t b:Int,H m=some (.tup [.int t,.int b])/\0<=t/\1<=b/\Bt (64*n-1) t/\Bt (64*n-1) b
abbrev Pt:=V×Nat×Int
def szs (cs:List Pt):Nat:=(cs.map (·.2.1)).sum
def Tr (H:Hp):Nat->V->Nat->Int->Prop
 |0,_,_,_=>False
 |n+1,v,s,d=>
  (∃ (p m:Gj) (x:Str),v=.ref p/\H p=some (.tup [.str "ware",.str x,.ref m])/\Am H m 1/\s=1/\d=0) \/
  (∃ (p m q:Gj) (x:Str) (cs:List Pt),v=.ref p/\H p=some (.tup [.str "recipe",.str x,.ref m,.ref q])/\H q=some (.tup (cs.map (·.1)))/\1<=cs.length/\cs.length<64 /\
   (∀ c∈cs,Tr H n c.1 c.2.1 c.2.2)/\s=1+szs cs/\Nd (cs.map (·.2.2)) d/\Am H m s)
def Bx (a:Gj)(H H':Hp):Prop:=∀ b o,b≠a->H b=some o->H' b=some o
def nzc (cs:List Int):Nat:=(cs.filter λc=>c != 0).length
structure Pile (H:Hp)(cs:List Int)(j:Nat)(pl:List Pt):Prop where
 tr:∀ c∈pl,Tr H (nzc (cs.drop (cs.length-j))+1) c.1 c.2.1 c.2.2
 sz:szs pl=j
 ln:(pl.length:Int)=av (cs.drop (cs.length-j))
 hd:1<=j->∃ pl' q,pl=pl'++[q]/\∀ c,cs[cs.length-j]?=some c->1<=c->1<=q.2.2
def AtP (H:Hp):V->List Nat->V->Prop
 |v,[],u=>v=u
 |v,k::r,u=>∃ (p m q:Gj) (x:Str) (vs:Gq) (c:V),v=.ref p/\H p=some (.tup [.str "recipe",.str x,.ref m,.ref q])/\H q=some (.tup vs)/\vs[k]?=some c/\AtP H c r u
abbrev pth (ks:List Nat):Gq:=ks.map λ(k:Nat)=>V.int (k:Int)
def Ent (H:Hp)(root:V)(N:Nat)(e:Gj)(s:Nat):Prop:=∃ (pa:Gj) (ks:List Nat) (v:V) (n:Nat) (d:Int),H e=some (.tup [.ref pa,v])/\H pa=some (.tup (pth ks))/\AtP H root ks v/\Tr H n v s d/\ks.length+n<=N
end TR
namespace K53
open L2 GM TM TR
def rwb:Rw->Int
 |.draw _ _ _ b=>b
 |.fill _ _ _ b=>b
 |.pour _ _ _ b=>b
 |_=>1
def rwt:Rw->Int
 |.draw _ _ t _=>t
 |.fill _ _ t _=>t
 |_=>1
inductive GR (H:Hp)(nb:Nat)(ws:Gh):Gj->Prop where
 |am {z:Gj} {wd:Str} {p x q t b}:wd = "draw" \/ wd = "fill" -> H z=some (.tup [.str wd,.int p,.str x,.ref q])->0<=p->p<(nb:Int)->x∈ws->H q=some (.tup [.int t,.int b])->Rm t b->t<=1000/\b<=100->GR H nb ws z
 |pour {z p o q t b}:H z=some (.tup [.str "pour",.int p,.int o,.ref q])->0<=p->p<(nb:Int)->0<=o->o<(nb:Int)->p≠o->H q=some (.tup [.int t,.int b])->Rm t b->t<=b->b<=100->GR H nb ws z
 |one {z:Gj} {wd:Str} {p}:wd = "empty" \/ wd = "rinse" -> H z=some (.tup [.str wd,.int p])->0<=p->p<(nb:Int)->GR H nb ws z
def WsV (H:Hp)(wl:Gj)(ws:Gh):Prop:=H wl=some (.lst (ws.map V.str))/\ws.length=6/\∀ x∈ws,Wr x
def sU {p d nb:Int}(p0:0<=p)(pn:p<nb)(d0:0<=d)(dn:d<nb-1):0<=(p+1+d)%nb/\(p+1+d)%nb<nb/\p≠(p+1+d)%nb:=by
 have e:=bY (p+1+d) (m:=nb) (by lia);refine ⟨e.1,e.2,λz=>?_⟩
 by_cases h:p+1+d<nb
 ·rw [Int.emod_eq_of_lt (by lia) h] at z
  lia
 ·have:(p+1+d)%nb=(p+1+d-nb)%nb:=by rw [Int.sub_emod,Int.emod_self,Int.sub_zero,Int.emod_emod]
  rw [this,Int.emod_eq_of_lt (by lia) (by lia)] at z;lia
def xT {d b:Int}(d0:0<=d)(db:d<b)(b1:1<=b)(b100:b<=100)(sb:Bt 100 b):Rm ((1+d)/G (1+d) b) (b/G (1+d) b)/\(1+d)/G (1+d) b<=b/G (1+d) b/\b/G (1+d) b<=100:=by
 have g:=rH (a:=1+d) (b:=b) (by lia);exact ⟨tJ (by lia) b1 (sb.le (by lia) (by lia)) sb,Int.ediv_le_ediv g (by lia),Ez (Ci _ (by lia)) b100⟩
def aJ5 {a wl:Gj}{H:Hp}{ws:Gh}(h:WsV H wl ws)(l:Lf H a):wl≠a:=λz=>by
 obtain ⟨n,e,_⟩:=l;obtain ⟨h1,h2,_⟩:=h;rw [z,e] at h1;have:=congrArg List.length (HO.lst.inj (AA h1));rw [Ag,h2] at this;simp at this
inductive spFreeRow (vs:Gq)(H:Hp)(Q:VK)(Ex:XK):Prop
 |mk (b wl a nb ws:_) (e0:vs=[.ref b,.ref wl,.ref a]) (e1:BnV H b nb) (e2:1<=nb) (e3:nb<=16) (e4:WsV H wl ws) (e5:Lf H a) (e6:∀ z H',SmB a H H'->Lf H' a->GR H' nb ws z->Q (.ref z) H'):spFreeRow  vs H Q Ex
def aHz (K:Ab):Sp:=λvs H Q _=>∃ b wl sc nb ws,∃ (ns:List Int) (k:Nat),vs=[.ref b,.ref wl,.ref sc,.int (k:Nat)]/\BnV H b nb/\1<=nb/\nb<=16/\WsV H wl ws/\SqL K H sc (ns.map V.int)/\k<ns.length/\k<=900/\∀ z H',Same H H'->GR H' nb ws z->Q (.ref z) H'
def aKw {d:Int}(d0:0<=d)(d5:d<5):∃ wd:Str,atI [V.str "draw",.str "fill",.str "pour",.str "empty",.str "rinse"] d=some (.str wd)/\(wd = "draw" \/ wd = "fill" \/ wd = "pour" \/ wd = "empty" \/ wd = "rinse"):=by
 have:d=0\/d=1\/d=2\/d=3\/d=4:=by lia
 rcases this with rfl|rfl|rfl|rfl|rfl
 ·exact ⟨"draw",rfl,.inl rfl⟩
 ·exact ⟨"fill",rfl,.inr (.inl rfl)⟩
 ·exact ⟨"pour",rfl,.inr (.inr (.inl rfl))⟩
 ·exact ⟨"empty",rfl,.inr (.inr (.inr (.inl rfl)))⟩
 ·exact ⟨"rinse",rfl,.inr (.inr (.inr (.inr rfl)))⟩
def aKv {d:Int}(d0:0<=d)(d9:d<10):∃ wd:Str,atI [V.str "draw",.str "draw",.str "draw",.str "draw",.str "pour",.str "pour",.str "pour",.str "fill",.str "empty",.str "rinse"] d=some (.str wd)/\(wd = "draw" \/ wd = "fill" \/ wd = "pour" \/ wd = "empty" \/ wd = "rinse"):=by
 have:d=0\/d=1\/d=2\/d=3\/d=4\/d=5\/d=6\/d=7\/d=8\/d=9:=by lia
 rcases this with rfl|rfl|rfl|rfl|rfl|rfl|rfl|rfl|rfl|rfl
 ·exact ⟨"draw",rfl,.inl rfl⟩
 ·exact ⟨"draw",rfl,.inl rfl⟩
 ·exact ⟨"draw",rfl,.inl rfl⟩
 ·exact ⟨"draw",rfl,.inl rfl⟩
 ·exact ⟨"pour",rfl,.inr (.inr (.inl rfl))⟩
 ·exact ⟨"pour",rfl,.inr (.inr (.inl rfl))⟩
 ·exact ⟨"pour",rfl,.inr (.inr (.inl rfl))⟩
 ·exact ⟨"fill",rfl,.inr (.inl rfl)⟩
 ·exact ⟨"empty",rfl,.inr (.inr (.inr (.inl rfl)))⟩
 ·exact ⟨"rinse",rfl,.inr (.inr (.inr (.inr rfl)))⟩
def GR.good {H:Hp}{nb:Nat}{ws:Gh}{z:Gj}(h:GR H nb ws z):∃ rw,RwV H z rw/\GoodR nb ws rw/\rwt rw<=1000/\rwb rw<=100:=by
 have ra:∀ {t b:Int},Rm t b->RwA t b:=λh=>⟨⟨by have:=h.1;lia,h.2,h.3⟩,h.4.mono,h.5.mono⟩;cases h with
 |@am wd p x q t b a1 a2 a3 a4 a5 a6 a7 a8=>
  obtain ⟨i,rfl⟩:=BC a3
  rcases a1 with rfl|rfl
  ·exact ⟨.draw i x t b,⟨q,a2,a6⟩,⟨by lia,a5,ra a7,a7.1⟩,a8⟩
  ·exact ⟨.fill i x t b,⟨q,a2,a6⟩,⟨by lia,a5,ra a7⟩,a8⟩
 |@pour p o q t b a1 a2 a3 a4 a5 a6 a7 a8 a9 a10=>
  obtain ⟨i,rfl⟩:=BC a2;obtain ⟨j,rfl⟩:=BC a4;exact ⟨.pour i j t b,⟨q,a1,a7⟩,⟨by lia,by lia,λe=>a6 (by rw [e]),ra a8,a8.1,a9⟩,by show (1:Int)<=1000;decide,a10⟩
 |@one wd p a1 a2 a3 a4=>
  obtain ⟨i,rfl⟩:=BC a3
  rcases a1 with rfl|rfl
  ·exact ⟨.empty i,a2,(show i<nb by lia),(by show (1:Int)<=1000;decide),(by show (1:Int)<=100;decide)⟩
  ·exact ⟨.rinse i,a2,(show i<nb by lia),(by show (1:Int)<=1000;decide),(by show (1:Int)<=100;decide)⟩
section
variable {P:Aw}{w:World}{K:Ab}{mg:Gb}{base:Heap}
abbrev Nfr:Gh:=["_law_bench","_law_wares_here","_law_left","_law_many","_law_kind","_law_phial","_law_other","_law_bottom","_law_ware","_law_top"]
def dN:FnScope Nfr ["_law_bench","_law_wares_here","_law_left"] (aG mC):=fnScOk
def uY {f:Gj}{fd:Ay}(F:Fun K "_law_free_row" "_law_free_row" mC f fd)(T:Txt mg)(cD:Cal P w K mg base CX0 1 "_law_digit" ["_law_left","_law_many"] lY)(cL:Cal P w K mg base CX0 1 "_law_lowest" ["_law_top","_law_bottom"] eG):FnOk P w K mg base CX0 2 f fd ["_law_bench","_law_wares_here","_law_left"] spFreeRow:=by
 refine F.okA dN (λcdv A outer s H vs Q E hr h=>?_)
 ·obtain ⟨b,wl,a,nb,ws,rfl,bn,n1,n16,wv,lf,k⟩:=h
  refine ⟨_,(aC (aK (i:=3) dN.nd (aV bA rfl T.len BO (aA (pit 0 0) aB)))
   (aC (aK (i:=4) dN.nd (aZ aX (cZ (pa_c aR (pa_c aR (pa_c aR (pa_c aR (pa_c aR aB)))))) (aI cD hr (aA (pv 2) (aA aH aB))) (λ_ _=>rfl)))
   (aC (aK (i:=5) dN.nd (aI cD hr (aA (pv 2) (aA (pv 3) aB))))
   (aC (bD (PW.pt (fH (aM cJ (pv 4) aR) (eQ (aM cJ (pv 3) aH))))
    (aE (aK (i:=4) dN.nd aR))
    aS)
   (aC (bD (PW.pt (mE (aM cJ (pv 4) aR) (jU (aM cJ (pv 4) aR))))
    (aE (aL (aT (aA (pv 4) (aA (pv 5) aB)))))
    aS)
   (aC (bD (aM cJ (pv 4) aR)
    (aC (aK (i:=6) dN.nd (aP bU (aP bL (aP bL (pv 5) aH) (aI cD hr (aA (pv 2) (aA (aP sV (pv 3) aH) aB)))) (pv 3)))
    (aC (aK (i:=7) dN.nd (aP bL aH (aI cD hr (aA (pv 2) (aA aH aB)))))
    (aE (aL (aT (aA (pv 4) (aA (pv 5) (aA (pv 6) (aA (aI cL hr (aA (aP bL aH (aI cD hr (aA (pv 2) (aA (pv 7) aB)))) (aA (pv 7) aB))) aB)))))))))
    aS)
   (aC (aK (i:=8) dN.nd (aZ aX (pv 1) (aI cD hr (aA (pv 2) (aA aH aB))) (λ_ _=>rfl)))
   (aC (aK (i:=9) dN.nd (aP bL aH (aI cD hr (aA (pv 2) (aA aH aB)))))
   (aE (aL (aT (aA (pv 4) (aA (pv 5) (aA (pv 8) (aA (aI cL hr (aA (pv 9) (aA (aP bL aH (aI cD hr (aA (pv 2) (aA aH aB)))) aB))) aB))))))))))))))),?_⟩
  obtain ⟨r,q0,rs,hb,hrr,rl⟩:=id bn;have wne:=aJ5 wv lf;refine ⟨b,_,_,rfl,Gv hb,rfl,r,_,rfl,.inr (Gv hrr),?_⟩;refine ⟨zLn5,λz5 nz5=>?_⟩;obtain ⟨H1,eH1,s5,h5⟩:=updX (o:=.lst [V.str "draw",.str "fill",.str "pour",.str "empty",.str "rinse"]) nz5;rw [eH1];have z5a:z5≠a:=lf.there nz5;have lf1:=lf.keep s5;refine ⟨_,rfl,a,5,rfl,lf1,by decide,b9,λd0 H2 d00 d05 sb2 lf2=>?_⟩;obtain ⟨wd,hat,hwd⟩:=aKw d00 d05;refine ⟨z5,_,d0,.str wd,rfl,rfl,Gw (sb2 _ _ z5a h5),hat,?_⟩;have sb02:SmB a H H2:=(SmB.of s5).trans sb2;have bnb:Bt 9000 ((rs.length:Nat):Int):=b9 (by lia) (by lia);refine ⟨_,rfl,_,rfl,a,_,rfl,lf2,by lia,bnb,λp H3 p0 pl sb3 lf3=>?_⟩;have sb03:=sb02.trans sb3;have pn:p<(nb:Int):=by rw [<- rl];exact pl
  dsimp only [gName];refine aH3 (λσ' H'=>∃ wd':Str,σ'=[some (.ref b),some (.ref wl),some (.ref a),some (.int ((rs.length:Nat):Int)),some (.str wd'),some (.int p),none,none,none,none]/\H'=H3/\((wd' = "empty" \/ wd' = "rinse")\/(wd' = "pour" /\ 1<nb)\/(wd' = "draw" \/ wd' = "fill"))) ?_ (λN hN=>?_)
  ·intro σ' H' hh
   obtain ⟨wd',rfl,rfl,hw⟩:=hh
   rcases hw with hw|⟨rfl,n2⟩|hw
   ·have fin:∀ z,H' z=none->Q (.ref z) (upd H' z (.tup [.str wd',.int p])):=λz nz=>k z _ (sb03.own (sb03.none nz (lf3.there nz))) (lf3.keep (Gu nz)) (.one hw aD p0 pn)
    rcases hw with rfl|rfl
    ·exact ⟨_,rfl,rfl,_,rfl,iteT ⟨_,rfl,_,rfl,zLn2,fin⟩⟩
    ·exact ⟨_,rfl,rfl,_,rfl,iteF ⟨_,rfl,rfl,_,rfl,iteT ⟨_,rfl,_,rfl,zLn2,fin⟩⟩⟩
   ·refine ⟨_,rfl,rfl,_,rfl,iteF ⟨_,rfl,rfl,_,rfl,iteF ⟨_,rfl,rfl,_,rfl,iteT ?_⟩⟩⟩
    refine ⟨_,rfl,_,_,rfl,rfl,_,rfl,_,rfl,_,_,rfl,rfl,a,_,rfl,lf3,by lia,b9 (by lia) (by lia),λd H4 d00 dl sb4 lf4=>?_⟩;have sb04:=sb03.trans sb4;obtain ⟨o0,ol,po⟩:=sU p0 pn d00 (by rw [<- rl];exact dl);refine ⟨_,_,rfl,rfl,_,rfl,_,_,rfl,rfl,by lia,?_⟩;refine ⟨_,rfl,a,100,rfl,lf4,by decide,b9,λe H5 e0 el sb5 lf5=>⟨_,_,rfl,rfl,?_⟩⟩;have sb05:=sb04.trans sb5;have sbt:Bt 100 (1+e):=dD 100 (c:=101) (by lia) (by lia);refine ⟨_,rfl,_,rfl,_,rfl,_,rfl,_,rfl,a,_,rfl,lf5,by lia,sbt.mono,λe2 H6 e20 e2l sb6 lf6=>⟨_,_,rfl,rfl,_,rfl,1+e2,1+e,rfl,by lia,by lia,sbt.mono,λq H7 s7 nq hq=>⟨zLn4,λz nz=>?_⟩⟩⟩;have sb06:=sb05.trans sb6;have sb07:=sb06.trans (SmB.of s7);have lf7:=lf6.keep s7;obtain ⟨rm,le,l1⟩:=xT e20 e2l (by lia) (by lia) sbt;rw [rl];refine k z _ (sb07.own (sb07.none nz (lf7.there nz))) (lf7.keep (Gu nz)) (.pour aD p0 pn o0 ol po (Gu nz _ _ hq) rm le l1)
   ·have fin:∀ {wd':Str},(wd' = "draw" \/ wd' = "fill")->∀ (x:Str) q t b' H7 z,x∈ws->SmB a H H7->Lf H7 a->H7 q=some (.tup [.int t,.int b'])->Rm t b'->t<=1000/\b'<=100->H7 z=none->Q (.ref z) (upd H7 z (.tup [.str wd',.int p,.str x,.ref q])):=λ{wd'} hw x q t b' H7 z wx sb7 lf7 hq rm l1 nz=>k z _ (sb7.own (sb7.none nz (lf7.there nz))) (lf7.keep (Gu nz)) (.am hw aD p0 pn wx (Gu nz _ _ hq) rm l1)
    have fin':=fin hw
    rcases hw with rfl|rfl <;>
    ·refine ⟨_,rfl,rfl,_,rfl,iteF ⟨_,rfl,rfl,_,rfl,iteF ⟨_,rfl,rfl,_,rfl,iteF ?_⟩⟩⟩
     refine ⟨_,rfl,_,rfl,a,6,rfl,lf3,by decide,b9,λd H4 d00 dl sb4 lf4=>?_⟩;have sb04:=sb03.trans sb4;obtain ⟨j,rfl⟩:=BC d00;obtain ⟨x,hx⟩:∃ x,ws[j]?=some x:=⟨_,Ae (by have:=wv.2.1;lia)⟩;refine ⟨wl,_,(j:Int),.str x,rfl,rfl,Gw (sb04 _ _ wne wv.1),aU (by rw [Aq,hx];rfl),?_⟩;refine ⟨_,rfl,a,1000,rfl,lf4,by decide,b9,λe H5 e0 el sb5 lf5=>⟨_,_,rfl,rfl,?_⟩⟩;refine ⟨_,rfl,_,rfl,_,rfl,_,rfl,_,rfl,a,100,rfl,lf5,by decide,b9,λe2 H6 e20 e2l sb6 lf6=>⟨_,_,rfl,rfl,1+e,1+e2,rfl,by lia,by lia,(dD 100 (c:=101) (by lia) (by lia):Bt 100 (1+e2)).mono,λq H7 s7 nq hq=>⟨zLn4,λz nz=>?_⟩⟩⟩;exact fin' x q _ _ H7 z (Ao hx) (((sb04.trans sb5).trans sb6).trans (SmB.of s7)) (lf6.keep s7) hq (tJ (by lia) (by lia) (dD 100 (c:=1001) (by lia) (by lia)) (dD 100 (c:=101) (by lia) (by lia))) ⟨Ez (Ci _ (by lia)) (by lia),Ez (Ci _ (by lia)) (by lia)⟩ nz
  ·rcases hwd with rfl|rfl|rfl|rfl|rfl
   ·exact ⟨_,rfl,rfl,_,rfl,iteF (iteF (hN _ _ ⟨_,rfl,rfl,.inr (.inr (.inl rfl))⟩))⟩
   ·exact ⟨_,rfl,rfl,_,rfl,iteF (iteF (hN _ _ ⟨_,rfl,rfl,.inr (.inr (.inr rfl))⟩))⟩
   ·refine ⟨_,rfl,rfl,_,rfl,iteT ⟨_,rfl,rfl,_,rfl,ite2 (λhc=>hN _ _ ⟨_,rfl,rfl,.inl (.inl rfl)⟩) (λhc=>hN _ _ ⟨_,rfl,rfl,.inr (.inl ⟨rfl,?_⟩)⟩)⟩⟩
    have:¬ ((rs.length:Nat):Int)=1:=λz=>hc (decide_eq_true (by rw [z]));lia
   ·exact ⟨_,rfl,rfl,_,rfl,iteF (iteF (hN _ _ ⟨_,rfl,rfl,.inl (.inl rfl)⟩))⟩
   ·exact ⟨_,rfl,rfl,_,rfl,iteF (iteF (hN _ _ ⟨_,rfl,rfl,.inl (.inr rfl)⟩))⟩
abbrev Nrw:Gh:=["_law_bench","_law_wares_here","_law_script","_law_k","_law_number","_law_many","_law_phial","_law_ware","_law_kind","_law_other","_law_bottom"]
def nM:FnScope Nrw ["_law_bench","_law_wares_here","_law_script","_law_k"] (aG sRow):=fnScOk
def aI2 {f:Gj}{fd:Ay}(F:Fun K "_law_row" "_law_row" sRow f fd)(T:Txt mg)(cC:Cal P w K mg base CX0 2 "_law_cell_at" ["_law_script","_law_k"] (nH K))(cM:Cal P w K mg base CX0 2 "_law_mixed" ["_law_cell","_law_k"] lX)(cF:Cal P w K mg base CX0 2 "_law_free_row" ["_law_bench","_law_wares_here","_law_left"] spFreeRow)(cU:Cal P w K mg base CX0 2 "_law_few" ["_law_number"] aDn)(cL:Cal P w K mg base CX0 2 "_law_lowest" ["_law_top","_law_bottom"] eG):FnOk P w K mg base CX0 3 f fd ["_law_bench","_law_wares_here","_law_script","_law_k"] (aHz K):=by
 refine F.okA nM (λcdv A outer s H vs Q E hr h=>?_)
 ·obtain ⟨b,wl,sc,nb,ws,ns,kk,rfl,bn,n1,n16,wv,hS,kl,k9,k⟩:=h
  refine ⟨_,(aC (bD (aM cJ (aP bU (aI cC hr (aA (pv 2) (aA aH aB))) aH) aH)
    (aE (aL (aI cF hr (aA (pv 0) (aA (pv 1) (aA (cZ (aA (aV jH rfl T.abs' uG (aA (aZ aX (pv 2) (pv 3) (λ_ _=>rfl)) aB)) aB)) aB))))))
    aS)
   (aC (aK (i:=4) nM.nd (aI cM hr (aA (aZ aX (pv 2) (pv 3) (λ_ _=>rfl)) (aA (pv 3) aB))))
   (aC (aK (i:=5) nM.nd (aV bA rfl T.len BO (aA (pit 0 0) aB)))
   (aC (aK (i:=6) nM.nd (aP bU (aP bK (pv 4) aH) (pv 5)))
   (aC (aK (i:=7) nM.nd (aZ aX (pv 1) (aP bU (aP bK (pv 4) aH) aH) (λ_ _=>rfl)))
   (aC (aK (i:=8) nM.nd (aZ aX (cZ (pa_c aR (pa_c aR (pa_c aR (pa_c aR (pa_c aR (pa_c aR (pa_c aR (pa_c aR (pa_c aR (pa_c aR aB))))))))))) (aP bU (pv 4) aH) (λ_ _=>rfl)))
   (aC (bD (PW.pt (mE (aM cJ (pv 8) aR) (jU (aM cJ (pv 8) aR))))
    (aE (aL (aT (aA (pv 8) (aA (pv 6) (aA (pv 7) (aA (aI cU hr (aA (aP bK (pv 4) aH) aB)) aB)))))))
    aS)
   (aC (bD (PW.pt (fH (aM cJ (pv 8) aR) (eQ (aM aIx (pv 5) aH))))
    (aC (aK (i:=9) nM.nd (aP bU (aP bL (aP bL (pv 6) aH) (aP bU (aP bK (pv 4) aH) (aP sV (pv 5) aH))) (pv 5)))
    (aC (aK (i:=10) nM.nd (aP bL aH (aP bU (aP bK (pv 4) aH) aH)))
    (aE (aL (aT (aA (pv 8) (aA (pv 6) (aA (pv 9) (aA (aI cL hr (aA (aP bL aH (aP bU (aP bK (pv 4) aH) (pv 10))) (aA (pv 10) aB))) aB)))))))))
    aS)
   (aC (bD (aM cJ (pv 8) aR)
    (aE (aL (aT (aA aR (aA (pv 6) aB)))))
    aS)
   (aE (aL (aT (aA (pv 8) (aA (pv 6) aB)))))))))))))),?_⟩
  obtain ⟨c,hc⟩:∃ c,ns[kk]?=some c:=⟨_,Ae kl⟩;have hcat:atI (ns.map V.int) (kk:Int)=some (.int c):=aU (by rw [Aq,hc];rfl);obtain ⟨r,q0,rs,hb,hrr,rl⟩:=id bn;refine ⟨_,rfl,sc,ns,0,rfl,hS,by decide,λc0=>⟨_,_,rfl,rfl,(by show (0:Int)<2;decide),rfl,_,rfl,ite2 (λ_=>?_) (λ_=>?_)⟩⟩
  ·refine ⟨_,rfl,_,rfl,_,rfl,_,rfl,sc,_,(kk:Int),.int c,rfl,rfl,hS,hcat,c,rfl,zLn1,λl nl=>?_⟩
   have c0':=abs_nonneg c;generalize (if c<0 then -c else c)=n at *
   obtain ⟨H1,eH1,sl,hl⟩:=updX (o:=.lst [.int n]) nl;rw [eH1];refine ⟨b,wl,l,nb,ws,rfl,bn.keep sl,n1,n16,⟨sl _ _ wv.1,wv.2⟩,⟨n,hl,c0'⟩,λz H' sb lf gr=>k z H' (gN sl sb nl) gr⟩
  ·refine ⟨_,rfl,_,rfl,sc,_,(kk:Int),.int c,rfl,rfl,hS,hcat,_,rfl,c,(kk:Int),rfl,by lia,by lia,λn n0 nl=>?_⟩
   refine ⟨b,_,_,rfl,Gv hb,rfl,r,_,rfl,.inr (Gv hrr),?_⟩;have nbp:(0:Int)<((rs.length:Nat):Int):=by lia
   obtain ⟨p0,pn⟩:=bY (n/16) nbp;refine ⟨_,rfl,_,_,rfl,rfl,⟨by decide,b9⟩,_,rfl,_,_,rfl,rfl,nbp,?_⟩;have wlen:(((ws.map V.str).length:Nat):Int)=6:=by rw [Ag,wv.2.1];rfl
   obtain ⟨j0,jn⟩:=bY (n/256) (m:=3) (by decide);obtain ⟨j,ej⟩:=BC j0;obtain ⟨x,hx⟩:∃ x,ws[j]?=some x:=⟨_,Ae (by have:=wv.2.1;lia)⟩;refine ⟨_,rfl,_,rfl,_,_,rfl,rfl,⟨by decide,b9⟩,_,_,rfl,rfl,(by show (0:Int)<3;decide),wl,_,_,.str x,rfl,rfl,Gw wv.1,by rw [ej];exact aU (by rw [Aq,hx];rfl),?_⟩;refine ⟨zLn10,λz9 nz9=>?_⟩;obtain ⟨H1,eH1,s9,h9⟩:=updX (o:=.lst [V.str "draw",.str "draw",.str "draw",.str "draw",.str "pour",.str "pour",.str "pour",.str "fill",.str "empty",.str "rinse"]) nz9;rw [eH1];obtain ⟨m0,ml⟩:=bY n (m:=10) (by decide);obtain ⟨wd,hat,hwd⟩:=aKv m0 ml;have pn':(n/16%((rs.length:Nat):Int))<(nb:Int):=by rw [<- rl];exact pn
   refine ⟨_,rfl,_,_,rfl,rfl,(by show (0:Int)<10;decide),z9,_,_,.str wd,rfl,rfl,Gw h9,hat,?_⟩;have wx:=Ao hx;have finO:∀ {wd':Str},(wd' = "empty" \/ wd' = "rinse")->∀ z,H1 z=none->Q (.ref z) (upd H1 z (.tup [.str wd',.int (n/16%((rs.length:Nat):Int))])):=λ{wd'} hw z nz=>k z _ (s9.trans (Gu nz)) (.one hw aD p0 pn');have finA:∀ {wd':Str},(wd' = "draw" \/ wd' = "fill")->∀ q t b' H7 z,Same H H7->H7 q=some (.tup [.int t,.int b'])->Rm t b'->t<=1000/\b'<=100->H7 z=none->Q (.ref z) (upd H7 z (.tup [.str wd',.int (n/16%((rs.length:Nat):Int)),.str x,.ref q])):=λ{wd'} hw q t b' H7 z s7 hq rm l1 nz=>k z _ (s7.trans (Gu nz)) (.am hw aD p0 pn' wx (Gu nz _ _ hq) rm l1);have n4:0<=n/4096/\n/4096<2147483647:=⟨Int.ediv_nonneg n0 (by decide),Int.lt_of_le_of_lt (Ci _ n0) nl⟩
   rcases hwd with rfl|rfl|rfl|rfl|rfl
   ·refine ⟨_,rfl,rfl,_,rfl,iteT ⟨_,rfl,_,rfl,_,rfl,_,rfl,_,_,rfl,rfl,⟨by decide,b9⟩,_,rfl,n4.1,n4.2,λt b' q H7 rm l12 s7 nq hq=>⟨zLn4,λz nz=>finA (.inl rfl) q t b' H7 z (s9.trans s7) hq rm (by lia) nz⟩⟩⟩
   ·refine ⟨_,rfl,rfl,_,rfl,iteF ⟨_,rfl,rfl,_,rfl,iteT ⟨_,rfl,_,rfl,_,rfl,_,rfl,_,_,rfl,rfl,⟨by decide,b9⟩,_,rfl,n4.1,n4.2,λt b' q H7 rm l12 s7 nq hq=>⟨zLn4,λz nz=>finA (.inr rfl) q t b' H7 z (s9.trans s7) hq rm (by lia) nz⟩⟩⟩⟩
   ·refine ⟨_,rfl,rfl,_,rfl,iteF ⟨_,rfl,rfl,_,rfl,iteF ⟨_,rfl,rfl,_,rfl,iteT ⟨_,rfl,_,_,rfl,rfl,_,rfl,ite2 (λhc2=>?_) (λhc2=>?_)⟩⟩⟩⟩
    ·have n2:(1:Int)<((rs.length:Nat):Int):=of_decide_eq_true hc2
     have m1:(0:Int)<((rs.length:Nat):Int)-1:=by lia
     obtain ⟨d0,dl⟩:=bY (n/256) m1;obtain ⟨o0,ol,po⟩:=sU p0 pn d0 dl;refine ⟨_,rfl,_,_,rfl,rfl,_,rfl,_,_,rfl,rfl,⟨by decide,b9⟩,_,rfl,_,_,rfl,rfl,_,_,rfl,rfl,m1,_,_,rfl,rfl,_,rfl,_,_,rfl,rfl,nbp,?_⟩;obtain ⟨e0,el⟩:=bY (n/4096) (m:=4) (by decide);refine ⟨_,rfl,_,_,rfl,rfl,⟨by decide,b9⟩,_,_,rfl,rfl,(by show (0:Int)<4;decide),_,_,rfl,rfl,?_⟩;have bp:(0:Int)<1+n/4096%4:=by lia
     obtain ⟨f0,fl⟩:=bY (n/32768) bp;have sbt:Bt 100 (1+n/4096%4):=dD 100 (c:=101) (by lia) (by lia);obtain ⟨rm,le,l1⟩:=xT f0 fl (by lia) (by lia) sbt;refine ⟨_,rfl,_,rfl,_,rfl,_,rfl,_,_,rfl,rfl,⟨by decide,b9⟩,_,rfl,_,_,rfl,rfl,bp,_,_,rfl,rfl,_,rfl,_,_,rfl,by lia,by lia,sbt.mono,λq H7 s7 nq hq=>⟨zLn4,λz nz=>?_⟩⟩;exact k z _ ((s9.trans s7).trans (Gu nz)) (.pour aD p0 pn' o0 (by rw [<- rl];exact ol) po (Gu nz _ _ hq) rm le l1)
    ·refine ⟨_,rfl,rfl,_,rfl,iteT ⟨_,rfl,zLn2,λz nz=>finO (.inl rfl) z nz⟩⟩
   ·exact ⟨_,rfl,rfl,_,rfl,iteF ⟨_,rfl,rfl,_,rfl,iteF ⟨_,rfl,rfl,_,rfl,iteF (iteF ⟨_,rfl,rfl,_,rfl,iteF ⟨_,rfl,_,rfl,zLn2,λz nz=>finO (.inl rfl) z nz⟩⟩)⟩⟩⟩
   ·exact ⟨_,rfl,rfl,_,rfl,iteF ⟨_,rfl,rfl,_,rfl,iteF ⟨_,rfl,rfl,_,rfl,iteF (iteF ⟨_,rfl,rfl,_,rfl,iteF ⟨_,rfl,_,rfl,zLn2,λz nz=>finO (.inr rfl) z nz⟩⟩)⟩⟩⟩
end
end K53
namespace K53
open L2 GM TM
inductive Fat where
 |dry (i:Nat)
 |low (i:Nat)
 |wet (i:Nat)
 |spilt (i:Nat) (M N:Int) (rb:Int×Int)
 |touch (i:Nat) (pa:Gj)
abbrev Ou:Type:=Fat ⊕ List PF
def BadF (c0 c1 c2 c3 c4:Gj)(n:Nat)(H:Hp)(E:XK):Fat->Prop
 |.dry i=>BadE c0 [("phial",.int (i:Nat)),("place",.int (n:Nat))] H E
 |.low i=>BadE c1 [("phial",.int (i:Nat)),("place",.int (n:Nat))] H E
 |.wet i=>BadE c2 [("phial",.int (i:Nat)),("place",.int (n:Nat))] H E
 |.spilt i M N rb=>BadO c3 n i M N rb H E
 |.touch i pa=>BadE c4 [("pair",.ref pa),("phial",.int (i:Nat)),("place",.int (n:Nat))] H E
def RfV (H:Hp)(t3:Gj):Fat->Prop
 |.dry i=>H t3=some (.tup [.str "dry",.int ((i:Nat):Int),.non])
 |.low i=>H t3=some (.tup [.str "low",.int ((i:Nat):Int),.non])
 |.wet i=>H t3=some (.tup [.str "wet",.int ((i:Nat):Int),.non])
 |.spilt i M N rb=>∃ a t b,H t3=some (.tup [.str "spilt",.int ((i:Nat):Int),.ref a])/\H a=some (.tup [.int t,.int b])/\Fr (M*rb.2) t b (N*rb.2-rb.1*M)
 |.touch i pa=>H t3=some (.tup [.str "touch",.int ((i:Nat):Int),.ref pa])
def OutP (c0 c1 c2 c3 c4:Gj)(n:Nat)(M:Int)(H:Hp)(Q:VK)(E:XK):Ou->Prop
 |.inl f=>BadF c0 c1 c2 c3 c4 n H E f
 |.inr S=>∀ l' H',Same H H'->H l'=none->StV H' l' M S->Q (.ref l') H'
def OutL (M:Int)(H:Hp)(Q:VK):Ou->Prop
 |.inl f=>∀ z t3 H',Same H H'->H' z=some (.tup [.ref t3,.non])->RfV H' t3 f->Q (.ref z) H'
 |.inr S=>∀ z l' H',Same H H'->H l'=none->H' z=some (.tup [.non,.ref l'])->StV H' l' M S->Q (.ref z) H'
def IntoO (us:Gq)(ps:Gf)(ws:Gh)(M:Int)(S:List PF)(i:Nat)(d:PF)(rb:Int×Int)(add:Str->Int)(xs:Gh)(o:Ou):Prop:=
 (rb.1*M<tot ws (λy=>d.1 y+add y)*rb.2/\o=.inl (.spilt i M (tot ws (λy=>d.1 y+add y)) rb)) \/
 (¬ rb.1*M<tot ws (λy=>d.1 y+add y)*rb.2/\∃ nm',NmU d.2 xs nm'/\((∃ pa,pairOf us ps nm'=.ref pa/\o=.inl (.touch i pa))\/(pairOf us ps nm'=.non/\o=.inr (S.set i (λy=>d.1 y+add y,nm')))))
def RowO (us:Gq)(ps:Gf)(rbs:Gg)(ws:Gh)(M:Int)(S:List PF)(o:Ou):Rw->Prop
 |.draw i x t b=>∃ d rb,S[i]?=some d/\rbs[i]?=some rb/\IntoO us ps ws (M*b) (scl b S) i (λy=>d.1 y*b,d.2) rb (oneW x (t*M)) [x] o
 |.fill i x t b=>∃ d rb,S[i]?=some d/\rbs[i]?=some rb/\((¬ tot ws d.1*b<t*M/\o=.inl (.low i))\/(tot ws d.1*b<t*M/\IntoO us ps ws (M*b) (scl b S) i (λy=>d.1 y*b,d.2) rb (oneW x (t*M-tot ws d.1*b)) [x] o))
 |.pour i j t b=>∃ di dj rbj,S[i]?=some di/\S[j]?=some dj/\rbs[j]?=some rbj/\(((∀ y,di.1 y=0)/\o=.inl (.dry i))\/(¬ (∀ y,di.1 y=0)/\IntoO us ps ws (M*b) ((scl b S).set i (λy=>di.1 y*b-di.1 y*t,di.2)) j (λy=>dj.1 y*b,dj.2) rbj (λy=>di.1 y*t) di.2 o))
 |.empty i=>∃ d,S[i]?=some d/\o=.inr (S.set i (λ_=>0,d.2))
 |.rinse i=>∃ d,S[i]?=some d/\((¬ (∀ y,d.1 y=0)/\o=.inl (.wet i))\/((∀ y,d.1 y=0)/\o=.inr (S.set i (λ_=>0,[]))))
def rwM (M:Int):Rw->Int
 |.draw _ _ _ b=>M*b
 |.fill _ _ _ b=>M*b
 |.pour _ _ _ b=>M*b
 |_=>M
def yX (a b:Gh):∃ c,NmU a b c:=by
 have tr:∀ x y z:Str,decide (leS x y)=true->decide (leS y z)=true->decide (leS x z)=true:=λx y z h1 h2=>decide_eq_true (List.le_trans (of_decide_eq_true h1) (of_decide_eq_true h2));have to:∀ x y:Str,(decide (leS x y)||decide (leS y x))=true:=λx y=>by
  rcases List.le_total x.cps.toList y.cps.toList with h|h
  ·rw [decide_eq_true (show leS x y from h)];rfl
  ·rw [decide_eq_true (show leS y x from h),Bool.or_true]
 have p:=List.mergeSort_perm (SX.ddl (a++b)) λx y=>decide (leS x y);have s:=List.pairwise_mergeSort tr to (SX.ddl (a++b));generalize (SX.ddl (a++b)).mergeSort (λx y=>decide (leS x y))=ss at p s;have nd:ss.Nodup:=p.nodup_iff.mpr (SX.ddl_nodup _);refine ⟨ss,?_,λy=>by rw [p.mem_iff,SX.ddl_mem,Bm]⟩;refine (List.pairwise_and_iff.mpr ⟨s,nd⟩).imp λ{x y} h=>?_;exact Br λz=>h.2 (TM.ext (EZ (of_decide_eq_true h.1) (List.not_lt.mp z)))
section
variable {us:Gq}{ps:Gf}{rbs:Gg}{ws:Gh}{M:Int}{S:List PF}{H:Hp}{Q:VK}{E:XK}{c0 c1 c2 c3 c4:Gj}{n:Nat}
def qT {i:Nat}{d:PF}{rb:Int×Int}{add:Str->Int}{xs:Gh}(pt:PsT H us ps):∃ o,IntoO us ps ws M S i d rb add xs o:=by
 by_cases c:rb.1*M<tot ws (λy=>d.1 y+add y)*rb.2
 ·exact ⟨_,.inl ⟨c,rfl⟩⟩
 ·obtain ⟨nm,u⟩:=yX d.2 xs
  rcases kM (xs:=nm) pt with e|⟨pa,p,e,_,_⟩
  ·exact ⟨_,.inr ⟨c,nm,u,.inr ⟨e,rfl⟩⟩⟩
  ·exact ⟨_,.inr ⟨c,nm,u,.inl ⟨pa,e,rfl⟩⟩⟩
theorem IntoO.r {i:Nat}{d:PF}{rb:Int×Int}{add:Str->Int}{xs:Gh}{o:Ou}(h:IntoO us ps ws M S i d rb add xs o)(k:OutP c0 c1 c2 c3 c4 n M H Q E o):IntoR c3 c4 us ps ws M S i d rb add xs n H Q E:=by
 rcases h with ⟨c,rfl⟩|⟨c,nm',u,⟨pa,e,rfl⟩|⟨e,rfl⟩⟩
 ·exact ⟨λ_=>k,λc'=>absurd c c'⟩
 ·refine ⟨λc'=>absurd c' c,λ_ nm2 u2=>?_⟩
  cases u.uniq u2;exact ⟨λpa' e'=>by rw [e] at e';cases e';exact k,λe'=>by rw [e] at e';cases e'⟩
 ·refine ⟨λc'=>absurd c' c,λ_ nm2 u2=>?_⟩
  cases u.uniq u2;exact ⟨λpa' e'=>(by rw [e] at e';cases e'),λ_=>k⟩
theorem IntoO.l {i:Nat}{d:PF}{rb:Int×Int}{add:Str->Int}{xs:Gh}{o:Ou}(h:IntoO us ps ws M S i d rb add xs o)(k:OutL M H Q o):IntoL us ps ws M S i d rb add xs H Q:=by
 rcases h with ⟨c,rfl⟩|⟨c,nm',u,⟨pa,e,rfl⟩|⟨e,rfl⟩⟩
 ·exact ⟨λ_ z t3 a t b H' s h1 h2 h3 h4=>k z t3 H' s h1 ⟨a,t,b,h2,h3,h4⟩,λc'=>absurd c c'⟩
 ·refine ⟨λc'=>absurd c' c,λ_ nm2 u2=>?_⟩
  cases u.uniq u2;exact ⟨λpa' e' z t3 H' s h1 h2=>by rw [e] at e';cases e';exact k z t3 H' s h1 h2,λe'=>by rw [e] at e';cases e'⟩
 ·refine ⟨λc'=>absurd c' c,λ_ nm2 u2=>?_⟩
  cases u.uniq u2;exact ⟨λpa' e'=>(by rw [e] at e';cases e'),λ_=>k⟩
def IntoO.sok {β i:Nat}{d:PF}{rb:Int×Int}{add:Str->Int}{xs:Gh}{S':List PF}(so:Sok ws rbs M S β)(hd:S[i]?=some d)(hr:rbs[i]?=some rb)(a0:∀ y,0<=add y)(aw:∀ y,add y≠0->y∈ws)(xw:∀ x∈xs,x∈ws)(h:IntoO us ps ws M S i d rb add xs (.inr S')):Sok ws rbs M S' β:=by
 rcases h with ⟨c,e⟩|⟨c,nm',u,⟨pa,e,e2⟩|⟨e,e2⟩⟩
 ·cases e
 ·cases e2
 ·cases e2
  have ok:=so.ok d (Ao hd);refine ⟨so.m0,so.bm,by rw [BB];exact so.sl,λd' hd'=>?_,λk d' rb' hd' hr'=>?_⟩
  ·rcases Ek hd' with h|h
   ·exact so.ok d' h
   ·rw [h]
    refine ⟨λy=>Int.add_nonneg (ok.nn y) (a0 y),λy hy=>?_,u.srt,λy hy=>?_⟩
    ·rcases (u.mem y).mp hy with h|h
     ·exact ok.nin y h
     ·exact xw y h
    ·by_cases z:d.1 y=0
     ·exact aw y λz2=>hy (by show d.1 y+add y=0;lia)
     ·exact ok.inw y z
  ·by_cases ik:i=k
   ·subst ik
    rw [BH (Ac.mp hd).1] at hd';cases hd';rw [hr] at hr';cases hr';show tot ws (λy=>d.1 y+add y)*rb.2<=_;lia
   ·rw [AU ik] at hd'
    exact so.fit k d' rb' hd' hr'
def aDv {nb:Nat}{rw:Rw}(pt:PsT H us ps)(nS:S.length=nb)(nr:rbs.length=nb)(g:GoodR nb ws rw):∃ o,RowO us ps rbs ws M S o rw:=by
 have gS:∀ {i:Nat},i<nb->∃ d rb,S[i]?=some d/\rbs[i]?=some rb:=λ{i} h=>⟨_,_,Ae (by lia),Ae (by lia)⟩;cases rw with
 |draw i x t b=>
  obtain ⟨d,rb,h1,h2⟩:=gS g.1;obtain ⟨o,ho⟩:=qT (ws:=ws) (M:=M*b) (S:=scl b S) (i:=i) (d:=(λy=>d.1 y*b,d.2)) (rb:=rb) (add:=oneW x (t*M)) (xs:=[x]) pt;exact ⟨o,d,rb,h1,h2,ho⟩
 |fill i x t b=>
  obtain ⟨d,rb,h1,h2⟩:=gS g.1
  by_cases c:tot ws d.1*b<t*M
  ·obtain ⟨o,ho⟩:=qT (ws:=ws) (M:=M*b) (S:=scl b S) (i:=i) (d:=(λy=>d.1 y*b,d.2)) (rb:=rb) (add:=oneW x (t*M-tot ws d.1*b)) (xs:=[x]) pt
   exact ⟨o,d,rb,h1,h2,.inr ⟨c,ho⟩⟩
  ·exact ⟨_,d,rb,h1,h2,.inl ⟨c,rfl⟩⟩
 |pour i j t b=>
  obtain ⟨di,_,h1,_⟩:=gS g.1;obtain ⟨dj,rbj,h2,h3⟩:=gS g.2.1
  by_cases c:∀ y,di.1 y=0
  ·exact ⟨_,di,dj,rbj,h1,h2,h3,.inl ⟨c,rfl⟩⟩
  ·obtain ⟨o,ho⟩:=qT (ws:=ws) (M:=M*b) (S:=(scl b S).set i (λy=>di.1 y*b-di.1 y*t,di.2)) (i:=j) (d:=(λy=>dj.1 y*b,dj.2)) (rb:=rbj) (add:=λy=>di.1 y*t) (xs:=di.2) pt
   exact ⟨o,di,dj,rbj,h1,h2,h3,.inr ⟨c,ho⟩⟩
 |empty i=>
  obtain ⟨d,_,h1,_⟩:=gS (show i<nb from g);exact ⟨_,d,h1,rfl⟩
 |rinse i=>
  obtain ⟨d,_,h1,_⟩:=gS (show i<nb from g)
  by_cases c:∀ y,d.1 y=0
  ·exact ⟨_,d,h1,.inr ⟨c,rfl⟩⟩
  ·exact ⟨_,d,h1,.inl ⟨c,rfl⟩⟩
theorem RowO.p {rw:Rw}{o:Ou}(h:RowO us ps rbs ws M S o rw)(k:OutP c0 c1 c2 c3 c4 n (rwM M rw) H Q E o):ResP c0 c1 c2 c3 c4 us ps rbs ws M S n H Q E rw:=by
 cases rw with
 |draw i x t b=>
  obtain ⟨d,rb,h1,h2,h3⟩:=h;exact ⟨d,rb,h1,h2,h3.r k⟩
 |fill i x t b=>
  obtain ⟨d,rb,h1,h2,h3⟩:=h;refine ⟨d,rb,h1,h2,?_⟩
  rcases h3 with ⟨c,rfl⟩|⟨c,h3⟩
  ·exact ⟨λ_=>k,λc'=>absurd c' c⟩
  ·exact ⟨λc'=>absurd c c',λ_=>h3.r k⟩
 |pour i j t b=>
  obtain ⟨di,dj,rbj,h1,h2,h3,h4⟩:=h;refine ⟨di,dj,rbj,h1,h2,h3,?_⟩
  rcases h4 with ⟨c,rfl⟩|⟨c,h4⟩
  ·exact ⟨λ_=>k,λc'=>absurd c c'⟩
  ·exact ⟨λc'=>absurd c' c,λ_=>h4.r k⟩
 |empty i=>
  obtain ⟨d,h1,rfl⟩:=h;exact ⟨d,h1,k⟩
 |rinse i=>
  obtain ⟨d,h1,h2⟩:=h;refine ⟨d,h1,?_⟩
  rcases h2 with ⟨c,rfl⟩|⟨c,rfl⟩
  ·exact ⟨λ_=>k,λc'=>absurd c' c⟩
  ·exact ⟨λc'=>absurd c c',λ_=>k⟩
theorem RowO.l {rw:Rw}{o:Ou}(h:RowO us ps rbs ws M S o rw)(k:OutL (rwM M rw) H Q o):ResL us ps rbs ws M S H Q rw:=by
 cases rw with
 |draw i x t b=>
  obtain ⟨d,rb,h1,h2,h3⟩:=h;exact ⟨d,rb,h1,h2,h3.l k⟩
 |fill i x t b=>
  obtain ⟨d,rb,h1,h2,h3⟩:=h;refine ⟨d,rb,h1,h2,?_⟩
  rcases h3 with ⟨c,rfl⟩|⟨c,h3⟩
  ·exact ⟨λ_=>k,λc'=>absurd c' c⟩
  ·exact ⟨λc'=>absurd c c',λ_=>h3.l k⟩
 |pour i j t b=>
  obtain ⟨di,dj,rbj,h1,h2,h3,h4⟩:=h;refine ⟨di,dj,rbj,h1,h2,h3,?_⟩
  rcases h4 with ⟨c,rfl⟩|⟨c,h4⟩
  ·exact ⟨λ_=>k,λc'=>absurd c c'⟩
  ·exact ⟨λc'=>absurd c' c,λ_=>h4.l k⟩
 |empty i=>
  obtain ⟨d,h1,rfl⟩:=h;exact ⟨d,h1,k⟩
 |rinse i=>
  obtain ⟨d,h1,h2⟩:=h;refine ⟨d,h1,?_⟩
  rcases h2 with ⟨c,rfl⟩|⟨c,rfl⟩
  ·exact ⟨λ_=>k,λc'=>absurd c' c⟩
  ·exact ⟨λc'=>absurd c c',λ_=>k⟩
theorem aDj {f g:Str->Int}(h:∀ y,f y<=g y):∀ ws:Gh,tot ws f<=tot ws g
 |[]=>DB _
 |y::r=>by
  have ih:=aDj h r;have:=h y;unfold tot at ih ⊢;rw [Ak,Ak,AI,AI];lia
theorem rN:∀ ws:Gh,tot ws (λ_=>0)=0
 |[]=>rfl
 |y::r=>by
  have ih:=rN r;unfold tot at ih ⊢;rw [Ak,AI,ih];rfl
def Sok.put {β i:Nat}{d d':PF}(so:Sok ws rbs M S β)(rp:∀ (i:Nat) rb,rbs[i]?=some rb->0<=rb.2)(hd:S[i]?=some d)(ok:Okf ws d')(le:∀ y,d'.1 y<=d.1 y):Sok ws rbs M (S.set i d') β:=by
 refine ⟨so.m0,so.bm,by rw [BB];exact so.sl,λe he=>?_,λk e rb he hr=>?_⟩
 ·rcases Ek he with h|h
  ·exact so.ok e h
  ·rw [h];exact ok
 ·by_cases ik:i=k
  ·subst ik
   rw [BH (Ac.mp hd).1] at he;cases he;exact Ez (EW (aDj le ws) (rp i rb hr)) (so.fit i d rb hd hr)
  ·rw [AU ik] at he
   exact so.fit k e rb he hr
def Sok.mono {β γ:Nat}(so:Sok ws rbs M S β)(h:β<=γ):Sok ws rbs M S γ:=⟨so.m0,so.bm.mono h,so.sl,so.ok,so.fit⟩
def yF {x:Str}{n:Int}(h:0<=n)(y:Str):0<=oneW x n y:=by
 unfold oneW;split
 ·exact h
 ·exact DB _
def yG {x:Str}{n:Int}(h:x∈ws)(y:Str)(hy:oneW x n y≠0):y∈ws:=by
 unfold oneW at hy;split at hy
 ·rename_i e;rw [<- e];exact h
 ·exact absurd rfl hy
def wN {x:Str}(h:x∈ws):∀ y∈[x],y∈ws:=λy hy=>by rw [Az.mp hy];exact h
def RowO.sok {β γ nb:Nat}{rw:Rw}{S':List PF}(so:Sok ws rbs M S β)(rp:∀ (i:Nat) rb,rbs[i]?=some rb->0<=rb.2)(g:GoodR nb ws rw)(l1:Bt γ (rwb rw))(h:RowO us ps rbs ws M S (.inr S') rw):Sok ws rbs (rwM M rw) S' (β+γ):=by
 have M0:=so.m0;have b7:∀ {t b:Int},RwA t b->Bt γ b->0<b/\Bt γ b:=λ{t b} a l=>by
  have:=a.am.b1;exact ⟨by lia,l⟩
 cases rw with
 |draw i x t b=>
  obtain ⟨d,rb,h1,h2,h3⟩:=h;obtain ⟨g1,g2,g3,g4⟩:=g;obtain ⟨b0,bb⟩:=b7 g3 l1;exact IntoO.sok (so.scale b0 bb) (fE h1) h2 (yF (Bu (by lia) (by lia))) (yG g2) (wN g2) h3
 |fill i x t b=>
  obtain ⟨d,rb,h1,h2,h3⟩:=h;obtain ⟨g1,g2,g3⟩:=g;obtain ⟨b0,bb⟩:=b7 g3 l1
  rcases h3 with ⟨c,e⟩|⟨c,h3⟩
  ·cases e
  ·exact IntoO.sok (so.scale b0 bb) (fE h1) h2 (yF (by lia)) (yG g2) (wN g2) h3
 |pour i j t b=>
  obtain ⟨di,dj,rbj,h1,h2,h3,h4⟩:=h;obtain ⟨g1,g2,g3,g4,g5,g6⟩:=g;obtain ⟨b0,bb⟩:=b7 g4 l1
  rcases h4 with ⟨c,e⟩|⟨c,h4⟩
  ·cases e
  ·have ok:=so.ok di (Ao h1)
   have tn:∀ y,0<=di.1 y*t:=λy=>Bu (ok.nn y) (by lia);have s1:=(so.scale b0 bb).put (d':=(λy=>di.1 y*b-di.1 y*t,di.2)) rp (fE h1) ⟨λy=>by
    have:=CV g6 (ok.nn y);show 0<=di.1 y*b-di.1 y*t;lia,ok.nin,ok.srt,λy hy=>ok.inw y λe=>hy (by show di.1 y*b-di.1 y*t=0;rw [e,BV,BV];rfl)⟩ (λy=>by
    have:=tn y;show di.1 y*b-di.1 y*t<=di.1 y*b;lia)
   exact IntoO.sok s1 (by rw [AU g3];exact fE h2) h3 tn (λy hy=>ok.inw y λe=>hy (by show di.1 y*t=0;rw [e,BV])) ok.nin h4
 |empty i=>
  obtain ⟨d,h1,e⟩:=h;cases e;have ok:=so.ok d (Ao h1);exact (so.put (d':=(λ_=>0,d.2)) rp h1 ⟨λ_=>DB _,ok.nin,ok.srt,λy hy=>absurd rfl hy⟩ ok.nn).mono (Nat.le_add_right ..)
 |rinse i=>
  obtain ⟨d,h1,h2⟩:=h;have ok:=so.ok d (Ao h1)
  rcases h2 with ⟨c,e⟩|⟨c,e⟩
  ·cases e
  ·cases e
   exact (so.put (d':=(λ_=>0,[])) rp h1 ⟨λ_=>DB _,(λy hy=>by cases hy),.nil,λy hy=>absurd rfl hy⟩ ok.nn).mono (Nat.le_add_right ..)
def dPh (M:Int)(d:PF)(D:Dt):Prop:=∃ ys,IsMx M d.1 ys/\D=.t [.t (ys.map dOf),.t (d.2.map Dt.s)]
def Pr.dv2 {K:Ab}{v:V}{x:Str×Int×Int}(h:Pr H v x):Dv K H 2 v (dOf x):=by
 obtain ⟨p,q,rfl,h1,h2⟩:=h;exact .two (SqZ.of h1) .s (.two (SqZ.of h2) .i .i)
def PrL.dl2 {K:Ab}{vs:Gq}{xs:Gc}(h:PrL H vs xs):DL K H 2 vs (xs.map dOf):=by
 induction h with
 |nil=>exact DL.nil
 |cons p _ ih=>exact DL.cons (Pr.dv2 p) ih
theorem aAo {K:Ab}{m:Nat}:∀ (xs:Gh),DL K H m (xs.map V.str) (xs.map Dt.s)
 |[]=>DL.nil
 |x::r=>DL.cons .s (aAo r)
def PhA.dv {K:Ab}{v:V}{d:PF}{D:Dt}(M0:0<M)(h:PhA H M v d)(k:dPh M d D):Dv K H 4 v D:=by
 obtain ⟨a,m,n,us,ys,rfl,h1,h2,h3,h4,h5⟩:=h;obtain ⟨zs,h6,rfl⟩:=k;cases h4.uniq M0 h6;exact .two (SqZ.of h1) (.tup (SqZ.of h2) (PrL.dl2 h3)) (.tup (SqZ.of h5) (aAo _))
def PhA.dph {v:V}{d:PF}(h:PhA H M v d):∃ D,dPh M d D:=by
 obtain ⟨a,m,n,us,ys,rfl,h1,h2,h3,h4,h5⟩:=h;exact ⟨_,ys,h4,rfl⟩
theorem aAj {α β:Type}{p:α->β->Prop}:∀ l:List α,(∀ a∈l,∃ b,p a b)->∃ bs:List β,bs.length=l.length/\∀ (i:Nat) a b,l[i]?=some a->bs[i]?=some b->p a b
 |[],_=>⟨[],rfl,λi a b h=>by simp at h⟩
 |a::l,h=>by
  obtain ⟨b,hb⟩:=h a (Al ..);obtain ⟨bs,h1,h2⟩:=aAj l λx hx=>h x (Ah _ hx);refine ⟨b::bs,by rw [AS,AS,h1],λi x y hx hy=>?_⟩;cases i with
  |zero=>cases hx;cases hy;exact hb
  |succ i=>exact h2 i x y (by simpa using hx) (by simpa using hy)
def StV.ds {l:Gj}(h:StV H l M S):∃ ds:List Dt,ds.length=S.length/\∀ (i:Nat) d D,S[i]?=some d->ds[i]?=some D->dPh M d D:=aAj S λd hd=>by
 obtain ⟨i,hi⟩:=CY hd;obtain ⟨vs,v,_,_,_,ph⟩:=h.get hi;exact ph.dph
theorem StV.dl {K:Ab}{l:Gj}{ds:List Dt}(M0:0<M)(h:StV H l M S)(dl:ds.length=S.length)(hd:∀ (i:Nat) d D,S[i]?=some d->ds[i]?=some D->dPh M d D):∃ vs,H l=some (.lst vs)/\DL K H 40 vs ds:=by
 obtain ⟨vs,h1,h2,h3⟩:=h;refine ⟨vs,h1,by lia,λi v D hv hD=>?_⟩;obtain ⟨d,hd'⟩:∃ d,S[i]?=some d:=⟨_,Ae (by have:=(Ac.mp hv).1;lia)⟩;exact ((h3 i v d hv hd').dv M0 (hd i d D hd' hD)).mono
theorem StV.same {K:Ab}{l l':Gj}(M0:0<M)(h:StV H l M S)(h':StV H l' M S):∃ vs vs' ds,H l=some (.lst vs)/\H l'=some (.lst vs')/\DL K H 40 vs ds/\DL K H 40 vs' ds:=by
 obtain ⟨ds,h1,h2⟩:=h.ds;obtain ⟨vs,a1,a2⟩:=h.dl (K:=K) M0 h1 h2;obtain ⟨vs',b1,b2⟩:=h'.dl (K:=K) M0 h1 h2;exact ⟨vs,vs',ds,a1,b1,a2,b2⟩
end
inductive Ends (us:Gq)(ps:Gf)(rbs:Gg)(ws:Gh):Int->List PF->List Rw->Option (Int×List PF)->Prop
 |nil {M S}:Ends us ps rbs ws M S [] (some (M,S))
 |bad {M S r rs f}:RowO us ps rbs ws M S (.inl f) r->Ends us ps rbs ws M S (r::rs) none
 |step {M S r rs S' o}:RowO us ps rbs ws M S (.inr S') r->Ends us ps rbs ws (rwM M r) S' rs o->Ends us ps rbs ws M S (r::rs) o
def GRs (nb:Nat)(ws:Gh)(rws:List Rw):Prop:=∀ r∈rws,GoodR nb ws r
def cb (r:Rw):Nat:=ET (rwb r)
def vR (r:Rw):Bt (cb r) (rwb r):=.of_bits (Aj _)
def cs (rws:List Rw):Nat:=(rws.map cb).sum
theorem eD (r:Rw)(rs:List Rw):cs (r::rs)=cb r+cs rs:=by
 unfold cs;rw [Ak,AI]
theorem oT:∀ (a b:List Rw),cs (a++b)=cs a+cs b
 |[],b=>by
  show cs b=0+cs b;lia
 |r::a,b=>by
  rw [List.cons_append,eD,eD,oT a b];lia
section
variable {us:Gq}{ps:Gf}{rbs:Gg}{ws:Gh}
theorem Ends.ex {H:Hp}(pt:PsT H us ps)(rp:∀ (i:Nat) rb,rbs[i]?=some rb->0<=rb.2):∀ {rws:List Rw} {M:Int} {S:List PF} {β:Nat},Sok ws rbs M S β->GRs rbs.length ws rws->∃ o,Ends us ps rbs ws M S rws o
 |[],M,S,β,so,g=>⟨_,.nil⟩
 |r::rs,M,S,β,so,g=>by
  have gd:=g r (Al ..);obtain ⟨o,ro⟩:=aDv (H:=H) (us:=us) (ps:=ps) (rbs:=rbs) (ws:=ws) (M:=M) (S:=S) pt so.sl rfl gd;cases o with
  |inl f=>exact ⟨none,.bad ro⟩
  |inr S'=>
   obtain ⟨o,h⟩:=Ends.ex pt rp (RowO.sok so rp gd (vR r) ro) λx hx=>g x (Ah _ hx);exact ⟨o,.step ro h⟩
def Ends.sok (rp:∀ (i:Nat) rb,rbs[i]?=some rb->0<=rb.2){rws:List Rw}{M:Int}{S:List PF}{o:Option (Int×List PF)}(h:Ends us ps rbs ws M S rws o):∀ {β:Nat},Sok ws rbs M S β->GRs rbs.length ws rws->∀ M' S',o=some (M',S')->Sok ws rbs M' S' (β+cs rws):=by
 induction h with
 |nil=>intro β so g M' S' e;cases e;exact so
 |bad=>intro β so g M' S' e;cases e
 |@step M S r rs S1 o ro h ih=>
  intro β so g M' S' e;have gd:=g r (Al ..);have:=ih (RowO.sok so rp gd (vR r) ro) (λx hx=>g x (Ah _ hx)) M' S' e;rw [eD,<- Nat.add_assoc];exact this
def Ends.snoc {rws:List Rw}{M:Int}{S:List PF}{o:Option (Int×List PF)}(h:Ends us ps rbs ws M S rws o):∀ {M':Int} {S' S'':List PF} {r:Rw},o=some (M',S')->RowO us ps rbs ws M' S' (.inr S'') r->Ends us ps rbs ws M S (rws++[r]) (some (rwM M' r,S'')):=by
 induction h with
 |nil=>intro M' S' S'' r e ro;cases e;exact .step ro .nil
 |bad=>intro M' S' S'' r e ro;cases e
 |step r1 h ih=>intro M' S' S'' r e ro;exact .step r1 (ih e ro)
end
def Sv1 (M:Int)(d:PF)(M0:Int)(d0:PF):Prop:=(∀ y,d.1 y*M0=d0.1 y*M)/\∀ n∈d.2,n∈d0.2
def SvO (g:Nat)(M0:Int)(d0:PF):Option (Int×List PF)->Prop
 |none=>False
 |some (M,S)=>∃ d,S[g]?=some d/\Sv1 M d M0 d0
def sel (rws:List Rw)(ps:List Nat):List Rw:=ps.map λp=>rws.getD p (.rinse 0)
structure Plc (n:Nat)(ps:List Nat):Prop where
 up:ps.Pairwise (·<·)
 lt:∀ p∈ps,p<n
section
variable (us:Gq)(ps:Gf)(rbs:Gg)(ws:Gh)(M:Int)(S:List PF)(g:Nat)(M0:Int)(d0:PF)
def Yes (rws:List Rw):Prop:=∃ o,Ends us ps rbs ws M S rws o/\SvO g M0 d0 o
def No (rws:List Rw):Prop:=∃ o,Ends us ps rbs ws M S rws o/\¬ SvO g M0 d0 o
def Fix (rws:List Rw)(pl:List Nat):Prop:=∀ (k:Nat),k<pl.length->No us ps rbs ws M S g M0 d0 (sel rws (pl.eraseIdx k))
end
end K53
namespace BQ
open GM L2
abbrev Q:=Int×Int
def lw (T B:Int):Q:=(T/G T B,B/G T B)
def add (a b:Q):Q:=lw (a.1*b.2+b.1*a.2) (a.2*b.2)
def Am (a:Q):Prop:=Amt a.1 a.2
def mul1 {a b:Int}(ha:1<=a)(hb:1<=b):1<=a*b:=by
 have:=EU ha hb (by decide) (by lia);lia
def aGo {T B:Int}(h0:0<=T)(h1:1<=B):Am (lw T B):=iF h0 h1
def tH (T B:Int):(lw T B).1*B=T*(lw T B).2:=fO T B
def aK5 {T B:Int}(h0:0<=T)(h1:1<=B)(h:Am a)(e:a.1*B=T*a.2):lw T B=a:=by
 obtain ⟨e1,e2⟩:=iE h0 h1 h e;exact Prod.ext e1 e2
def lw_pos {T B:Int}(h0:1<=T)(h1:1<=B):1<=(lw T B).1:=by
 have am:=aGo (show 0<=T by lia) h1;have c:=tH T B;have t0:=am.t0;have b1:=am.b1
 by_cases z:(lw T B).1=0
 ·rw [z,BV] at c
  have:=mul1 h0 b1;lia
 ·lia
def lw_le {T B:Int}(h0:0<=T)(h1:1<=B):(lw T B).1<=T/\(lw T B).2<=B:=⟨Ci _ h0,Ci _ (by lia)⟩
theorem Am.mul (h:Am a)(k:Am b):1<=a.2*b.2:=mul1 h.b1 k.b1
theorem Am.num (h:Am a)(k:Am b):0<=a.1*b.2+b.1*a.2:=by
 have:=Bu h.t0 (show 0<=b.2 by have:=k.b1;lia);have:=Bu k.t0 (show 0<=a.2 by have:=h.b1;lia);lia
def add_am (h:Am a)(k:Am b):Am (add a b):=aGo (h.num k) (h.mul k)
theorem add_zero_l (k:Am b):add (0,1) b=b:=aK5 (by have:=k.t0;simp;lia) (by have:=k.b1;simp;lia) k (by simp)
def am0:Am (0,1):=aBa (by decide)
def Fq (M:Int)(a:Q)(N:Int):Prop:=Fr M a.1 a.2 N
def fo (l:Q)(ss:List Q):Q:=ss.foldl add l
def nsum (M:Int)(ss:List Q):Int:=(ss.map λs=>s.1*(M/s.2)).sum
def prod (ss:List Q):Int:=(ss.map (·.2)).foldr (· * ·) 1
open PySem (Str)
inductive Rw where
 |take (a:Q) (x:Str)
 |parts (a:Q) (ps:List (Int×Str))
 |to (n:Int) (x:Str)
 |fill (a:Q) (x:Str)
abbrev Pu:=Int×Str×Q
def ptot (ps:List (Int×Str)):Int:=(ps.map (·.1)).sum
def aJj (a l:Q):Q:=lw (a.1*l.2-l.1*a.2) (a.2*l.2)
def rowP (i:Int)(l:Q):Rw->List Pu
 |.take a x=>[(i,x,a)]
 |.parts a ps=>ps.map λp=>(i,p.2,lw (a.1*p.1) (a.2*ptot ps))
 |.to n x=>[(i,x,lw (l.1*n) l.2)]
 |.fill a x=>if 0<(aJj a l).1 then [(i,x,aJj a l)] else []
def amts (ps:List Pu):List Q:=ps.map (·.2.2)
structure Sm (a:Q):Prop where
 am:Am a
 t1:1<=a.1
 bt:Bt 31 a.1
 bb:Bt 31 a.2
def ROk (l:Q):Rw->Prop
 |.take a _=>Sm a
 |.parts a ps=>Sm a/\1<=ps.length/\ps.length<=4/\∀ p∈ps,1<=p.1/\p.1<=9
 |.to n _=>1<=n/\n<=9/\1<=l.1
 |.fill a _=>Sm a/\l.1*a.2<=a.1*l.2
inductive Rs:List Rw->List Pu->Q->Prop
 |nil:Rs [] [] (0,1)
 |snoc {rs ps l r}:Rs rs ps l->ROk l r->Rs (rs++[r]) (ps++rowP rs.length l r) (fo l (amts (rowP rs.length l r)))
structure RI (n:Nat)(ps:List Pu)(l:Q)(M N V:Int):Prop where
 fq:Fq M l N
 M0:0<M
 bM:Bt (40*n+1) M
 V1:1<=V
 bV:Bt (38*n+1) V
 NV:N<=V*M
 dv:∀ p∈ps,Am p.2.2/\1<=p.2.2.1/\p.2.2.2∣M/\p.2.2.1<=V*p.2.2.2
 lf:l=fo (0,1) (amts ps)
 ln:ps.length<=4*n
 ps':1<=n->1<=l.1
end BQ
namespace BQ
open GM L2
open PySem (Str)
end BQ
namespace BQ
open L2 GM
structure L2R {α:Type}(R:V->α->Prop)(us:Gq)(ps:List α):Prop where
 len:us.length=ps.length
 at':∀ (i:Nat) u p,us[i]?=some u->ps[i]?=some p->R u p
abbrev AmV (H:Hp)(m:Gj)(a:Q):Prop:=H m=some (.tup [.int a.1,.int a.2])
def PrV (H:Hp)(v:V)(p:Int×Str):Prop:=∃ z,v=.ref z/\H z=some (.tup [.int p.1,.str p.2])
def PaV (H:Hp)(v:V)(p:Str×Q):Prop:=∃ z m,v=.ref z/\H z=some (.tup [.str p.1,.ref m])/\AmV H m p.2
def PuV (H:Hp)(v:V)(p:Pu):Prop:=∃ z m,v=.ref z/\H z=some (.tup [.int p.1,.str p.2.1,.ref m])/\AmV H m p.2.2
inductive RowV (H:Hp):V->Rw->Prop
 |take {p m a x}:H p=some (.tup [.str "take",.ref m,.str x])->AmV H m a->RowV H (.ref p) (.take a x)
 |parts {p m q a us ps}:H p=some (.tup [.str "parts",.ref m,.ref q])->AmV H m a->H q=some (.tup us)->L2R (PrV H) us ps->RowV H (.ref p) (.parts a ps)
 |to {p n x}:H p=some (.tup [.str "to",.int n,.str x])->RowV H (.ref p) (.to n x)
 |fill {p m a x}:H p=some (.tup [.str "fill",.ref m,.str x])->AmV H m a->RowV H (.ref p) (.fill a x)
def rowQ (l:Q)(r:Rw):List (Str×Q):=(rowP 0 l r).map (·.2)
structure Sz (a:Q):Prop where
 am:Am a
 bt:Bt 4000 a.1
 bb:Bt 4000 a.2
def vl (a:Q):Rat:=(a.1:Rat)/(a.2:Rat)
def aK9 {n:Int}(h:1<=n):(0:Rat)<(n:Rat):=by exact_mod_cast (by lia:0<n)
def jA {n:Int}(h:1<=n):(n:Rat)≠0:=λe=>by
 have:=aK9 h;rw [e] at this;exact absurd this (by decide)
theorem aJ6 {T B:Int}(h0:0<=T)(h1:1<=B):vl (lw T B)=(T:Rat)/B:=by
 have c:(((lw T B).1:Int):Rat)*(B:Rat)=(T:Rat)*((lw T B).2:Rat):=by exact_mod_cast tH T B
 have n1:=jA h1;have n2:=jA (aGo h0 h1).b1;unfold vl;generalize ((lw T B).1:Rat)=x at *
 generalize ((lw T B).2:Rat)=y at *
 generalize (T:Rat)=t at *
 generalize (B:Rat)=b at *
 grind
def vl_add (ha:Am a)(hb:Am b):vl (add a b)=vl a+vl b:=by
 unfold add;rw [aJ6 (ha.num hb) (ha.mul hb)];have n1:=jA ha.b1;have n2:=jA hb.b1;unfold vl;rw [Rat.intCast_add,Bv,Bv,Bv];generalize (a.1:Rat)=x at *
 generalize (a.2:Rat)=y at *
 generalize (b.1:Rat)=t at *
 generalize (b.2:Rat)=b at *
 grind
def Dn (D:Int)(r:Rat):Prop:=∃ n:Int,r*(D:Rat)=(n:Rat)
def sm {α:Type}:List α->(α->Rat)->Rat
 |[],_=>0
 |x::r,f=>f x+sm r f
def bmp {α:Type}[DecidableEq α](f:α->Rat)(y:α)(c:Rat):α->Rat:=λx=>if x=y then f x+c else f x
end BQ
namespace K53
open L2 GM TM
abbrev PQ:Type:=(Str->Rat)×Gh
def vl1 (M:Int)(d:PF):PQ:=(λy=>(d.1 y:Rat)/(M:Rat),d.2)
def val (M:Int)(S:List PF):List PQ:=S.map (vl1 M)
noncomputable def un (a b:Gh):Gh:=Classical.choose (yX a b)
theorem aBj (a b:Gh):NmU a b (un a b):=Classical.choose_spec (yX a b)
def totQ (ws:Gh)(f:Str->Rat):Rat:=(ws.map f).sum
def oneQ (x:Str)(n:Rat):Str->Rat:=λy=>if x=y then n else 0
open Classical in
noncomputable def kU (us:Gq)(ps:Gf)(ws:Gh)(S:List PQ)(i:Nat)(d:PQ)(rb:Int×Int)(add:Str->Rat)(xs:Gh):Option (List PQ):=
 if (rb.1:Rat)/(rb.2:Rat)<totQ ws (λy=>d.1 y+add y) then none
 else if pairOf us ps (un d.2 xs)=.non then some (S.set i (λy=>d.1 y+add y,un d.2 xs)) else none
open Classical in
noncomputable def fU (us:Gq)(ps:Gf)(rbs:Gg)(ws:Gh)(S:List PQ):Rw->Option (List PQ)
 |.draw i x t b=>(S[i]?).bind λd=>(rbs[i]?).bind λrb=>kU us ps ws S i d rb (oneQ x ((t:Rat)/(b:Rat))) [x]
 |.fill i x t b=>(S[i]?).bind λd=>(rbs[i]?).bind λrb=>if totQ ws d.1<(t:Rat)/(b:Rat) then kU us ps ws S i d rb (oneQ x ((t:Rat)/(b:Rat)-totQ ws d.1)) [x] else none
 |.pour i j t b=>(S[i]?).bind λdi=>(S[j]?).bind λdj=>(rbs[j]?).bind λrbj=>if ∀ y,di.1 y=0 then none else kU us ps ws (S.set i (λy=>di.1 y-di.1 y*((t:Rat)/(b:Rat)),di.2)) j dj rbj (λy=>di.1 y*((t:Rat)/(b:Rat))) di.2
 |.empty i=>(S[i]?).bind λd=>some (S.set i (λ_=>0,d.2))
 |.rinse i=>(S[i]?).bind λd=>if ∀ y,d.1 y=0 then some (S.set i (λ_=>0,[])) else none
def ores (M:Int):Ou->Option (List PQ)
 |.inl _=>none
 |.inr S=>some (val M S)
theorem aFs (M:Int)(r:Rw):rwM M r=M*rwb r:=by
 cases r<;>simp [rwM,rwb]
def ic {n:Int}(h:0<n):(0:Rat)<(n:Rat):=by exact_mod_cast h
def ic0 {n:Int}(h:0<n):(n:Rat)≠0:=λe=>by
 have:=ic h;rw [e] at this;exact absurd this (by decide)
theorem zD {a b N M:Int}(h1:0<b)(h2:0<M):((a:Rat)/(b:Rat)<(N:Rat)/(M:Rat))↔a*M<N*b:=by
 have p1:=ic h1;have p2:=ic h2;have e:a*M<N*b↔(a:Rat)*(M:Rat)<(N:Rat)*(b:Rat):=by exact_mod_cast Iff.rfl
 rw [e,Rat.div_lt_iff p1,Dj,Rat.mul_assoc,Rat.mul_comm (M:Rat)⁻¹,<- Rat.mul_assoc,<- Dj,Rat.lt_div_iff p2]
theorem pK (M:Int)(f:Str->Int):∀ ws:Gh,totQ ws (λy=>(f y:Rat)/(M:Rat))=(tot ws f:Rat)/(M:Rat)
 |[]=>by
  show (0:Rat)=((0:Int):Rat)/_;rw [Dj];exact (Rat.zero_mul _).symm
 |y::r=>by
  have ih:=pK M f r;unfold totQ tot at ih ⊢;rw [Ak,Ak,AI,AI,ih,Rat.intCast_add,Dj,Dj,Dj,Rat.add_mul]
def dadd (M a b:Int):(a:Rat)/(M:Rat)+(b:Rat)/(M:Rat)=((a+b:Int):Rat)/(M:Rat):=by
 rw [Rat.intCast_add,Dj,Dj,Dj,Rat.add_mul]
theorem lR {M:Int}{S:List PF}{i:Nat}{d:PF}:val M (S.set i d)=(val M S).set i (vl1 M d):=by
 unfold val;rw [List.map_set]
theorem fB {M:Int}{S:List PF}{i:Nat}{d:PF}(h:S[i]?=some d):(val M S)[i]?=some (vl1 M d):=by
 unfold val;rw [Aq,h];rfl
section
variable {us:Gq}{ps:Gf}{rbs:Gg}{ws:Gh}{M:Int}{S:List PF}
def qS {i:Nat}{d:PF}{rb:Int×Int}{add:Str->Int}{xs:Gh}{o:Ou}(M0:0<M)(b0:0<rb.2)(h:IntoO us ps ws M S i d rb add xs o):kU us ps ws (val M S) i (vl1 M d) rb (λy=>(add y:Rat)/(M:Rat)) xs=ores M o:=by
 unfold kU;have e:(λy=>(vl1 M d).1 y+(add y:Rat)/(M:Rat))=λy=>((d.1 y+add y:Int):Rat)/(M:Rat):=funext λy=>dadd M _ _;rw [e,pK]
 rcases h with ⟨c,rfl⟩|⟨c,nm,u,h⟩
 ·rw [if_pos ((zD b0 M0).mpr c)]
  rfl
 ·rw [if_neg λz=>c ((zD b0 M0).mp z)]
  have en:un (vl1 M d).2 xs=nm:=(aBj ..).uniq u;rw [en]
  rcases h with ⟨pa,e1,rfl⟩|⟨e1,rfl⟩
  ·rw [if_neg λz=>by rw [e1] at z;cases z]
   rfl
  ·rw [if_pos e1]
   show _=some (val M _);rw [lR];rfl
theorem pF {b:Int}(M0:0<M)(b0:0<b):val (M*b) (scl b S)=val M S:=by
 unfold val scl;rw [Cb];refine Dg λd _=>?_;have m:=ic0 M0;have n:=ic0 b0;refine Prod.ext (funext λy=>?_) rfl;show ((d.1 y*b:Int):Rat)/((M*b:Int):Rat)=(d.1 y:Rat)/(M:Rat);rw [Bv,Bv];generalize (d.1 y:Rat)=x;generalize (M:Rat)=m' at *
 generalize (b:Rat)=b' at *
 grind
theorem vX {b:Int}{d:PF}(M0:0<M)(b0:0<b):vl1 (M*b) (λy=>d.1 y*b,d.2)=vl1 M d:=by
 have m:=ic0 M0;have n:=ic0 b0;refine Prod.ext (funext λy=>?_) rfl;show ((d.1 y*b:Int):Rat)/((M*b:Int):Rat)=(d.1 y:Rat)/(M:Rat);rw [Bv,Bv];generalize (d.1 y:Rat)=x;generalize (M:Rat)=m' at *
 generalize (b:Rat)=b' at *
 grind
theorem iS {d:PF}(M0:0<M):(∀ y,(vl1 M d).1 y=0)↔∀ y,d.1 y=0:=by
 have m:=ic0 M0;constructor
 ·intro h y
  have:=h y;have e:(d.1 y:Rat)/(M:Rat)=0:=this;have:(d.1 y:Rat)=0:=by
   generalize (d.1 y:Rat)=x at *
   generalize (M:Rat)=m' at *
   grind
  exact_mod_cast this
 ·intro h y
  show (d.1 y:Rat)/(M:Rat)=0;rw [h y,Dj];exact Rat.zero_mul _
theorem aD6 {x:Str}{n:Int}:(λy=>((oneW x n y:Int):Rat)/(M:Rat))=oneQ x ((n:Rat)/(M:Rat)):=funext λy=>by
 unfold oneW oneQ
 by_cases e:x=y
 ·rw [if_pos e,if_pos e]
 ·rw [if_neg e,if_neg e,Dj]
  exact Rat.zero_mul _
theorem tM {t b:Int}(M0:0<M)(b0:0<b):((t*M:Int):Rat)/((M*b:Int):Rat)=(t:Rat)/(b:Rat):=by
 have m:=ic0 M0;have n:=ic0 b0;rw [Bv,Bv];generalize (t:Rat)=x;generalize (M:Rat)=m' at *
 generalize (b:Rat)=b' at *
 grind
theorem wJ {r:Rw}{o:Ou}(M0:0<M)(rp:∀ (i:Nat) rb,rbs[i]?=some rb->0<rb.2)(b0:0<rwb r)(h:RowO us ps rbs ws M S o r):fU us ps rbs ws (val M S) r=ores (rwM M r) o:=by
 cases r with
 |draw i x t b=>
  obtain ⟨d,rb,h1,h2,h3⟩:=h;have b0:0<b:=b0;have:=qS (Ce M0 b0) (rp i rb h2) h3;rw [pF M0 b0,vX M0 b0,aD6,tM M0 b0] at this;show ((val M S)[i]?).bind _=_;rw [fB h1];show (rbs[i]?).bind _=_;rw [h2];exact this
 |fill i x t b=>
  obtain ⟨d,rb,h1,h2,h3⟩:=h;have b0:0<b:=b0;show ((val M S)[i]?).bind _=_;rw [fB h1];show (rbs[i]?).bind _=_;rw [h2];show @ite _ _ _ _ _=_;have et:totQ ws (vl1 M d).1=(tot ws d.1:Rat)/(M:Rat):=pK M d.1 ws;have ec:totQ ws (vl1 M d).1<(t:Rat)/(b:Rat)↔tot ws d.1*b<t*M:=by
   rw [et];exact zD M0 b0
  rcases h3 with ⟨c,rfl⟩|⟨c,h3⟩
  ·rw [if_neg λz=>c (ec.mp z)]
   rfl
  ·rw [if_pos (ec.mpr c)]
   have:=qS (Ce M0 b0) (rp i rb h2) h3;rw [pF M0 b0,vX M0 b0,aD6] at this;rw [et];have e2:((t*M-tot ws d.1*b:Int):Rat)/((M*b:Int):Rat)=(t:Rat)/(b:Rat)-(tot ws d.1:Rat)/(M:Rat):=by
    have m:=ic0 M0;have n:=ic0 (show 0<b from b0);rw [Rat.intCast_sub,Bv,Bv,Bv];generalize (t:Rat)=x;generalize (tot ws d.1:Rat)=z;generalize (M:Rat)=m' at *
    generalize (b:Rat)=b' at *
    grind
   rw [e2] at this;exact this
 |pour i j t b=>
  obtain ⟨di,dj,rbj,h1,h2,h3,h4⟩:=h;have b0:0<b:=b0;show ((val M S)[i]?).bind _=_;rw [fB h1];show ((val M S)[j]?).bind _=_;rw [fB h2];show (rbs[j]?).bind _=_;rw [h3];show @ite _ _ (Classical.propDecidable _) _ _=_
  rcases h4 with ⟨c,rfl⟩|⟨c,h4⟩
  ·rw [if_pos ((iS M0).mpr c)]
   rfl
  ·rw [if_neg λz=>c ((iS M0).mp z)]
   have:=qS (Ce M0 b0) (rp j rbj h3) h4;rw [lR,pF M0 b0,vX M0 b0] at this;have m:=ic0 M0;have n:=ic0 (show 0<b from b0);have e1:vl1 (M*b) (λy=>di.1 y*b-di.1 y*t,di.2)=((λy=>(vl1 M di).1 y-(vl1 M di).1 y*((t:Rat)/(b:Rat)),di.2):PQ):=by
    refine Prod.ext (funext λy=>?_) rfl;show ((di.1 y*b-di.1 y*t:Int):Rat)/((M*b:Int):Rat)=(di.1 y:Rat)/(M:Rat)-(di.1 y:Rat)/(M:Rat)*((t:Rat)/(b:Rat));rw [Rat.intCast_sub,Bv,Bv,Bv];generalize (di.1 y:Rat)=x;generalize (t:Rat)=z;generalize (M:Rat)=m' at *
    generalize (b:Rat)=b' at *
    grind
   have e2:(λy=>((di.1 y*t:Int):Rat)/((M*b:Int):Rat))=λy=>(vl1 M di).1 y*((t:Rat)/(b:Rat)):=funext λy=>by
    show _=(di.1 y:Rat)/(M:Rat)*((t:Rat)/(b:Rat));rw [Bv,Bv];generalize (di.1 y:Rat)=x;generalize (t:Rat)=z;generalize (M:Rat)=m' at *
    generalize (b:Rat)=b' at *
    grind
   rw [e1,e2] at this;exact this
 |empty i=>
  obtain ⟨d,h1,rfl⟩:=h;show ((val M S)[i]?).bind _=_;rw [fB h1];show some _=some (val M _);rw [lR]
  congr 2
  refine Prod.ext (funext λy=>?_) rfl;show (0:Rat)=((0:Int):Rat)/_;rw [Dj];exact (Rat.zero_mul _).symm
 |rinse i=>
  obtain ⟨d,h1,h2⟩:=h;show ((val M S)[i]?).bind _=_;rw [fB h1];show @ite _ _ (Classical.propDecidable _) _ _=_
  rcases h2 with ⟨c,rfl⟩|⟨c,rfl⟩
  ·rw [if_neg λz=>c ((iS M0).mp z)]
   rfl
  ·rw [if_pos ((iS M0).mpr c)]
   show some _=some (val M _);rw [lR]
   congr 2
   refine Prod.ext (funext λy=>?_) rfl;show (0:Rat)=((0:Int):Rat)/_;rw [Dj];exact (Rat.zero_mul _).symm
noncomputable def fW (us:Gq)(ps:Gf)(rbs:Gg)(ws:Gh):List PQ->List Rw->Option (List PQ)
 |S,[]=>some S
 |S,r::rs=>(fU us ps rbs ws S r).bind λS'=>fW us ps rbs ws S' rs
def aAm {rws:List Rw}{o:Option (Int×List PF)}(rp:∀ (i:Nat) rb,rbs[i]?=some rb->0<rb.2)(h:Ends us ps rbs ws M S rws o):0<M->(∀ r∈rws,0<rwb r)->fW us ps rbs ws (val M S) rws=o.map λp=>val p.1 p.2:=by
 induction h with
 |nil=>intro _ _;rfl
 |bad r=>
  intro M0 b0;show (fU ..).bind _=_;rw [wJ M0 rp (b0 _ (Al ..)) r];rfl
 |step r _ ih=>
  intro M0 b0;have bp:=b0 _ (Al ..);show (fU ..).bind _=_;rw [wJ M0 rp bp r];exact ih (by rw [aFs];exact Ce M0 bp) λr hr=>b0 r (Ah _ hr)
end
end K53
namespace K53
open L2 GM TM
def ph:Rw->Nat
 |.draw i _ _ _=>i
 |.fill i _ _ _=>i
 |.pour i _ _ _=>i
 |.empty i=>i
 |.rinse i=>i
def nmd:Rw->List Nat
 |.pour i j _ _=>[i,j]
 |.draw i _ _ _=>[i]
 |.fill i _ _ _=>[i]
 |.empty i=>[i]
 |.rinse i=>[i]
section
variable {us:Gq}{ps:Gf}{rbs:Gg}{ws:Gh}
def oK {S S':List PQ}{i:Nat}{d:PQ}{rb:Int×Int}{add:Str->Rat}{xs:Gh}(h:kU us ps ws S i d rb add xs=some S'):¬ (rb.1:Rat)/(rb.2:Rat)<totQ ws (λy=>d.1 y+add y)/\pairOf us ps (un d.2 xs)=.non/\S'=S.set i (λy=>d.1 y+add y,un d.2 xs):=by
 unfold kU at h
 by_cases c:(rb.1:Rat)/(rb.2:Rat)<totQ ws (λy=>d.1 y+add y)
 ·rw [if_pos c] at h;cases h
 ·rw [if_neg c] at h
  by_cases c2:pairOf us ps (un d.2 xs)=.non
  ·rw [if_pos c2] at h
   cases h;exact ⟨c,c2,rfl⟩
  ·rw [if_neg c2] at h;cases h
theorem zR {S:List PQ}{i:Nat}{d:PQ}{rb:Int×Int}{add:Str->Rat}{xs:Gh}(c:¬ (rb.1:Rat)/(rb.2:Rat)<totQ ws (λy=>d.1 y+add y))(c2:pairOf us ps (un d.2 xs)=.non):kU us ps ws S i d rb add xs=some (S.set i (λy=>d.1 y+add y,un d.2 xs)):=by
 unfold kU;rw [if_neg c,if_pos c2]
def mR {S S':List PQ}{i j:Nat}{d dj:PQ}{rb:Int×Int}{add:Str->Rat}{xs:Gh}(ne:i≠j)(hd:S[i]?=some d)(h:kU us ps ws S j dj rb add xs=some S'):S'[i]?=some d/\∀ d',kU us ps ws (S.set i d') j dj rb add xs=some (S'.set i d'):=by
 obtain ⟨c,c2,rfl⟩:=oK h;refine ⟨by rw [AU (Bi ne)];exact hd,λd'=>?_⟩;rw [zR c c2,Fk _ _ ne]
def bind_some {α β:Type}{o:Option α}{f:α->Option β}{b:β}(h:o.bind f=some b):∃ a,o=some a/\f a=some b:=Option.bind_eq_some_iff.mp h
theorem iA {S:List PQ}{i j:Nat}{d':PQ}(ne:i≠j):(S.set i d')[j]?=S[j]?:=AU ne
def aBq {S S':List PQ}{i:Nat}{d:PQ}{r:Rw}(ni:i∉nmd r)(hd:S[i]?=some d)(h:fU us ps rbs ws S r=some S'):S'[i]?=some d/\∀ d',fU us ps rbs ws (S.set i d') r=some (S'.set i d'):=by
 cases r with
 |draw j x t b=>
  have ne:i≠j:=λe=>ni (by rw [e];exact Al ..);obtain ⟨e,he,h⟩:=bind_some h;obtain ⟨rb,hr,h⟩:=bind_some h;obtain ⟨h1,h2⟩:=mR ne hd h;refine ⟨h1,λd'=>?_⟩;show ((S.set i d')[j]?).bind _=_;rw [iA ne,he];show (rbs[j]?).bind _=_;rw [hr];exact h2 d'
 |fill j x t b=>
  have ne:i≠j:=λe=>ni (by rw [e];exact Al ..);obtain ⟨e,he,h⟩:=bind_some h;obtain ⟨rb,hr,h⟩:=bind_some h
  by_cases c:totQ ws e.1<(t:Rat)/(b:Rat)
  ·rw [if_pos c] at h
   obtain ⟨h1,h2⟩:=mR ne hd h;refine ⟨h1,λd'=>?_⟩;show ((S.set i d')[j]?).bind _=_;rw [iA ne,he];show (rbs[j]?).bind _=_;rw [hr];exact (if_pos c).trans (h2 d')
  ·rw [if_neg c] at h;cases h
 |pour j k t b=>
  have ne:i≠j:=λe=>ni (by rw [e];exact Al ..);have ne2:i≠k:=λe=>ni (by rw [e];exact Ah _ (Al ..));obtain ⟨dj,hj,h⟩:=bind_some h;obtain ⟨dk,hk,h⟩:=bind_some h;obtain ⟨rb,hr,h⟩:=bind_some h
  by_cases c:∀ y,dj.1 y=0
  ·rw [if_pos c] at h;cases h
  ·rw [if_neg c] at h
   obtain ⟨h1,h2⟩:=mR ne2 (by rw [AU (Bi ne)];exact hd) h;refine ⟨h1,λd'=>?_⟩;show ((S.set i d')[j]?).bind _=_;rw [iA ne,hj];show ((S.set i d')[k]?).bind _=_;rw [iA ne2,hk];show (rbs[k]?).bind _=_;rw [hr];refine (if_neg c).trans ?_;rw [Fk _ _ ne];exact h2 d'
 |empty j=>
  have ne:i≠j:=λe=>ni (by rw [e];exact Al ..);obtain ⟨e,he,h⟩:=bind_some h;cases h;refine ⟨by rw [AU (Bi ne)];exact hd,λd'=>?_⟩;show ((S.set i d')[j]?).bind _=_;rw [iA ne,he,Fk _ _ (Bi ne)];rfl
 |rinse j=>
  have ne:i≠j:=λe=>ni (by rw [e];exact Al ..);obtain ⟨e,he,h⟩:=bind_some h
  by_cases c:∀ y,e.1 y=0
  ·rw [if_pos c] at h
   cases h;refine ⟨by rw [AU (Bi ne)];exact hd,λd'=>?_⟩;show ((S.set i d')[j]?).bind _=_;rw [iA ne,he,Fk _ _ (Bi ne)];exact if_pos c
  ·rw [if_neg c] at h;cases h
theorem uA:∀ {rws:List Rw} {S S':List PQ} {i:Nat} {d:PQ},(∀ r∈rws,i∉nmd r)->S[i]?=some d->fW us ps rbs ws S rws=some S'->S'[i]?=some d/\∀ d',fW us ps rbs ws (S.set i d') rws=some (S'.set i d')
 |[],S,S',i,d,_,hd,h=>by cases h;exact ⟨hd,λ_=>rfl⟩
 |r::rs,S,S',i,d,ni,hd,h=>by
  obtain ⟨S1,h1,h2⟩:=bind_some h;obtain ⟨a1,a2⟩:=aBq (ni r (Al ..)) hd h1;obtain ⟨b1,b2⟩:=uA (λx hx=>ni x (Ah _ hx)) a1 h2;refine ⟨b1,λd'=>?_⟩;show (fU ..).bind _=_;rw [a2 d'];exact b2 d'
theorem ends_app:∀ (a:List Rw) {b:List Rw} {S:List PQ},fW us ps rbs ws S (a++b)=(fW us ps rbs ws S a).bind λS'=>fW us ps rbs ws S' b
 |[],b,S=>rfl
 |r::a,b,S=>by
  show (fU ..).bind _=((fU ..).bind _).bind _;rw [Option.bind_assoc]
  congr 1
  exact funext λS'=>ends_app a
def oR {S S':List PQ}{i:Nat}{x:Str}{t b:Int}(h:fU us ps rbs ws S (.draw i x t b)=some S'):∃ d rb,S[i]?=some d/\rbs[i]?=some rb/\¬ (rb.1:Rat)/(rb.2:Rat)<totQ ws (λy=>d.1 y+oneQ x ((t:Rat)/(b:Rat)) y)/\pairOf us ps (un d.2 [x])=.non/\S'=S.set i (λy=>d.1 y+oneQ x ((t:Rat)/(b:Rat)) y,un d.2 [x]):=by
 obtain ⟨e,he,h⟩:=bind_some h;obtain ⟨rb,hr,h⟩:=bind_some h;obtain ⟨c,c2,rfl⟩:=oK h;exact ⟨e,rb,he,hr,c,c2,rfl⟩
def aG6 {S:List PQ}{i:Nat}{x:Str}{t b:Int}{d:PQ}{rb:Int×Int}(hd:S[i]?=some d)(hr:rbs[i]?=some rb)(c:¬ (rb.1:Rat)/(rb.2:Rat)<totQ ws (λy=>d.1 y+oneQ x ((t:Rat)/(b:Rat)) y))(c2:pairOf us ps (un d.2 [x])=.non):fU us ps rbs ws S (.draw i x t b)=some (S.set i (λy=>d.1 y+oneQ x ((t:Rat)/(b:Rat)) y,un d.2 [x])):=by
 show (S[i]?).bind _=_;rw [hd];show (rbs[i]?).bind _=_;rw [hr];exact zR c c2
theorem aJ7 {a:Gh}{x:Str}:un (un a [x]) [x]=un a [x]:=by
 refine (aBj _ _).uniq ⟨(aBj a [x]).srt,λy=>?_⟩;rw [(aBj a [x]).mem];constructor
 ·exact .inl
 ·rintro (h|h)
  ·exact h
  ·exact .inr h
theorem one_add {x:Str}{a b:Rat}(y:Str):oneQ x a y+oneQ x b y=oneQ x (a+b) y:=by
 unfold oneQ
 by_cases e:x=y
 ·rw [if_pos e,if_pos e,if_pos e]
 ·rw [if_neg e,if_neg e,if_neg e,Rat.add_zero]
def aGw {S S1 S2 S3:List PQ}{i:Nat}{x:Str}{t b t2 b2 t3 b3:Int}{B:List Rw}(e3:(t3:Rat)/(b3:Rat)=(t:Rat)/(b:Rat)+(t2:Rat)/(b2:Rat))(h1:fU us ps rbs ws S (.draw i x t b)=some S1)(nB:∀ r∈B,i∉nmd r)(h2:fW us ps rbs ws S1 B=some S2)(h3:fU us ps rbs ws S2 (.draw i x t2 b2)=some S3):fW us ps rbs ws S (.draw i x t3 b3::B)=some S3:=by
 obtain ⟨d,rb,hd,hr,c1,p1,rfl⟩:=oR h1;have il:=(Ac.mp hd).1;have hd1:(S.set i (λy=>d.1 y+oneQ x ((t:Rat)/(b:Rat)) y,un d.2 [x]))[i]?=some (λy=>d.1 y+oneQ x ((t:Rat)/(b:Rat)) y,un d.2 [x]):=BH il;obtain ⟨hd2,k2⟩:=uA nB hd1 h2;obtain ⟨d',rb',hd',hr',c3,p3,rfl⟩:=oR h3;rw [hd2] at hd';cases hd';rw [hr] at hr';cases hr';have ef:(λy=>(d.1 y+oneQ x ((t:Rat)/(b:Rat)) y)+oneQ x ((t2:Rat)/(b2:Rat)) y)=λy=>d.1 y+oneQ x ((t3:Rat)/(b3:Rat)) y:=funext λy=>by rw [Rat.add_assoc,one_add,e3]
 have g:=aG6 (us:=us) (ps:=ps) (rbs:=rbs) (ws:=ws) (t:=t3) (b:=b3) hd hr (by rw [<- ef];exact c3) p1;show (fU ..).bind _=_;rw [g];have k:=k2 (λy=>d.1 y+oneQ x ((t3:Rat)/(b3:Rat)) y,un d.2 [x]);rw [List.set_set] at k;show fW us ps rbs ws _ B=some (S2.set i (λy=>(d.1 y+oneQ x ((t:Rat)/(b:Rat)) y)+oneQ x ((t2:Rat)/(b2:Rat)) y,un (un d.2 [x]) [x]));rw [ef,aJ7];exact k
end
def dr (i:Nat)(x:Str)(a:Int×Int):Rw:=.draw i x a.1 a.2
def jn:Rw->Rw->Option Rw
 |.draw i x t b,.draw j y t2 b2=>if i=j/\x=y then some (dr i x (BQ.add (t,b) (t2,b2))) else none
 |_,_=>none
abbrev GT:Type:=List Rw×(Nat->Option Nat)
def psh (g:GT)(r:Rw):GT:=(g.1++[r],λp=>if p∈nmd r then some g.1.length else g.2 p)
def gst (g:GT)(r:Rw):GT:=((g.2 (ph r)).bind λk=>((g.1[k]?).bind λq=>jn q r).map λr'=>(k,r')).elim (psh g r) λz=>(g.1.set z.1 z.2,g.2)
def gat (rws:List Rw):GT:=rws.foldl gst ([],λ_=>none)
theorem dE (rs:List Rw)(r:Rw):gat (rs++[r])=gst (gat rs) r:=by
 unfold gat;rw [List.foldl_append];rfl
theorem take_snoc {α:Type}{l:List α}{i:Nat}{a:α}(h:l[i]?=some a):l.take (i+1)=l.take i++[a]:=by
 rw [List.take_succ,h];rfl
theorem jC {rws:List Rw}{i:Nat}{r:Rw}(h:rws[i]?=some r):gat (rws.take (i+1))=gst (gat (rws.take i)) r:=by
 rw [take_snoc h,dE]
def mQ {q r r':Rw}(h:jn q r=some r'):∃ i x t b t2 b2,q=.draw i x t b/\r=.draw i x t2 b2/\r'=dr i x (BQ.add (t,b) (t2,b2)):=by
 cases q with
 |draw i x t b=>
  cases r with
  |draw j y t2 b2=>
   by_cases c:i=j/\x=y
   ·have e:=h.symm.trans (if_pos c)
    obtain ⟨rfl,rfl⟩:=c;cases e;exact ⟨_,_,_,_,_,_,rfl,rfl,rfl⟩
   ·have e:=h.symm.trans (if_neg c)
    cases e
  |_=>cases h
 |_=>cases h
theorem aCy (i:Nat)(x:Str)(t b t2 b2:Int):jn (.draw i x t b) (.draw i x t2 b2)=some (dr i x (BQ.add (t,b) (t2,b2))):=if_pos ⟨rfl,rfl⟩
theorem jB {g:GT}{k i:Nat}{x:Str}{t b t2 b2:Int}(h1:g.2 i=some k)(h2:g.1[k]?=some (.draw i x t b)):gst g (.draw i x t2 b2)=(g.1.set k (dr i x (BQ.add (t,b) (t2,b2))),g.2):=by
 unfold gst;show ((g.2 i).bind _).elim _ _=_;rw [h1];show (((g.1[k]?).bind _).map _).elim _ _=_;rw [h2];show ((jn (.draw i x t b) (.draw i x t2 b2)).map _).elim _ _=_;rw [aCy];rfl
theorem gY {g:GT}{r:Rw}(h:∀ k q,g.2 (ph r)=some k->g.1[k]?=some q->jn q r=none):gst g r=psh g r:=by
 unfold gst;cases e:g.2 (ph r) with
 |none=>rfl
 |some k=>
  show (((g.1[k]?).bind _).map _).elim _ _=_;cases e2:g.1[k]? with
  |none=>rfl
  |some q=>
   show ((jn q r).map _).elim _ _=_;rw [h k q e e2];rfl
def lK (g:GT)(r:Rw):(∃ k i x t b t2 b2,r=.draw i x t2 b2/\g.2 i=some k/\g.1[k]?=some (.draw i x t b)/\gst g r=(g.1.set k (dr i x (BQ.add (t,b) (t2,b2))),g.2))\/(gst g r=psh g r/\∀ k q,g.2 (ph r)=some k->g.1[k]?=some q->jn q r=none):=by
 by_cases c:∀ k q,g.2 (ph r)=some k->g.1[k]?=some q->jn q r=none
 ·exact .inr ⟨gY c,c⟩
 ·obtain ⟨k,c⟩:=Classical.not_forall.mp c
  obtain ⟨q,c⟩:=Classical.not_forall.mp c;obtain ⟨h1,c⟩:=Classical.not_imp.mp c;obtain ⟨h2,c⟩:=Classical.not_imp.mp c;cases e:jn q r with
  |none=>exact absurd e c
  |some r'=>
   obtain ⟨i,x,t,b,t2,b2,rfl,rfl,rfl⟩:=mQ e;exact .inl ⟨k,i,x,t,b,t2,b2,rfl,h1,h2,jB h1 h2⟩
structure LtOk (g:GT):Prop where
 at':∀ p k,g.2 p=some k->∃ q,g.1[k]?=some q/\p∈nmd q
 up:∀ p k,g.2 p=some k->∀ k' q,k<k'->g.1[k']?=some q->p∉nmd q
def nK {α:Type}{l:List α}{k k':Nat}{a b:α}(h:(l.set k a)[k']?=some b):(k=k'/\b=a)\/(k≠k'/\l[k']?=some b):=by
 by_cases e:k=k'
 ·subst e
  have:=(Ac.mp h).1;rw [BB] at this;rw [BH this] at h;exact .inl ⟨rfl,(AA h).symm⟩
 ·rw [AU e] at h
  exact .inr ⟨e,h⟩
def aEb {g:GT}{r:Rw}(h:LtOk g):LtOk (gst g r):=by
 rcases lK g r with ⟨k,i,x,t,b,t2,b2,rfl,h1,h2,e⟩|⟨e,_⟩
 ·rw [e]
  refine ⟨λp k' hp=>?_,λp k1 hp k' q lt hq=>?_⟩
  ·obtain ⟨q,hq,pq⟩:=h.at' p k' hp
   by_cases kk:k=k'
   ·subst kk
    rw [h2] at hq;cases hq;exact ⟨_,BH (Ac.mp h2).1,pq⟩
   ·exact ⟨q,by show (g.1.set k _)[k']?=_;rw [AU kk];exact hq,pq⟩
  ·rcases nK hq with ⟨rfl,rfl⟩|⟨_,hq⟩
   ·exact h.up p k1 hp k (.draw i x t b) lt h2
   ·exact h.up p k1 hp k' q lt hq
 ·rw [e]
  refine ⟨λp k' hp=>?_,λp k1 hp k' q lt hq=>?_⟩
  ·have hp:(if p∈nmd r then some g.1.length else g.2 p)=some k':=hp
   by_cases c:p∈nmd r
   ·rw [if_pos c] at hp
    cases hp;exact ⟨r,by show (g.1++[r])[g.1.length]?=_;simp,c⟩
   ·rw [if_neg c] at hp
    obtain ⟨q,hq,pq⟩:=h.at' p k' hp;exact ⟨q,by show (g.1++[r])[k']?=_;rw [AG (Ac.mp hq).1];exact hq,pq⟩
  ·have hp:(if p∈nmd r then some g.1.length else g.2 p)=some k1:=hp
   have hq:(g.1++[r])[k']?=some q:=hq;have kl:=(Ac.mp hq).1;rw [As,Bo] at kl
   by_cases c:p∈nmd r
   ·rw [if_pos c] at hp
    cases hp;lia
   ·rw [if_neg c] at hp
    by_cases kk:k'<g.1.length
    ·rw [AG kk] at hq
     exact h.up p k1 hp k' q lt hq
    ·have:k'=g.1.length:=by lia
     subst this;rw [AH (Aj _),DG] at hq;cases hq;exact c
def aBr {α:Type}{l:List α}{k:Nat}{a:α}(h:l[k]?=some a)(b:α):l=l.take k++a::l.drop (k+1)/\l.set k b=l.take k++b::l.drop (k+1):=by
 obtain ⟨hl,e⟩:=Ac.mp h;constructor
 ·rw [<- e,List.getElem_cons_drop,List.take_append_drop]
 ·rw [List.set_eq_take_append_cons_drop,if_pos hl]
def AmR:Rw->Prop
 |.draw _ _ t b=>Amt t b
 |_=>True
section
variable {us:Gq}{ps:Gf}{rbs:Gg}{ws:Gh}
def aC4 {g:GT}{r:Rw}{S S1 S2:List PQ}(ok:LtOk g)(am:∀ q∈g.1,AmR q)(ar:AmR r)(h:fW us ps rbs ws S g.1=some S1)(h2:fU us ps rbs ws S1 r=some S2):fW us ps rbs ws S (gst g r).1=some S2:=by
 rcases lK g r with ⟨k,i,x,t,b,t2,b2,rfl,e1,e2,e⟩|⟨e,_⟩
 ·rw [e]
  show fW us ps rbs ws S (g.1.set k _)=_;obtain ⟨s1,s2⟩:=aBr e2 (dr i x (BQ.add (t,b) (t2,b2)));have aq:Amt t b:=am _ (Ao e2);rw [s1,ends_app] at h;obtain ⟨Sa,ha,h⟩:=bind_some h;obtain ⟨Sb,hb,h⟩:=bind_some h;rw [s2,ends_app,ha];refine aGw (BQ.vl_add (a:=(t,b)) (b:=(t2,b2)) aq ar) hb (λq hq=>?_) h h2;obtain ⟨n,hn⟩:=CY hq;rw [List.getElem?_drop] at hn;exact ok.up i k e1 _ q (by lia) hn
 ·rw [e]
  show fW us ps rbs ws S (g.1++[r])=_;rw [ends_app,h];show (fU ..).bind _=_;rw [h2];rfl
end
def SmR (nb:Nat)(ws:Gh)(r:Rw):Prop:=GoodR nb ws r/\rwt r<=1000/\rwb r<=100
def Bd (n:Nat):Rw->Prop
 |.draw _ _ t b=>Bt (17*n) t/\Bt (7*n) b
 |_=>True
def Bd.mono {n m:Nat}{r:Rw}(h:Bd n r)(l:n<=m):Bd m r:=by
 cases r with
 |draw i x t b=>exact ⟨h.1.mono (by lia),h.2.mono (by lia)⟩
 |_=>trivial
theorem aEo:∀ {g:List Rw} {k:Nat} {q:Rw} (r:Rw),g[k]?=some q->cs (g.set k r)+cb q=cs g+cb r
 |[],k,q,r,h=>by simp at h
 |a::g,0,q,r,h=>by
  cases h;show cs (r::g)+_=_;rw [eD,eD];lia
 |a::g,k+1,q,r,h=>by
  have:=aEo (g:=g) (k:=k) r (by simpa using h);show cs (a::g.set k r)+_=_;rw [eD,eD];lia
def aBb {nb:Nat}{ws:Gh}{r:Rw}(h:GoodR nb ws r):AmR r:=by
 cases r with
 |draw i x t b=>exact h.2.2.1.am
 |_=>trivial
def aC3 {nb n:Nat}{ws:Gh}{g:GT}{r:Rw}(hn:n+1<=41)(hg:∀ q∈g.1,GoodR nb ws q/\Bd n q)(hr:SmR nb ws r):(∀ q∈(gst g r).1,GoodR nb ws q/\Bd (n+1) q)/\cs (gst g r).1<=cs g.1+cb r:=by
 obtain ⟨g1,g2,g3⟩:=hr
 rcases lK g r with ⟨k,i,x,t,b,t2,b2,rfl,e1,e2,e⟩|⟨e,_⟩
 ·rw [e]
  obtain ⟨gq,bt,bb⟩:=hg _ (Ao e2);obtain ⟨q1,q2,q3,q4⟩:=gq;obtain ⟨r1,r2,r3,r4⟩:=g1;have g2:t2<=1000:=g2;have g3:b2<=100:=g3;have aq:BQ.Am (t,b):=q3.am;have ar:BQ.Am (t2,b2):=r3.am;have b1:=q3.am.b1;have b1':=r3.am.b1;have B2:Bt 7 b2:=dD 7 (c:=101) (by lia) (by lia);have T2:Bt 10 t2:=dD 10 (c:=1001) (by lia) (by lia);have T:Bt (17*n+17) (t*b2+t2*b):=((bt.mul B2).mono (show 17*n+7<=17*n+16 by lia)).add ((T2.mul bb).mono (show 10+7*n<=17*n+16 by lia));have B:Bt (7*n+7) (b*b2):=bb.mul B2;have am:=BQ.add_am aq ar;have le:=BQ.lw_le (aq.num ar) (aq.mul ar);have ps:1<=(BQ.add (t,b) (t2,b2)).1:=BQ.lw_pos (by
   have h1:=BQ.mul1 q4 b1';have h2:=BQ.mul1 r4 b1;show 1<=t*b2+t2*b;lia) (aq.mul ar)
  have lb:Bt (17*n+17) (BQ.add (t,b) (t2,b2)).1:=T.le am.t0 le.1;have lb2:Bt (7*n+7) (BQ.add (t,b) (t2,b2)).2:=B.le (by have:=am.b1;lia) le.2;refine ⟨λq hq=>?_,?_⟩
  ·rcases Ek hq with h|rfl
   ·obtain ⟨a1,a2⟩:=hg q h
    exact ⟨a1,a2.mono (by lia)⟩
   ·exact ⟨⟨q1,q2,⟨am,lb.mono (by lia),lb2.mono (by lia)⟩,ps⟩,lb.mono (by lia),lb2.mono (by lia)⟩
  ·have:=aEo (dr i x (BQ.add (t,b) (t2,b2))) e2
   have c:cb (dr i x (BQ.add (t,b) (t2,b2)))<=cb (.draw i x t b)+cb (.draw i x t2 b2):=by
    have h:=(Bt.mul (vR (.draw i x t b)) (vR (.draw i x t2 b2)));exact (h.le (y:=b*b2) (x:=(BQ.add (t,b) (t2,b2)).2) (by have:=am.b1;lia) le.2).bits
   show cs (g.1.set k _)<=_;lia
 ·rw [e]
  refine ⟨λq hq=>?_,by show cs (g.1++[r])<=_;rw [oT,eD];exact Aj _⟩
  rcases Bm.mp hq with h|h
  ·obtain ⟨a1,a2⟩:=hg q h
   exact ⟨a1,a2.mono (by lia)⟩
  ·cases Az.mp h
   refine ⟨g1,?_⟩;cases r with
   |draw i x t b=>
    obtain ⟨r1,r2,r3,r4⟩:=g1;have g2:t<=1000:=g2;have g3:b<=100:=g3;have:=r3.am.b1;exact ⟨(dD 10 (c:=1001) (by lia) (by lia)).mono (by lia),(dD 7 (c:=101) (by lia) (by lia)).mono (by lia)⟩
   |_=>trivial
def zY (g:GT)(r:Rw):g.1.length<=(gst g r).1.length/\(gst g r).1.length<=g.1.length+1:=by
 rcases lK g r with ⟨k,i,x,t,b,t2,b2,rfl,e1,e2,e⟩|⟨e,_⟩
 ·rw [e]
  show _<=(g.1.set k _).length/\(g.1.set k _).length<=_;rw [BB];lia
 ·rw [e]
  show _<=(g.1++[r]).length/\(g.1++[r]).length<=_;rw [As,Bo];lia
structure GI (us:Gq)(ps:Gf)(rbs:Gg)(ws:Gh)(nb:Nat)(rs:List Rw):Prop where
 ok:LtOk (gat rs)
 gd:∀ q∈(gat rs).1,GoodR nb ws q/\Bd rs.length q
 cs':cs (gat rs).1<=cs rs
 ln:(gat rs).1.length<=rs.length
 en:∀ S S',fW us ps rbs ws S rs=some S'->fW us ps rbs ws S (gat rs).1=some S'
def GI.snoc {us:Gq}{ps:Gf}{rbs:Gg}{ws:Gh}{nb:Nat}{rs:List Rw}{r:Rw}(h:GI us ps rbs ws nb rs)(l:rs.length<41)(hr:SmR nb ws r):GI us ps rbs ws nb (rs++[r]):=by
 obtain ⟨a1,a2⟩:=aC3 (n:=rs.length) (by lia) h.gd hr;have ll:=zY (gat rs) r;have hl:=h.ln;have hc:=h.cs';refine ⟨by rw [dE];exact aEb h.ok,by rw [dE,As,Bo];exact a1,by rw [dE,oT,eD];show _<=_+(_+0);lia,by rw [dE,As,Bo];lia,λS S' hS=>?_⟩;rw [ends_app] at hS;obtain ⟨S1,h1,h2⟩:=bind_some hS;obtain ⟨S2,h2,h3⟩:=bind_some h2;cases h3;rw [dE];exact aC4 h.ok (λq hq=>aBb (h.gd q hq).1) (aBb hr.1) (h.en S S1 h1) h2
theorem GI.all {us:Gq}{ps:Gf}{rbs:Gg}{ws:Gh}{nb:Nat}{rws:List Rw}(l:rws.length<=41)(hr:∀ r∈rws,SmR nb ws r):∀ i,i<=rws.length->GI us ps rbs ws nb (rws.take i)
 |0,_=>⟨⟨(λ_ _ h=>by cases h),λ_ _ h=>by cases h⟩,(λ_ h=>by cases h),Aj _,Aj _,λ_ _ h=>h⟩
 |i+1,hi=>by
  obtain ⟨r,h⟩:∃ r,rws[i]?=some r:=⟨_,Ae (by lia)⟩;rw [take_snoc h];exact (GI.all l hr i (by lia)).snoc (by rw [Dr];lia) (hr r (Ao h))
def jn_l {i:Nat}{x:Str}{t b t' b':Int}{s:Rw}(h:jn (.draw i x t b) s=none):jn (.draw i x t' b') s=none:=by
 cases e:jn (.draw i x t' b') s with
 |none=>rfl
 |some r=>
  obtain ⟨j,y,_,_,t2,b2,e1,e2,_⟩:=mQ e;cases e1;rw [e2,aCy] at h;cases h
def jn_r {i:Nat}{x:Str}{t b t' b':Int}{q:Rw}(h:jn q (.draw i x t b)=none):jn q (.draw i x t' b')=none:=by
 cases e:jn q (.draw i x t' b') with
 |none=>rfl
 |some r=>
  obtain ⟨j,y,t1,b1,t2,b2,e1,e2,_⟩:=mQ e;cases e2;rw [e1,aCy] at h;cases h
theorem qW:∀ (n:Nat) (f:List Rw),f.length=n->(gat f).1.length<=n
 |0,f,h=>by
  cases AY.mp h;exact Aj _
 |n+1,f,h=>by
  have e:=Fl (l:=f) (λz=>by rw [z] at h;cases h);have l:f.dropLast.length=n:=by rw [List.length_dropLast];lia
  have ih:=qW n f.dropLast l;rw [<- e,dE];have:=(zY (gat f.dropLast) (f.getLast λz=>by rw [z] at h;cases h)).2;lia
def tV {h:List Rw}{s:Rw}{l:Nat->Option Nat}(e:gat (h++[s])=(h++[s],l)):∃ l0,gat h=(h,l0)/\l=(psh (h,l0) s).2/\∀ k q,l0 (ph s)=some k->h[k]?=some q->jn q s=none:=by
 rw [dE] at e;have ll:=qW _ h rfl
 rcases lK (gat h) s with ⟨k,i,x,t,b,t2,b2,rfl,e1,e2,e3⟩|⟨e3,nj⟩
 ·rw [e3] at e
  have:=congrArg List.length (congrArg Prod.fst e);rw [BB,As,Bo] at this;lia
 ·rw [e3] at e
  have e4:(gat h).1=h:=(List.append_inj' (congrArg Prod.fst e) rfl).1;refine ⟨(gat h).2,Prod.ext e4 rfl,?_,λk q h1 h2=>nj k q h1 (by rw [e4];exact h2)⟩;exact (congrArg Prod.snd e).symm.trans (congrArg (λg=>(psh g s).2) (show gat h=(h,(gat h).2) from Prod.ext e4 rfl))
theorem aAb:∀ (n:Nat) (f:List Rw) {l:Nat->Option Nat} {k i:Nat} {x:Str} {t b:Int} (a:Int×Int),f.length=n->gat f=(f,l)->f[k]?=some (.draw i x t b)->gat (f.set k (dr i x a))=(f.set k (dr i x a),l)
 |0,f,l,k,i,x,t,b,a,hn,_,hk=>by
  cases AY.mp hn;simp at hk
 |n+1,f,l,k,i,x,t,b,a,hn,e,hk=>by
  have nn:f≠[]:=λz=>by rw [z] at hn;cases hn
  have es:=Fl nn;have hl:f.dropLast.length=n:=by rw [List.length_dropLast];lia
  generalize f.dropLast=h at es hl;generalize f.getLast nn=s at es;subst es;obtain ⟨l0,g1,rfl,nj⟩:=tV e;have kl:=(Ac.mp hk).1;rw [As,Bo] at kl
  by_cases c:k<h.length
  ·rw [AG c] at hk
   have ih:=aAb n h a hl g1 hk;rw [List.set_append_left _ _ c,dE,ih,gY]
   ·show (_,_)=(_,_)
    refine Prod.ext rfl (funext λp=>?_);show (if p∈nmd s then some (h.set k _).length else l0 p)=if p∈nmd s then some h.length else l0 p;rw [BB]
   ·intro k' q h1 h2
    rcases nK h2 with ⟨rfl,rfl⟩|⟨_,h2⟩
    ·exact jn_l (nj k _ h1 hk)
    ·exact nj k' q h1 h2
  ·have:k=h.length:=by lia
   subst this;rw [AH (Aj _),DG] at hk;cases hk;rw [List.set_append_right _ _ (Aj _),DG];show gat (h++[dr i x a])=(h++[dr i x a],_);rw [dE,g1];exact gY (g:=(h,l0)) (r:=dr i x a) λk' q h1 h2=>jn_r (nj k' q h1 h2)
theorem aAa:∀ (n:Nat) (f:List Rw),f.length=n->gat (gat f).1=gat f
 |0,f,h=>by
  cases AY.mp h;rfl
 |n+1,f,hn=>by
  have nn:f≠[]:=λz=>by rw [z] at hn;cases hn
  have es:=Fl nn;have hl:f.dropLast.length=n:=by rw [List.length_dropLast];lia
  generalize f.dropLast=h at es hl;generalize f.getLast nn=s at es;subst es;have ih:=aAa n h hl;rw [dE]
  rcases lK (gat h) s with ⟨k,i,x,t,b,t2,b2,rfl,e1,e2,e3⟩|⟨e3,nj⟩
  ·rw [e3]
   exact aAb _ (gat h).1 _ rfl (Prod.ext (congrArg Prod.fst ih) (congrArg Prod.snd ih)) e2
  ·rw [e3]
   show gat ((gat h).1++[s])=_;rw [dE,ih,e3]
def amt:Rw->Int×Int
 |.draw _ _ t b=>(t,b)
 |.fill _ _ t b=>(t,b)
 |.pour _ _ t b=>(t,b)
 |_=>(0,1)
def wr (a:Int×Int):Rw->Rw
 |.draw i x _ _=>dr i x a
 |.fill i x t b=>.fill i x t b
 |.pour i j t b=>.pour i j t b
 |.empty i=>.empty i
 |.rinse i=>.rinse i
def fV (rws:List Rw)(p:Nat):Nat->Option Nat
 |0=>none
 |n+1=>if p∈nmd (rws.getD n (.rinse 0)) then some n else fV rws p n
def smA (rws:List Rw)(hs:List Nat)(at':Nat):Nat->Int×Int
 |0=>(0,1)
 |n+1=>if hs[n]?=some at' then BQ.add (smA rws hs at' n) (amt (rws.getD n (.rinse 0))) else smA rws hs at' n
def hds (hs:List Nat)(n:Nat):List Nat:=(Bf n).filter λa=>decide (hs[a]?=some a)
def wan (rws:List Rw)(hs:List Nat)(n a:Nat):Rw:=wr (smA rws hs a n) (rws.getD a (.rinse 0))
theorem fS {rws:List Rw}{p k:Nat}:∀ {n:Nat},fV rws p n=some k->k<n
 |0,h=>by cases h
 |n+1,h=>by
  have h:(if p∈nmd (rws.getD n (.rinse 0)) then some n else fV rws p n)=some k:=h
  by_cases c:p∈nmd (rws.getD n (.rinse 0))
  ·rw [if_pos c] at h
   cases h;lia
  ·rw [if_neg c] at h
   have:=fS h;lia
theorem nJ {rws:List Rw}{hs hs':List Nat}{a:Nat}:∀ {n:Nat},(∀ k,k<n->hs'[k]?=hs[k]?)->smA rws hs' a n=smA rws hs a n
 |0,_=>rfl
 |n+1,h=>by
  show (if _ then _ else _)=if _ then _ else _;rw [h n (by lia),nJ λk hk=>h k (by lia)]
theorem rW {rws:List Rw}{hs:List Nat}{a:Nat}:∀ {n:Nat},(∀ k,k<n->hs[k]?≠some a)->smA rws hs a n=(0,1)
 |0,_=>rfl
 |n+1,h=>by
  show (if _ then _ else _)=_;rw [if_neg (h n (by lia)),rW λk hk=>h k (by lia)]
def sk:Rw->Rw->Prop
 |.draw i x _ _,.draw j y _ _=>i=j/\x=y
 |_,_=>False
def aH1 {q r:Rw}:jn q r≠none↔sk q r:=by
 constructor
 ·intro h
  cases e:jn q r with
  |none=>exact absurd e h
  |some r'=>
   obtain ⟨i,x,t,b,t2,b2,rfl,rfl,_⟩:=mQ e;exact ⟨rfl,rfl⟩
 ·intro h
  cases q with
  |draw i x t b=>
   cases r with
   |draw j y t2 b2=>
    obtain ⟨rfl,rfl⟩:=(h:i=j/\x=y);rw [aCy];exact λz=>by cases z
   |_=>cases h
  |_=>cases h
structure HdI (rws:List Rw)(hs:List Nat)(n:Nat):Prop where
 ln:hs.length=n
 lt:∀ (k a:Nat),hs[k]?=some a->a<=k/\hs[a]?=some a/\(a=k\/sk (rws.getD a (.rinse 0)) (rws.getD k (.rinse 0)))
 g:(gat (rws.take n)).1=(hds hs n).map (wan rws hs n)
 la:∀ p,match fV rws p n with
  |none=>(gat (rws.take n)).2 p=none
  |some k=>∃ j a,hs[k]?=some a/\(hds hs n)[j]?=some a/\(gat (rws.take n)).2 p=some j
theorem tT {hs:List Nat}{v n:Nat}(l:hs.length=n):hds (hs++[v]) (n+1)=hds hs n++if v=n then [n] else []:=by
 unfold hds;rw [List.range_succ,CQ]
 congr 1
 ·refine List.filter_congr λa ha=>?_
  rw [AG (by rw [l];exact CL.mp ha)]
 ·have:(hs++[v])[n]?=some v:=by rw [AH (by lia),l,DG];rfl
  by_cases c:v=n
  ·rw [if_pos c,Es,if_pos (by rw [this,c];exact decide_eq_true rfl)]
   rfl
  ·rw [if_neg c,Es,if_neg (by rw [this];simpa using c)]
   rfl
def aGx {hs:List Nat}{n a:Nat}:a∈hds hs n↔a<n/\hs[a]?=some a:=by
 unfold hds;rw [Ft,CL,decide_eq_true_iff]
def aJo {hs:List Nat}{n:Nat}:(hds hs n).Nodup:=List.nodup_range.filter _
def HdI.zero (rws:List Rw):HdI rws [] 0:=⟨rfl,λk a h=>by simp at h,rfl,λ_=>rfl⟩
def aKj {q s r:Rw}(h:sk q s)(h':sk s r):sk q r:=by
 cases q<;>cases s<;>first|exact Cj h|skip;cases r<;>first|exact Cj h'|skip;exact ⟨h.1.trans h'.1,h.2.trans h'.2⟩
def aKk {q s r:Rw}(h:sk q s)(h':sk q r):sk s r:=by
 cases q<;>cases s<;>first|exact Cj h|skip;cases r<;>first|exact Cj h'|skip;exact ⟨h.1.symm.trans h'.1,h.2.symm.trans h'.2⟩
def aKi {a:Int×Int}{q r:Rw}(h:sk (wr a q) r):sk q r:=by
 cases q<;>cases r<;>first|exact Cj h|exact h
theorem aEy {r:Rw}(h:AmR r):wr (BQ.add (0,1) (amt r)) r=r:=by
 cases r with
 |draw i x t b=>
  show dr i x (BQ.add (0,1) (t,b))=_;rw [BQ.add_zero_l (b:=(t,b)) h];rfl
 |_=>rfl
theorem iH {rws:List Rw}{p n:Nat}{r:Rw}(h:rws[n]?=some r):fV rws p (n+1)=if p∈nmd r then some n else fV rws p n:=by
 show (if p∈nmd (rws.getD n (.rinse 0)) then _ else _)=_;rw [Ck,h];rfl
theorem eA {rws:List Rw}{n:Nat}{r:Rw}(h:rws[n]?=some r):rws.getD n (.rinse 0)=r:=by
 rw [Ck,h];rfl
theorem iV {rws:List Rw}{hs:List Nat}{v a n:Nat}{r:Rw}(l:hs.length=n)(h:rws[n]?=some r):smA rws (hs++[v]) a (n+1)=if v=a then BQ.add (smA rws hs a n) (amt r) else smA rws hs a n:=by
 show (if (hs++[v])[n]?=some a then BQ.add (smA rws (hs++[v]) a n) (amt (rws.getD n (.rinse 0))) else smA rws (hs++[v]) a n)=_;rw [eA h,nJ λk hk=>AG (by lia)];have:(hs++[v])[n]?=some v:=by rw [AH (by lia),l,DG];rfl
 rw [this]
 by_cases c:v=a
 ·rw [if_pos c,if_pos (by rw [c])]
 ·rw [if_neg c,if_neg λz=>c (AA z)]
def HdI.join {rws:List Rw}{hs:List Nat}{n k a:Nat}{r:Rw}(I:HdI rws hs n)(hr:rws[n]?=some r)(hk:fV rws (ph r) n=some k)(s:sk (rws.getD k (.rinse 0)) r)(ha:hs[k]?=some a):HdI rws (hs++[a]) (n+1):=by
 have kn:=fS hk;obtain ⟨ak,haa,sa⟩:=I.lt k a ha;have la:=I.la (ph r);rw [hk] at la;obtain ⟨j,a',h1,h2,h3⟩:=la;rw [ha] at h1;cases h1;have sar:sk (rws.getD a (.rinse 0)) r:=by
  rcases sa with e|e
  ·rw [e];exact s
  ·exact aKj e s
 have hj:(gat (rws.take n)).1[j]?=some (wan rws hs n a):=by rw [I.g,Aq,h2];rfl
 have l':∀ k,k<n->(hs++[a])[k]?=hs[k]?:=λk hk=>AG (by rw [I.ln];exact hk);have ln:(hs++[a])[n]?=some a:=by rw [AH (by rw [I.ln];exact Aj _),I.ln,DG];rfl
 have eh:hds (hs++[a]) (n+1)=hds hs n:=by rw [tT I.ln,if_neg (by lia),Cc]
 obtain ⟨p,x,t2,b2,t1,b1,er,ea⟩:∃ p x t2 b2 t1 b1,r=.draw p x t2 b2/\rws.getD a (.rinse 0)=.draw p x t1 b1:=by
  generalize rws.getD a (.rinse 0)=q at sar;cases q<;>cases r<;>first|exact Cj sar|skip;obtain ⟨rfl,rfl⟩:=sar;exact ⟨_,_,_,_,_,_,rfl,rfl⟩
 have ew:wan rws hs n a=dr p x (smA rws hs a n):=by
  unfold wan;rw [ea];rfl
 have h3':(gat (rws.take n)).2 p=some j:=by rw [er] at h3;exact h3
 have eg:gat (rws.take (n+1))=((gat (rws.take n)).1.set j (dr p x (BQ.add (smA rws hs a n) (t2,b2))),(gat (rws.take n)).2):=by
  rw [jC hr,er];exact jB h3' (by rw [hj,ew];rfl)
 refine ⟨by rw [As,I.ln];rfl,λk' a' h=>?_,?_,λp'=>?_⟩
 ·by_cases c:k'<n
  ·rw [l' k' c] at h
   obtain ⟨q1,q2,q3⟩:=I.lt k' a' h;exact ⟨q1,by rw [l' a' (by lia)];exact q2,q3⟩
  ·have:=(Ac.mp h).1
   rw [As,Bo,I.ln] at this;have:k'=n:=by lia
   subst this;rw [ln] at h;cases h;exact ⟨by lia,by rw [l' a (by lia)];exact haa,.inr (by rw [eA hr];exact sar)⟩
 ·rw [eg,eh]
  apply EJ
  intro m;show ((gat (rws.take n)).1.set j _)[m]?=_;rw [Aq]
  by_cases c:j=m
  ·subst c
   rw [BH (Ac.mp hj).1,h2];show _=some (wan rws (hs++[a]) (n+1) a);unfold wan;rw [iV I.ln hr,if_pos rfl,ea,er];rfl
  ·rw [AU c,I.g,Aq]
   cases e:(hds hs n)[m]? with
   |none=>rfl
   |some a2=>
    show some (wan rws hs n a2)=some (wan rws (hs++[a]) (n+1) a2);have ne:a≠a2:=λz=>c (by
     have n1:=(Ac.mp h2).1;exact (List.getElem?_inj n1 aJo).mp (by rw [h2,e,z]))
    unfold wan;rw [iV I.ln hr,if_neg ne]
 ·rw [iH hr,eg]
  by_cases c:p'∈nmd r
  ·rw [if_pos c]
   rw [er] at c;cases Az.mp (show p'∈[p] from c);exact ⟨j,a,ln,by rw [eh];exact h2,h3'⟩
  ·rw [if_neg c]
   have la:=I.la p';cases e:fV rws p' n with
   |none=>rw [e] at la;exact la
   |some k'=>
    rw [e] at la;obtain ⟨j',a',q1,q2,q3⟩:=la;exact ⟨j',a',by rw [l' k' (fS e)];exact q1,by rw [eh];exact q2,q3⟩
def HdI.push {rws:List Rw}{hs:List Nat}{n:Nat}{r:Rw}(I:HdI rws hs n)(hr:rws[n]?=some r)(ar:AmR r)(hk:∀ k,fV rws (ph r) n=some k->¬ sk (rws.getD k (.rinse 0)) r):HdI rws (hs++[n]) (n+1):=by
 have l':∀ k,k<n->(hs++[n])[k]?=hs[k]?:=λk hk=>AG (by rw [I.ln];exact hk);have ln:(hs++[n])[n]?=some n:=by rw [AH (by rw [I.ln];exact Aj _),I.ln,DG];rfl
 have eh:hds (hs++[n]) (n+1)=hds hs n++[n]:=by rw [tT I.ln,if_pos rfl]
 have eg:gat (rws.take (n+1))=psh (gat (rws.take n)) r:=by
  rw [jC hr];refine gY λj q h1 h2=>?_;cases e:jn q r with
  |none=>rfl
  |some r'=>
   have sq:sk q r:=aH1.mp (by rw [e];exact λz=>by cases z);have la:=I.la (ph r);cases e2:fV rws (ph r) n with
   |none=>rw [e2] at la;rw [la] at h1;cases h1
   |some k=>
    rw [e2] at la;obtain ⟨j',a,q1,q2,q3⟩:=la;rw [q3] at h1;cases h1;rw [I.g,Aq,q2] at h2;cases h2;have sa:=aKi sq;obtain ⟨_,_,z⟩:=I.lt k a q1;refine absurd ?_ (hk k e2)
    rcases z with z|z
    ·rw [<- z];exact sa
    ·exact aKk z sa
 refine ⟨by rw [As,I.ln];rfl,λk' a' h=>?_,?_,λp'=>?_⟩
 ·by_cases c:k'<n
  ·rw [l' k' c] at h
   obtain ⟨q1,q2,q3⟩:=I.lt k' a' h;exact ⟨q1,by rw [l' a' (by lia)];exact q2,q3⟩
  ·have:=(Ac.mp h).1
   rw [As,Bo,I.ln] at this;have:k'=n:=by lia
   subst this;rw [ln] at h;cases h;exact ⟨Aj _,ln,.inl rfl⟩
 ·rw [eg,eh,AW]
  show (gat (rws.take n)).1++[r]=_;rw [I.g]
  congr 1
  ·refine Dg λa ha=>?_
   have:=(aGx.mp ha).1;unfold wan;rw [iV I.ln hr,if_neg (by lia)]
  ·show [r]=[wan rws (hs++[n]) (n+1) n]
   unfold wan;rw [iV I.ln hr,if_pos rfl,eA hr,rW λk hk z=>by
    have:=(I.lt k n z).1;lia,aEy ar]
 ·rw [iH hr,eg]
  by_cases c:p'∈nmd r
  ·rw [if_pos c]
   refine ⟨(hds hs n).length,n,ln,by rw [eh,AH (Aj _),DG];rfl,?_⟩;show (if p'∈nmd r then some (gat (rws.take n)).1.length else _)=_;rw [if_pos c,I.g,Ag]
  ·rw [if_neg c]
   have la:=I.la p';have e3:(psh (gat (rws.take n)) r).2 p'=(gat (rws.take n)).2 p':=if_neg c;cases e:fV rws p' n with
   |none=>rw [e] at la;exact e3.trans la
   |some k'=>
    rw [e] at la;obtain ⟨j',a',q1,q2,q3⟩:=la;exact ⟨j',a',by rw [l' k' (fS e)];exact q1,by rw [eh,AG (Ac.mp q2).1];exact q2,e3.trans q3⟩
def aAx {rws:List Rw}{i:Nat}{r:Rw}(h:rws[i]?=some r):cs (rws.take (i+1))=cs (rws.take i)+cb r:=by
 rw [take_snoc h,oT,eD];rfl
def aJz (rws:List Rw)(i:Nat):cs (rws.take i)<=cs rws:=by
 have:=oT (rws.take i) (rws.drop i);rw [List.take_append_drop] at this;lia
def fcl (c0 c1 c2 c3 c4:Gj):Fat->Gj
 |.dry _=>c0
 |.low _=>c1
 |.wet _=>c2
 |.spilt ..=>c3
 |.touch ..=>c4
def aDe {c0 c1 c2 c3 c4:Gj}{n:Nat}{H:Hp}{E:XK}{f:Fat}(h:∀ dx H',Same H H'->E (.ref (fcl c0 c1 c2 c3 c4 f)) (some dx) H'):BadF c0 c1 c2 c3 c4 n H E f:=by
 cases f with
 |dry i=>exact λdx H' s _=>h dx H' s
 |low i=>exact λdx H' s _=>h dx H' s
 |wet i=>exact λdx H' s _=>h dx H' s
 |spilt i M N rb=>exact λa t b dx H' s _ _ _=>h dx H' s
 |touch i pa=>exact λdx H' s _=>h dx H' s
structure RwsV (H:Hp)(l:Gj)(rws:List Rw)(vs:Gq):Prop where
 hl:H l=some (.lst vs)
 ln:vs.length=rws.length
 at':∀ (i:Nat) v rw',vs[i]?=some v->rws[i]?=some rw'->∃ a,v=.ref a/\RwV H a rw'
def RwsV.keep {H H':Hp}{l:Gj}{rws:List Rw}{vs:Gq}(s:Same H H')(h:RwsV H l rws vs):RwsV H' l rws vs:=⟨s _ _ h.hl,h.ln,λi v r hv hr=>by
 obtain ⟨a,e,q⟩:=h.at' i v r hv hr;exact ⟨a,e,q.keep s⟩⟩
theorem RwsV.get {H:Hp}{l:Gj}{rws:List Rw}{vs:Gq}{i:Nat}{v:V}(h:RwsV H l rws vs)(hv:vs[i]?=some v):∃ rw' a,rws[i]?=some rw'/\v=.ref a/\RwV H a rw':=by
 obtain ⟨r,hr⟩:∃ r,rws[i]?=some r:=⟨_,Ae (by rw [<- h.ln];exact (Ac.mp hv).1)⟩;obtain ⟨a,e,q⟩:=h.at' i v r hv hr;exact ⟨r,a,hr,e,q⟩
theorem BS.rp {H:Hp}{b r q:Gj}{rs us:Gq}{ps:Gf}{rbs:Gg}{ws:Gh}(h:BS H b r q rs us ps rbs ws):(∀ (i:Nat) rb,rbs[i]?=some rb->0<=rb.1)/\∀ (i:Nat) rb,rbs[i]?=some rb->0<=rb.2:=⟨λi rb hr=>by have:=(h.rm.at hr).1;lia,λi rb hr=>by have:=(h.rm.at hr).b1;lia⟩
structure WIn (H:Hp)(b r q ph rl:Gj)(rs us:Gq)(ps:Gf)(rbs:Gg)(ws:Gh)(M:Int)(S:List PF)(β:Nat)(rws:List Rw)(rv:Gq):Prop where
 on:OnIn H b r q ph rs us ps rbs ws M S β
 rw':RwsV H rl rws rv
 gd:GRs rbs.length ws rws
 l60:rws.length<=60
 bl:β+cs rws<=1900
inductive spWalked (c0 c1 c2 c3 c4:Gj)(vs:Gq)(H:Hp)(Q:VK)(E0:XK):Prop
 |mk (b r q ph rl rs us ps rbs ws M S β rws rv o:_) (e0:vs=[.ref b,.ref ph,.ref rl]) (e1:WIn H b r q ph rl rs us ps rbs ws M S β rws rv) (en:Ends us ps rbs ws M S rws o) (e2:∀ M' S',o=some (M',S')->∀ l' H',Same H H'->StV H' l' M' S'->Sok ws rbs M' S' (β+cs rws)->Q (.ref l') H') (e3:o=none->∀ f dx H',Same H H'->E0 (.ref (fcl c0 c1 c2 c3 c4 f)) (some dx) H'):spWalked c0 c1 c2 c3 c4 vs H Q E0
section
variable {P:Aw}{w:World}{K:Ab}{mg:Gb}{base:Heap}{cP c0 c1 c2 c3 c4 c5 f0 f1 f2 f3 f4:Gj}
def gK:FnScope ["bench","phials","rows","behind","place","row"] ["bench","phials","rows"] (aG pT):=fnScOk
def yI {f:Gj}{fd:Ay}(F:Fun K "walked" "walked" pT f fd)(T:Txt mg)(cD:Cal P w K mg base (CXg P w) 8 "done_at" ["bench","phials","row","place"] (spDoneAt K c0 c1 c2 c3 c4)):FnOk P w K mg base (CXg P w) 9 f fd ["bench","phials","rows"] (spWalked c0 c1 c2 c3 c4):=by
 refine F.okFA gK (λcdv A outer s H vs Q E hr h=>?_)
 ·obtain ⟨b,r,q,ph,rl,rs,us,ps,rbs,ws,M,S,β,rws,rv,o,rfl,wi,en,k,kb⟩:=h
  refine ⟨_,(aC (aK (i:=3) gK.nd (aY bC rfl T.list' dS (aA (pv 1) aB)))
   (aC (bR BJ.leaving rfl (aFz rfl T.enum' (aA (pv 2) aB)) (fM rfl (bE (aQ (i:=4) gK.nd) (bE (aQ (i:=5) gK.nd) dY)))
    (aE (aK (i:=3) gK.nd (lE cD hr rfl oA (aA (pv 0) (aA (pv 3) (aA (pv 5) (aA (pv 4) aB))))))))
   (aE (aL (pv 3))))),?_⟩
  refine cut3 ?_
  intros
  obtain ⟨vs,hv,vl,va⟩:=wi.on.st.ex;have l60:=wi.l60;have bl:=wi.bl;have rp:=wi.on.bs.rp.2;have rsl:=wi.on.bs.rm.1;refine ⟨_,rfl,ph,_,rfl,.inl (Gw hv),λl nl=>?_⟩;have sl:=Gu (o:=.lst vs) nl;have st1:StV (upd H l (.lst vs)) l M S:=⟨vs,aD,vl,λi v d h1 h2=>(va i v d h1 h2).keep sl⟩;generalize upd H l (.lst vs)=H1 at sl st1 ⊢;refine ⟨_,rfl,rl,rfl,⟨_,Gw (wi.rw'.keep sl).hl⟩,?_⟩;refine aC6 (ys:=rv) (λi σ H'=>∃ (l':Gj) (M':Int) (S':List PF) (v4 v5:Gr),σ=[some (.ref b),some (.ref ph),some (.ref rl),some (.ref l'),v4,v5]/\Same H H'/\StV H' l' M' S'/\Sok ws rbs M' S' (β+cs (rws.take i))/\Ends us ps rbs ws M' S' (rws.drop i) o) ⟨l,M,S,none,none,rfl,sl,st1,wi.on.so,en⟩ (λi σ H' _ hh=>by obtain ⟨_,_,_,_,_,_,sm,_⟩:=hh;exact Gw (wi.rw'.keep sm).hl) ?_ ?_
  ·intro i y Tt σ H2 hy nT hh
   obtain ⟨l',M',S',v4,v5,rfl,s2,st2,so,ee⟩:=hh;have sT:=Gu (o:=.tup [.int (i:Nat),y]) nT;have s3:=s2.trans sT;obtain ⟨rw',a,hrw,rfl,rv3⟩:=(wi.rw'.keep s3).get hy;obtain ⟨il,ei⟩:=Ac.mp hrw;have a1:=wi.gd rw' (Ao hrw);have ct:=aAx hrw;rw [El il,ei] at ee;refine ⟨Tt,_,rfl,Gv aD,rfl,_,_,rfl,_,_,rfl,rfl,?_⟩;have oi:OnIn (upd H2 Tt (.tup [.int (i:Nat),.ref a])) b r q l' rs us ps rbs ws M' S' (β+cs (rws.take i)):=⟨wi.on.bs.keep s3,st2.keep sT,so,by have:=aJz rws i;lia⟩;generalize upd H2 Tt (.tup [.int (i:Nat),.ref a])=H3 at sT s3 rv3 oi ⊢;cases ee with
   |bad ro=>exact ⟨_,rfl,_,rfl,_,rfl,_,rfl,b,r,q,l',a,rs,us,ps,rbs,ws,_,_,_,rw',i,rfl,by lia,oi,rv3,by rw [rsl];exact a1,ro.p (aDe λdx H4 s4=>kb rfl _ dx H4 (s3.trans s4))⟩
   |step ro ee=>exact ⟨_,rfl,_,rfl,_,rfl,_,rfl,b,r,q,l',a,rs,us,ps,rbs,ws,_,_,_,rw',i,rfl,by lia,oi,rv3,by rw [rsl];exact a1,ro.p λl2 H4 s4 nl2 st4=>⟨l2,_,_,_,_,rfl,s3.trans s4,st4,(by rw [ct,<- Nat.add_assoc];exact RowO.sok so rp a1 (vR _) ro),ee⟩⟩
  ·intro σ H2 hh
   obtain ⟨l',M',S',v4,v5,rfl,s2,st2,so,ee⟩:=hh;rw [wi.rw'.ln] at so ee;rw [List.drop_length] at ee;rw [AN] at so;cases ee;exact ⟨_,rfl,k _ _ rfl l' H2 s2 st2 so⟩
end
end K53
namespace K53
open L2 GM TM TR
def aIu {P:Aw}{w:World}{X:Cx}:hU (CXg P w) X E0:=λ_ _ _ _ _ _ _ h=>by
 obtain ⟨_,_,_,_,_,_,h⟩:=h;exact h.elim
def RwV.tk {H H':Hp}{a:Gj}{r:Rw}(s:Tk H H')(h:RwV H a r):RwV H' a r:=by
 cases r with
 |draw i x t b=>obtain ⟨q,h1,h2⟩:=h;exact ⟨q,s _ _ h1,s _ _ h2⟩
 |fill i x t b=>obtain ⟨q,h1,h2⟩:=h;exact ⟨q,s _ _ h1,s _ _ h2⟩
 |pour i j t b=>obtain ⟨q,h1,h2⟩:=h;exact ⟨q,s _ _ h1,s _ _ h2⟩
 |empty i=>exact s _ _ h
 |rinse i=>exact s _ _ h
def StV.tk {H H':Hp}{l:Gj}{M:Int}{S:List PF}(h:StV H l M S)(t:Tk H H')(hl:∀ o,H l=some o->H' l=some o):StV H' l M S:=by
 obtain ⟨vs,h1,h2,h3⟩:=h;exact ⟨vs,hl _ h1,h2,λi v d hv hd=>by
  obtain ⟨a,m,n,us,ys,e,p1,p2,p3,p4,p5⟩:=h3 i v d hv hd;exact ⟨a,m,n,us,ys,e,t _ _ p1,t _ _ p2,p3.keep t,p4,t _ _ p5⟩⟩
def RwsV.push {H:Hp}{l z:Gj}{rws:List Rw}{rv:Gq}{r:Rw}(h:RwsV H l rws rv)(hz:RwV H z r):RwsV (upd H l (.lst (rv++[.ref z]))) l (rws++[r]) (rv++[.ref z]):=by
 have tk:Tk H (upd H l (.lst (rv++[.ref z]))):=Tk.lst h.hl;refine ⟨aD,by rw [As,As,h.ln];rfl,λi v r' hv hr=>?_⟩
 by_cases hi:i<rv.length
 ·rw [AG hi] at hv
  rw [AG (by rw [<- h.ln];exact hi)] at hr;obtain ⟨a,e,q⟩:=h.at' i v r' hv hr;exact ⟨a,e,q.tk tk⟩
 ·rw [AH (by lia)] at hv
  rw [AH (by rw [<- h.ln];lia),<- h.ln] at hr;obtain ⟨hl,e⟩:=Ac.mp hv;simp at hl;rw [hl] at hv hr;cases hv;cases hr;exact ⟨z,rfl,hz.tk tk⟩
def SmR.bt {nb:Nat}{ws:Gh}{r:Rw}(h:SmR nb ws r):Bt 14 (rwb r):=by
 obtain ⟨g,_,l⟩:=h;have b0:1<=rwb r:=by
  cases r with
  |draw i x t b=>exact g.2.2.1.am.b1
  |fill i x t b=>exact g.2.2.am.b1
  |pour i j t b=>exact g.2.2.2.1.am.b1
  |_=>exact DB _
 exact dD 14 (c:=101) (by lia) (by lia)
theorem SmR.cs {nb:Nat}{ws:Gh}:∀ {rws:List Rw},(∀ r∈rws,SmR nb ws r)->K53.cs rws<=14*rws.length
 |[],_=>Aj _
 |r::rs,h=>by
  have h1:=(h r (Al ..)).bt.bits;have h2:=SmR.cs λx hx=>h x (Ah _ hx);have h1:cb r<=14:=h1;rw [eD,AS];lia
inductive spGoes (K:Ab)(vs:Gq)(H:Hp)(Q:VK)(E0:XK):Prop
 |mk (sc b wl l r q rs us ps rbs ws M S β:_) (ns:List Int) (st la mo:Nat) (e0:vs=[.ref sc,.ref b,.ref wl,.ref l,.int ((st:Nat):Int),.int ((la:Nat):Int),.int ((mo:Nat):Int)]) (hS:SqL K H sc (ns.map V.int)) (n63:ns.length<=63) (o:OnIn H b r q l rs us ps rbs ws M S β) (wv:WsV H wl ws) (sl:st<=la) (l63:la<=63) (m40:mo<=40) (bb:β+14*mo+14<=1900) (k:∀ t rl l' rws rv M' S' H',Same H H'->H rl=none->H' t=some (.tup [.ref rl,.ref l'])->RwsV H' rl rws rv->rws.length<=mo->(∀ r∈rws,SmR rbs.length ws r)->Ends us ps rbs ws M S rws (some (M',S'))->StV H' l' M' S'->l'≠rl->Sok ws rbs M' S' (β+14*rws.length)->Q (.ref t) H'):spGoes K vs H Q E0
section
variable {P:Aw}{w:World}{K:Ab}{mg:Gb}{base:Heap}{c0 c1 c2 c3 c4:Gj}
abbrev aLj:Gh:=["_law_script","_law_bench","_law_wares_here","_law_state","_law_start","_law_last","_law_most","_law_rows","_law_k","_law_row_here","_law_refusal","_law_found"]
def jO:FnScope aLj ["_law_script","_law_bench","_law_wares_here","_law_state","_law_start","_law_last","_law_most"] (aG qC):=fnScOk
def aGg {f:Gj}{fd:Ay}(F:Fun K "_law_goes_on" "_law_goes_on" qC f fd)(T:Txt mg)(cA:Cal P w K mg base CX0 6 "_law_after" ["_law_bench","_law_state","_law_row_here"] (spAfter K))(cR:Cal P w K mg base CX0 6 "_law_row" ["_law_bench","_law_wares_here","_law_script","_law_k"] (aHz K)):FnOk P w K mg base CX0 7 f fd ["_law_script","_law_bench","_law_wares_here","_law_state","_law_start","_law_last","_law_most"] (spGoes K):=by
 refine F.okA jO (λcdv A outer s H vs Q E hr h=>?_)
 ·obtain ⟨sc,b,wl,l,r,q,rs,us,ps,rbs,ws,M,S,β,ns,st,la,mo,rfl,hS,n63,on,wv,sl,l63,m40,bb,k⟩:=h
  refine ⟨_,(aC (aK (i:=7) jO.nd (cZ aB))
   (aC (bR AJ rfl (jX rfl T.range (aA (pv 4) (aA (aV (aA4 rfl) rfl T.min' boot_min (aA (aV bA rfl T.len BO (aA (pv 0) aB)) (aA (pv 5) aB))) aB))) (aQ (i:=8) jO.nd)
    (aC (aK (i:=9) jO.nd (aI cR hr (aA (pv 1) (aA (pv 2) (aA (pv 0) (aA (pv 8) aB))))))
    (aC (fK (aI cA hr (aA (pv 1) (aA (pv 3) (aA (pv 9) aB)))) (fM rfl (bE (aQ (i:=10) jO.nd) (bE (aQ (i:=11) jO.nd) dY))))
    (aE (bD (PW.pt (fH (aM aD3 (pv 10) dI) (eQ (aM yB (aV bA rfl T.len BO (aA (pv 7) aB)) (pv 6)))))
     (aC (aK (i:=3) jO.nd (pv 11))
     (aE (cV (iP Bk Bb Ba bO (pv 7) (aA (pv 9) aB)))))
     aS)))))
   (aE (aL (aT (aA (pv 7) (aA (pv 3) aB))))))),?_⟩
  refine cut3 ?_
  intros
  have bs:=on.bs;have l16:=bs.bn.l16;have rl':=bs.rm.1;have rp:=bs.rp.2;refine ⟨zLn0,λrl nrl=>?_⟩;obtain ⟨H1,eH1,s1,hrl⟩:=updX (o:=.lst []) nrl;rw [eH1];obtain ⟨vs0,hl0,_⟩:=on.st.ex;have lr:l≠rl:=aW hl0 nrl;refine ⟨_,rfl,_,rfl,sc,_,rfl,.inl (s1.seq hS),_,rfl,_,_,rfl,_,_,rfl,⟨by lia,by lia,by split<;>lia,by split<;>lia⟩,?_⟩;have sm:∀ {H':Hp},(∀ c o,c≠rl->H1 c=some o->H' c=some o)->Same H H':=λfx c o h=>fx c o (aW h nrl) (s1 _ _ h);refine dP (λi σ H'=>∃ (l':Gj) (rws:List Rw) (rv:Gq) (M':Int) (S':List PF) (v8 v9 v10 v11:Gr),σ=[some (.ref sc),some (.ref b),some (.ref wl),some (.ref l'),some (.int ((st:Nat):Int)),some (.int ((la:Nat):Int)),some (.int ((mo:Nat):Int)),some (.ref rl),v8,v9,v10,v11]/\(∀ c o,c≠rl->H1 c=some o->H' c=some o)/\StV H' l' M' S'/\l'≠rl/\RwsV H' rl rws rv/\rws.length<=mo/\(∀ r∈rws,SmR rbs.length ws r)/\Ends us ps rbs ws M S rws (some (M',S'))/\Sok ws rbs M' S' (β+14*rws.length)) ⟨l,[],[],M,S,none,none,none,none,rfl,λ_ _ _ h=>h,on.st.keep s1,lr,⟨hrl,rfl,λi v r h=>by simp at h⟩,BF _,(λr hr=>nomatch hr),.nil,on.so⟩ ?_ ?_
  rotate_left
  ·intro σ H4 hh
   obtain ⟨l',rws,rv,M',S',v8,v9,v10,v11,rfl,fx,st4,ne,rw4,rm,gr,en,so⟩:=hh;refine ⟨_,rfl,_,rfl,zLn2,λt nt=>?_⟩;have s5:=Gu (o:=.tup [.ref rl,.ref l']) nt;exact k t rl l' rws rv M' S' _ ((sm fx).trans s5) nrl aD (rw4.keep s5) rm gr en (st4.keep s5) ne so
  intro i σ H4 D' hN hi hh;obtain ⟨l',rws,rv,M',S',v8,v9,v10,v11,rfl,fx,st4,ne,rw4,rm,gr,en,so⟩:=hh;have ki:st+i<ns.length/\st+i<la:=by
   have h2:i<((if ((la:Nat):Int)<(((ns.map V.int).length:Nat):Int) then ((la:Nat):Int) else (((ns.map V.int).length:Nat):Int))-((st:Nat):Int)).toNat:=hi;rw [Ag] at h2;split at h2<;>lia
  have ek:((st:Nat):Int)+(i:Int)=((st+i:Nat):Int):=by lia
  rw [ek];have s4:=sm fx;have bn:BnV H4 b rs.length:=⟨r,_,rs,s4 _ _ bs.bn.hp,s4 _ _ bs.bn.hr,rfl⟩;refine ⟨_,rfl,_,rfl,_,rfl,_,rfl,b,wl,sc,rs.length,ws,ns,st+i,rfl,bn,bs.bn.l1,l16,⟨s4 _ _ wv.1,wv.2⟩,s4.seq hS,ki.1,by lia,λz H5 s5 gr5=>?_⟩;obtain ⟨rw',rvz,gd,l100⟩:=gr5.good;have b14:Bt 14 (rwb rw'):=SmR.bt ⟨gd,l100⟩;have s05:=s4.trans s5;have bs5:=bs.keep s05;have o5:OnIn H5 b r q l' rs us ps rbs ws M' S' (β+14*rws.length):=⟨bs5,st4.keep s5,so,by lia⟩;obtain ⟨o,ro⟩:=aDv (H:=H5) (us:=us) (ps:=ps) (rbs:=rbs) (ws:=ws) (M:=M') (S:=S') bs5.bn.pt (by rw [so.sl,<- rl']) (by lia) gd;refine ⟨_,rfl,_,rfl,_,rfl,b,r,q,l',z,rs,us,ps,rbs,ws,M',S',_,rw',rfl,o5,rvz,gd,ro.l ?_⟩;have nxt:∀ {H6:Hp},Same H5 H6->∀ v8 v9 v10 v11,D'.nx [some (.ref sc),some (.ref b),some (.ref wl),some (.ref l'),some (.int ((st:Nat):Int)),some (.int ((la:Nat):Int)),some (.int ((mo:Nat):Int)),some (.ref rl),v8,v9,v10,v11] H6:=λs6 v8 v9 v10 v11=>hN _ _ ⟨l',rws,rv,M',S',v8,v9,v10,v11,rfl,λc o a h=>(s5.trans s6) _ _ (fx c o a h),(st4.keep s5).keep s6,ne,(rw4.keep s5).keep s6,rm,gr,en,so⟩;cases o with
  |inl f=>
   intro zz t3 H6 s6 hz _;exact ⟨zz,_,rfl,Gv hz,rfl,_,_,rfl,_,_,rfl,rfl,_,rfl,rfl,_,rfl,iteF (nxt s6 ..)⟩
  |inr S2=>
   intro zz l2 H6 s6 nl2 hz st6;have rw6:=(rw4.keep s5).keep s6;refine ⟨zz,_,rfl,Gv hz,rfl,_,_,rfl,_,_,rfl,rfl,_,rfl,rfl,_,rfl,iteT ⟨_,rfl,rl,_,rfl,.inl (Gw rw6.hl),_,rfl,_,_,rfl,rfl,_,rfl,ite2 (λhc=>?_) (λ_=>nxt s6 ..)⟩⟩;have hm:rws.length<mo:=by
    have:((rv.length:Nat):Int)<((mo:Nat):Int):=of_decide_eq_true hc;have:=rw4.ln;lia
   refine ⟨_,rfl,_,rfl,.inl ⟨rfl,_,Gw rw6.hl⟩,_,rfl,rl,rv,_,rfl,rfl,rw6.hl,bP (by have:=rw4.ln;lia),?_⟩;have l2r:l2≠rl:=λe=>by rw [e] at nl2;have:=(rw4.keep s5).hl;rw [nl2] at this;cases this
   have tk:Tk H6 (upd H6 rl (.lst (rv++[.ref z]))):=Tk.lst rw6.hl;refine hN _ _ ⟨l2,rws++[rw'],rv++[.ref z],_,S2,_,_,_,_,rfl,λc o a h=>by rw [aJ a];exact (s5.trans s6) _ _ (fx c o a h),st6.tk tk λo h=>by rw [aJ l2r];exact h,l2r,rw6.push (rvz.keep s6),by rw [As];exact hm,λx hx=>?_,en.snoc rfl ro,?_⟩
   ·rcases Bm.mp hx with h|h
    ·exact gr x h
    ·rw [Az.mp h]
     exact ⟨by rw [<- rl'];exact gd,l100⟩
   ·have:=RowO.sok so rp gd b14 ro
    rw [As,Bo,show β+14*(rws.length+1)=β+14*rws.length+14 by lia];exact this
end
inductive spEnd (vs:Gq)(H:Hp)(Q:VK)(E0:XK):Prop
 |mk (b r q ph rl rs us ps rbs ws M S β rws rv o:_) (e0:vs=[.ref b,.ref ph,.ref rl]) (e1:WIn H b r q ph rl rs us ps rbs ws M S β rws rv) (en:Ends us ps rbs ws M S rws o) (e2:∀ M' S',o=some (M',S')->∀ l' H',Same H H'->StV H' l' M' S'->Sok ws rbs M' S' (β+cs rws)->Q (.ref l') H') (e3:o=none->∀ H',Same H H'->Q .non H'):spEnd vs H Q E0
section
variable {P:Aw}{w:World}{K:Ab}{mg:Gb}{base:Heap}
def aB0:FnScope ["_law_bench","_law_state","_law_rows","_law_row_here","_law_refusal"] ["_law_bench","_law_state","_law_rows"] (aG sEnd):=fnScOk
def aI7 {f:Gj}{fd:Ay}(F:Fun K "_law_end" "_law_end" sEnd f fd)(cA:Cal P w K mg base CX0 6 "_law_after" ["_law_bench","_law_state","_law_row_here"] (spAfter K)):FnOk P w K mg base CX0 7 f fd ["_law_bench","_law_state","_law_rows"] spEnd:=by
 refine F.okA aB0 (λcdv A outer s H vs Q E hr h=>?_)
 ·obtain ⟨b,r,q,ph,rl,rs,us,ps,rbs,ws,M,S,β,rws,rv,o,rfl,wi,en,k,kb⟩:=h
  refine ⟨_,(aC (bR AJ rfl (jY (pv 2)) (aQ (i:=3) aB0.nd)
    (aC (fK (aI cA hr (aA (pv 0) (aA (pv 1) (aA (pv 3) aB)))) (fM rfl (bE (aQ (i:=4) aB0.nd) (bE (aQ (i:=1) aB0.nd) dY))))
    (aE (bD (aM mI (pv 4) dI) (aE (aL dI)) aS))))
   (aE (aL (pv 1)))),?_⟩
  have l60:=wi.l60;have bl:=wi.bl;have rp:=wi.on.bs.rp.2;have rsl:=wi.on.bs.rm.1;refine ⟨_,rfl,rl,rfl,⟨_,Gw wi.rw'.hl⟩,?_⟩;refine mT (xs:=rv) (λi σ H'=>∃ (l':Gj) (M':Int) (S':List PF) (v3 v4:Gr),σ=[some (.ref b),some (.ref l'),some (.ref rl),v3,v4]/\Same H H'/\StV H' l' M' S'/\Sok ws rbs M' S' (β+cs (rws.take i))/\Ends us ps rbs ws M' S' (rws.drop i) o) ⟨ph,M,S,none,none,rfl,Same.refl _,wi.on.st,wi.on.so,en⟩ (λi σ H' _ hh=>by obtain ⟨_,_,_,_,_,_,sm,_⟩:=hh;exact Gw (wi.rw'.keep sm).hl) ?_ ?_
  ·intro i y σ H2 hy hh
   obtain ⟨l',M',S',v3,v4,rfl,s2,st2,so,ee⟩:=hh;obtain ⟨rw',a,hrw,rfl,rv3⟩:=(wi.rw'.keep s2).get hy;obtain ⟨il,ei⟩:=Ac.mp hrw;have a1:=wi.gd rw' (Ao hrw);have ct:=aAx hrw;rw [El il,ei] at ee;have oi:OnIn H2 b r q l' rs us ps rbs ws M' S' (β+cs (rws.take i)):=⟨wi.on.bs.keep s2,st2,so,by have:=aJz rws i;lia⟩;refine ⟨_,rfl,_,rfl,_,rfl,b,r,q,l',a,rs,us,ps,rbs,ws,_,_,_,rw',rfl,oi,rv3,by rw [rsl];exact a1,?_⟩;cases ee with
   |bad ro=>
    refine ro.l ?_;intro zz t3 H6 s6 hz _;exact ⟨zz,_,rfl,Gv hz,rfl,_,_,rfl,_,_,rfl,rfl,_,rfl,rfl,_,rfl,iteT (kb rfl _ (s2.trans s6))⟩
   |step ro ee=>
    refine ro.l ?_;intro zz l2 H6 s6 nl2 hz st6;exact ⟨zz,_,rfl,Gv hz,rfl,_,_,rfl,_,_,rfl,rfl,_,rfl,rfl,_,rfl,iteF ⟨l2,_,_,_,_,rfl,s2.trans s6,st6,(by rw [ct,<- Nat.add_assoc];exact RowO.sok so rp a1 (vR _) ro),ee⟩⟩
  ·intro σ H2 hh
   obtain ⟨l',M',S',v3,v4,rfl,s2,st2,so,ee⟩:=hh;rw [wi.rw'.ln] at so ee;rw [List.drop_length] at ee;rw [AN] at so;cases ee;exact ⟨_,rfl,k _ _ rfl l' H2 s2 st2 so⟩
end
abbrev aFp:Stmt:=top 48
abbrev aFi:Stmt:=top 49
abbrev pZ:Stmt:=top 73
abbrev qF:Stmt:=top 74
abbrev xE:Stmt:=top 75
def if1 {c:TT}{t u:TS}{D:L2.Ends}{σ:L2.St}{H:Hp}(S:Bool->Hp->Prop)(h:∀ b H',S b H'->if b=true then t D σ H' else u D σ H')(g:∀ C:Bool->Hp->Prop,(∀ b H',S b H'->C b H')->c σ H C):tIfS c t u D σ H:=g _ h
def h3:Rw->Gq
 |.draw i x _ _=>[.str "draw",.int ((i:Nat):Int),.str x]
 |.fill i x _ _=>[.str "fill",.int ((i:Nat):Int),.str x]
 |.pour i j _ _=>[.str "pour",.int ((i:Nat):Int),.int ((j:Nat):Int)]
 |.empty i=>[.str "empty",.int ((i:Nat):Int)]
 |.rinse i=>[.str "rinse",.int ((i:Nat):Int)]
def isD:Rw->Bool
 |.draw ..=>true
 |_=>false
theorem aGy {q:Gj}{r:Rw}:cutV (V.str (RwW q r).1::(RwW q r).2) none (some 3)=h3 r:=by
 cases r<;>rfl
theorem pE {q:Gj}{r:Rw}:decide (V.str (RwW q r).1=.str "draw")=isD r:=by
 cases r<;>rfl
def rw1 {q:Gj}{r:Rw}:(V.str (RwW q r).1::(RwW q r).2)[1]?=some (.int ((ph r:Nat):Int)):=by
 cases r<;>rfl
def zX {r:Rw}:∀ x∈h3 r,eC x=true:=by
 cases r<;>simp [h3,eC]
def eq3 (q r:Rw):Bool:=(Bf (min (h3 q).length (h3 r).length)).all (λj=>eqV ((h3 q).getD j .non) ((h3 r).getD j .non))&&(h3 q).length==(h3 r).length
def aEh {q r:Rw}(h:isD r=true):eq3 q r=true↔sk q r:=by
 cases r with
 |draw i x t b=>
  cases q with
  |draw j y t2 b2=>
   show (eqV (.str "draw") (.str "draw")&&(eqV (.int (j:Nat)) (.int (i:Nat))&&(eqV (.str y) (.str x)&&true))&&(3==3))=true↔(j=i/\y=x);simp [eqV];intro _;lia
  |fill j y t2 b2=>
   show (eqV (.str "fill") (.str "draw")&&_&&(3==3))=true↔False;rw [show eqV (.str "fill") (.str "draw")=false by decide +kernel];simp
  |pour j y t2 b2=>
   show (eqV (.str "pour") (.str "draw")&&_&&(3==3))=true↔False;rw [show eqV (.str "pour") (.str "draw")=false by decide +kernel];simp
  |empty j=>
   show (_&&(2==3))=true↔False;simp
  |rinse j=>
   show (_&&(2==3))=true↔False;simp
 |_=>cases h
def aAk {K:Ab}{H:Hp}{q r:Rw}:∀ (j:Nat) x y,(h3 q)[j]?=some x->(h3 r)[j]?=some y->DEq K H 40 x y (eqV ((h3 q).getD j .non) ((h3 r).getD j .non)):=λj x y hx hy=>by
 rw [Ck,Ck,hx,hy];exact .flat (zX x (Ao hx)) (zX y (Ao hy))
def nmV (r:Rw):Gq:=(nmd r).map λi=>.int ((i:Nat):Int)
inductive spNm (vs:Gq)(H:Hp)(Q:VK)(E0:XK):Prop
 |mk (a:Gj) (r:Rw) (e0:vs=[.ref a]) (h:RwV H a r) (k:∀ p,H p=none->Q (.ref p) (upd H p (.lst (nmV r)))):spNm vs H Q E0
section
variable {P:Aw}{w:World}{K:Ab}{mg:Gb}{base:Heap}
def aH6:FnScope ["row"] ["row"] (aG aFi):=fnScOk
def aGa {f:Gj}{fd:Ay}(F:Fun K "phials_named" "phials_named" aFi f fd):FnOk P w K mg base CX0 1 f fd ["row"] spNm:=by
 refine F.okA aH6 (λcdv A outer s H vs Q E hr h=>?_)
 ·obtain ⟨a,r,rfl,hv,k⟩:=h
  refine ⟨_,(aE (aL (sP (aM cJ (pit 0 0) aR) (cZ (aA (pit 0 1) (aA (pit 0 2) aB))) (cZ (aA (pit 0 1) aB))))),?_⟩;obtain ⟨q,ha,_⟩:=hv.w;refine ⟨a,_,_,rfl,Gv ha,rfl,rfl,_,rfl,?_⟩;cases r with
  |pour i j t b=>exact iteT ⟨a,_,_,rfl,Gv ha,rfl,a,_,_,rfl,Gv ha,rfl,zLn2,k⟩
  |_=>exact iteF ⟨a,_,_,rfl,Gv ha,rfl,zLn1,k⟩
def aBx:FnScope ["_law_row_here"] ["_law_row_here"] (aG pZ):=fnScOk
def aCk {f:Gj}{fd:Ay}(F:Fun K "_law_named" "_law_named" pZ f fd):FnOk P w K mg base CX0 1 f fd ["_law_row_here"] spNm:=by
 refine F.okA aBx (λcdv A outer s H vs Q E hr h=>?_)
 ·obtain ⟨a,r,rfl,hv,k⟩:=h
  refine ⟨_,(aC (bD (aM cJ (pit 0 0) aR) (aE (aL (cZ (aA (pit 0 1) (aA (pit 0 2) aB))))) aS) (aE (aL (cZ (aA (pit 0 1) aB))))),?_⟩;obtain ⟨q,ha,_⟩:=hv.w;refine ⟨a,_,_,rfl,Gv ha,rfl,rfl,_,rfl,?_⟩;cases r with
  |pour i j t b=>exact iteT ⟨a,_,_,rfl,Gv ha,rfl,a,_,_,rfl,Gv ha,rfl,zLn2,k⟩
  |_=>exact iteF ⟨a,_,_,rfl,Gv ha,rfl,zLn1,k⟩
end
def AmB:Rw->Prop
 |.draw _ _ t b=>Amt t b/\Bt 4000 t/\Bt 4000 b
 |_=>True
inductive spGatR (vs:Gq)(H:Hp)(Q:VK)(E0:XK):Prop
 |mk (rl:Gj) (rws:List Rw) (rv:Gq) (e0:vs=[.ref rl]) (hr:RwsV H rl rws rv) (l:rws.length<=60) (ar:∀ r∈rws,AmB r) (ag:∀ i,i<=rws.length->∀ q∈(gat (rws.take i)).1,AmB q) (k:∀ l' vs' H',Same H H'->H l'=none->RwsV H' l' (gat rws).1 vs'->Q (.ref l') H'):spGatR vs H Q E0
theorem RwsV.set {H:Hp}{l z:Gj}{rws:List Rw}{rv:Gq}{r:Rw}{k:Nat}(h:RwsV H l rws rv)(hz:RwV H z r):RwsV (upd H l (.lst (rv.set k (.ref z)))) l (rws.set k r) (rv.set k (.ref z)):=by
 have tk:Tk H (upd H l (.lst (rv.set k (.ref z)))):=Tk.lst h.hl;refine ⟨aD,by rw [BB,BB,h.ln],λi v r' hv hr=>?_⟩
 rcases nK hv with ⟨rfl,rfl⟩|⟨ne,hv⟩
 ·rcases nK hr with ⟨_,rfl⟩|⟨ne,_⟩
  ·exact ⟨z,rfl,hz.tk tk⟩
  ·exact absurd rfl ne
 ·rcases nK hr with ⟨e,_⟩|⟨_,hr⟩
  ·exact absurd e ne
  ·obtain ⟨a,e,q⟩:=h.at' i v r' hv hr
   exact ⟨a,e,q.tk tk⟩
def RwV.off {H H':Hp}{a d:Gj}{kvs:Gp}{r:Rw}(h:RwV H a r)(f:∀ c o,c≠d->H c=some o->H' c=some o)(hd:H d=some (.dK kvs)):RwV H' a r:=by
 have g:∀ {c:Gj} {xs:Gq},H c=some (.tup xs)->H' c=some (.tup xs):=λ{c xs} e=>f c _ (λz=>by rw [z,hd] at e;cases e) e;exact h.tk λc xs e=>g e
theorem mK {rws:List Rw}:∀ i,LtOk (gat (rws.take i))
 |0=>⟨(λ_ _ h=>by cases h),λ_ _ h=>by cases h⟩
 |i+1=>by
  cases h:rws[i]? with
  |none=>
   have:rws.take (i+1)=rws.take i:=by
    have:=List.getElem?_eq_none_iff.mp h;rw [Dk this,Dk (by lia)]
   rw [this];exact mK i
  |some r=>
   rw [jC h];exact aEb (mK i)
def LtV (kvs:Gp)(l:Nat->Option Nat):Prop:=∀ p:Nat,valV kvs (.inl ((p:Nat):Int))=(l p).map λk=>.int ((k:Nat):Int)
def LtV.put {kvs:Gp}{l l':Nat->Option Nat}{p n:Nat}(h:LtV kvs l)(e:∀ x,l' x=if x=p then some n else l x):LtV (putK kvs (.inl ((p:Nat):Int)) (.int ((n:Nat):Int))) l':=λx=>by
 rw [lS,e]
 by_cases c:x=p
 ·rw [if_pos (by rw [c]),if_pos c]
  rfl
 ·rw [if_neg (λz=>c (by have:=Sum.inl.inj z;lia)),if_neg c]
  exact h x
def aD8 (r:Rw):(nmd r).length<=2:=by
 cases r<;>simp [nmd]
section
variable {P:Aw}{w:World}{K:Ab}{mg:Gb}{base:Heap}
abbrev Ngr:Gh:=["rows","found","latest","row","ahead","phial"]
def lC:FnScope Ngr ["rows"] (aG aFp):=fnScOk
def aGh {f:Gj}{fd:Ay}(F:Fun K "gathered_rows" "gathered_rows" aFp f fd)(T:Txt mg)(cP:Cal P w K mg base CX0 3 "plus" ["one","other"] (spPlus K))(cN:Cal P w K mg base CX0 3 "phials_named" ["row"] spNm):FnOk P w K mg base CX0 4 f fd ["rows"] spGatR:=by
 refine F.okA lC (λcdv A outer s H vs Q E hr h=>?_)
 ·obtain ⟨rl,rws,rv,rfl,hrw,l60,ar,ag,k⟩:=h
  refine ⟨_,(aC (aK (i:=1) lC.nd (cZ aB))
   (aC (aK (i:=2) lC.nd mG)
   (aC (bR AJ rfl (jY (pv 0)) (aQ (i:=3) lC.nd)
    (aC (aK (i:=4) lC.nd (aCa (iR hr) (pv 2) (pit 3 1) ⟨rfl,rfl,rfl,rfl⟩))
    (aE (bD (PW.pt (fH (aM cJ (pit 3 0) aR) (fH (aM mI (pv 4) dI) (eQ (aM (yE hr.units) (eS gA (aZ aX (pv 1) (pv 4) (λ_ _=>rfl)) gC (gB aH)) (eS gA (pv 3) gC (gB aH)))))))
     (aE (fK (aP sX (eS gA (pv 3) gC (gB aH)) (aT (aA (aI cP hr (aA (aZ dB (aZ aX (pv 1) (pv 4) (λ_ _=>rfl)) aH (λ_ _=>rfl)) (aA (pit 3 3) aB))) aB))) (jZ (pv 1) (pv 4) set_list)))
     (aC (bR AJ rfl (jY (aI cN hr (aA (pv 3) aB))) (aQ (i:=5) lC.nd)
      (aE (mF (iR hr) (pv 2) (pv 5) (aV bA rfl T.len BO (aA (pv 1) aB)) rfl)))
     (aE (cV (iP Bk Bb Ba bO (pv 1) (aA (pv 3) aB)))))))))
   (aE (aL (pv 1)))))),?_⟩
  have lok:∀ i,LtOk (gat (rws.take i)):=mK;refine cut3 ?_
  intros
  refine ⟨zLn0,λlf nlf=>?_⟩;obtain ⟨H1,eH1,s1,hlf⟩:=updX (o:=.lst []) nlf;rw [eH1];intro ld nld;obtain ⟨H2,eH2,s2,hld⟩:=updX (o:=.dK []) nld;rw [eH2];have hlf2:=s2 _ _ hlf;have ne:lf≠ld:=λe=>by rw [e,nld] at hlf;cases hlf
  have s02:=s1.trans s2;refine ⟨_,rfl,rl,rfl,⟨_,Gw (s02 _ _ hrw.hl)⟩,?_⟩;have sm:∀ {H':Hp},(∀ c o,c≠lf->c≠ld->H2 c=some o->H' c=some o)->Same H H':=λfx c o h=>fx c o (aW h nlf) (λe=>by have:=s1 _ _ h;rw [e,nld] at this;cases this) (s02 _ _ h);refine oM (xs:=rv) (λi σ H'=>∃ (vs:Gq) (kvs:Gp) (v3 v4 v5:Gr),σ=[some (.ref rl),some (.ref lf),some (.ref ld),v3,v4,v5]/\(∀ c o,c≠lf->c≠ld->H2 c=some o->H' c=some o)/\RwsV H' lf (gat (rws.take i)).1 vs/\H' ld=some (.dK kvs)/\kvs.length<=2*i/\LtV kvs (gat (rws.take i)).2) ⟨[],[],none,none,none,rfl,λ_ _ _ _ h=>h,⟨hlf2,rfl,λi v r h=>by simp at h⟩,hld,BF _,λ_=>rfl⟩ (λi σ H' _ hh=>by obtain ⟨_,_,_,_,_,_,fx,_⟩:=hh;exact Gw (sm fx _ _ hrw.hl)) ?_ ?_
  rotate_left
  ·intro σ H3 hh
   obtain ⟨vs,kvs,v3,v4,v5,rfl,fx,rw3,_⟩:=hh;rw [hrw.ln,AN] at rw3;exact ⟨_,rfl,k lf vs H3 (sm fx) nlf rw3⟩
  intro i y σ H3 D' hN hy hh;obtain ⟨vs,kvs,v3,v4,v5,rfl,fx,rw3,hd3,dl,lt⟩:=hh;have s3:=sm fx;obtain ⟨r,a,hri,rfl,rva⟩:=(hrw.keep s3).get hy;obtain ⟨q,ha,_⟩:=rva.w;have il:=(Ac.mp hri).1;have gk:=jC hri;have g0:=ag i (by lia);have al:=aW (hrw.keep (Same.refl _)).hl nlf;generalize hg:gat (rws.take i)=g at rw3 lt gk g0;have gl:g.1.length<=i:=by
   have:=qW i (rws.take i) (by rw [Dr];lia);rw [hg] at this;exact this
  refine ⟨_,rfl,ld,rfl,.inl ⟨_,.inl hd3⟩,a,_,_,rfl,Gv ha,rw1,_,DGet.k (k:=.inl ((ph r:Nat):Int)) hd3,?_⟩;rw [lt (ph r)];dsimp only [gName];refine if1 (λb H'=>Same H3 H'/\(b=true↔∃ k q,g.2 (ph r)=some k/\g.1[k]?=some q/\sk q r)) (λb H4 hb=>?_) (λC hC=>?_)
  ·obtain ⟨s34,hb⟩:=hb
   have fx4:∀ c o,c≠lf->c≠ld->H2 c=some o->H4 c=some o:=λc o h1 h2 h=>s34 _ _ (fx c o h1 h2 h);have rw4:=rw3.keep s34;have hd4:=s34 _ _ hd3;have ha4:=s34 _ _ ha;have rva4:=rva.keep s34;clear s34;cases b with
   |true=>
    obtain ⟨kk,qr,e1,e2,e3⟩:=hb.mp rfl;obtain ⟨ii,x,t,b,t2,b2,rfl,rfl⟩:∃ ii x t b t2 b2,qr=.draw ii x t b/\r=.draw ii x t2 b2:=by
     cases qr<;>cases r<;>first|exact Cj e3|skip;obtain ⟨rfl,rfl⟩:=e3;exact ⟨_,_,_,_,_,_,rfl,rfl⟩
    obtain ⟨v,hv⟩:∃ v,vs[kk]?=some v:=⟨_,Ae (by rw [rw4.ln];exact (Ac.mp e2).1)⟩;obtain ⟨_,c,e2',rfl,hcv⟩:=rw4.get hv;rw [e2] at e2';cases e2';obtain ⟨cq,hc,hcq⟩:=hcv;obtain ⟨rq,hra,hrq⟩:=rva4;obtain ⟨am1,bt1,bb1⟩:=g0 _ (Ao e2);obtain ⟨am2,bt2,bb2⟩:=ar _ (Ao hri);rw [show ((g.2 (ph (.draw ii x t2 b2))).map λk=>V.int ((k:Nat):Int)).getD .non=.int ((kk:Nat):Int) by rw [e1];rfl];refine ⟨_,rfl,_,rfl,a,_,rfl,hra,λp1 H5 s5 hp1=>?_⟩;have hp1:H5 p1=some (.tup [.str "draw",.int ((ii:Nat):Int),.str x]):=hp1;refine ⟨_,rfl,_,rfl,lf,vs,((kk:Nat):Int),.ref c,rfl,rfl,Gw (s5 _ _ rw4.hl),aU hv,c,_,3,.ref cq,rfl,rfl,Gv (s5 _ _ hc),rfl,a,_,_,rfl,Gv (s5 _ _ hra),rfl,cq,rq,t,b,t2,b2,rfl,⟨Gv (s5 _ _ hcq),s5 _ _ hrq,am1.t0,am1.b1,am2,bt1,bb1,bt2,bb2⟩,λpn H6 s6 hpn=>⟨zLn1,λz nz=>?_⟩⟩;obtain ⟨H7,eH7,s7,hz⟩:=updX (o:=.tup [.ref pn]) nz;rw [eH7];refine ⟨p1,z,_,_,rfl,rfl,Gv ((s6.trans s7) _ _ hp1),hz,by simp,by show 3+1<=Av;decide,λp8 H8 s8 hp8=>?_⟩;have s48:=((s5.trans s6).trans s7).trans s8;have rw8:=rw4.keep s48;refine ⟨_,rfl,_,rfl,lf,vs,((kk:Nat):Int),kk,rfl,rfl,rw8.hl,gF (Ac.mp hv).1,hN _ _ ?_⟩;refine ⟨vs.set kk (.ref p8),kvs,_,_,_,rfl,λc' o n1 n2 h=>by rw [aJ n1];exact s48 _ _ (fx4 c' o n1 n2 h),?_,by rw [aJ (Bi ne)];exact s48 _ _ hd4,by lia,?_⟩
    ·rw [gk,jB (show g.2 ii=some kk from e1) e2]
     exact rw8.set (r:=dr ii x (BQ.add (t,b) (t2,b2))) ⟨pn,hp8,(s7.trans s8) _ _ hpn⟩
    ·rw [gk,jB (show g.2 ii=some kk from e1) e2]
     exact lt
   |false=>
    have np:gst g r=psh g r:=gY λk' q' h1 h2=>by
     cases e:jn q' r with
     |none=>rfl
     |some r'=>exact absurd (hb.mpr ⟨k',q',h1,h2,aH1.mp (by rw [e];exact λz=>by cases z)⟩) (by decide)
    rw [np] at gk;refine ⟨_,rfl,a,r,rfl,rva4,λp npp=>?_⟩;have s5:=Gu (o:=.lst (nmV r)) npp;have hp:upd H4 p (.lst (nmV r)) p=some (.lst (nmV r)):=aD;have rw5:=rw4.keep s5;have hd5:=s5 _ _ hd4;have ha5:=s5 _ _ ha4;have rva5:=rva4.keep s5;have plf:p≠lf:=λe=>by have:=rw4.hl;rw [<- e,npp] at this;cases this
    have pld:p≠ld:=λe=>by rw [<- e,npp] at hd4;cases hd4
    have fx5:∀ c o,c≠lf->c≠ld->H2 c=some o->upd H4 p (.lst (nmV r)) c=some o:=λc o h1 h2 h=>s5 _ _ (fx4 c o h1 h2 h);generalize upd H4 p (.lst (nmV r))=H5 at s5 hp rw5 hd5 ha5 fx5 rva5 ⊢;have al2:a≠ld:=λe=>by rw [e,hd5] at ha5;cases ha5
    refine ⟨p,rfl,⟨_,Gw hp⟩,?_⟩;refine oM (xs:=nmV r) (λj σ H'=>∃ (kvs':Gp) (v5:Gr),σ=[some (.ref rl),some (.ref lf),some (.ref ld),some (.ref a),some (((g.2 (ph r)).map λk=>V.int ((k:Nat):Int)).getD .non),v5]/\(∀ c o,c≠ld->H5 c=some o->H' c=some o)/\H' ld=some (.dK kvs')/\kvs'.length<=2*i+j/\LtV kvs' (λx=>if x∈(nmd r).take j then some g.1.length else g.2 x)) ⟨kvs,_,rfl,λ_ _ _ h=>h,hd5,by lia,λx=>by rw [lt x];simp⟩ (λj σ H' _ hh=>by obtain ⟨_,_,_,f,_⟩:=hh;exact Gw (f _ _ pld hp)) ?_ ?_
    ·intro j y σ H6 D2 hN2 hy2 hh
     obtain ⟨kvs',v5',rfl,f6,hd6,dl6,lt6⟩:=hh;unfold nmV at hy2;rw [Aq] at hy2;obtain ⟨pj,hpj,rfl⟩:=Bg.mp hy2;have jl:=(Ac.mp hpj).1;have n2:=aD8 r;refine ⟨_,rfl,lf,_,rfl,.inl (Gw (f6 _ _ ne rw5.hl)),_,rfl,_,rfl,ld,_,rfl,DPut.k (k:=.inl ((pj:Nat):Int)) hd6 (bP (by lia)),hN2 _ _ ⟨_,_,rfl,λc o n h=>by rw [aJ n];exact f6 c o n h,aD,by have:=eU kvs' (.inl ((pj:Nat):Int)) (.int ((vs.length:Nat):Int));lia,?_⟩⟩;rw [rw5.ln];refine lt6.put λx=>?_;rw [take_snoc hpj]
     by_cases c:x=pj
     ·rw [if_pos c,if_pos (by rw [c];simp)]
     ·rw [if_neg c]
      by_cases c2:x∈(nmd r).take j
      ·rw [if_pos c2,if_pos (List.mem_append_left _ c2)]
      ·rw [if_neg c2,if_neg (λz=>(Bm.mp z).elim c2 λz=>c (Az.mp z))]
    ·intro σ H6 hh
     obtain ⟨kvs',v5',rfl,f6,hd6,dl6,lt6⟩:=hh;have n2:=aD8 r;have nl:(nmV r).length=(nmd r).length:=Ag ..;have hl6:=f6 _ _ ne rw5.hl;refine ⟨_,rfl,.inl ⟨rfl,_,Gw hl6⟩,_,rfl,lf,vs,.ref a,rfl,rfl,hl6,bP (by have:=rw5.ln;lia),hN _ _ ?_⟩;refine ⟨vs++[.ref a],kvs',_,_,_,rfl,λc o n1 n2 h=>by rw [aJ n1];exact f6 _ _ n2 (fx5 c o n1 n2 h),?_,by rw [aJ (Bi ne)];exact hd6,by lia,?_⟩
     ·rw [gk]
      have rva6:RwV H6 a r:=by
       obtain ⟨_,_,hxx,_⟩:=hrw.get hy;exact (hrw.keep (sm λc o h1 h2 h=>f6 _ _ h2 (fx5 c o h1 h2 h))).get hy |> λ⟨r2,a2,h1,h2,h3⟩=>by
        rw [hri] at h1;cases h1;cases h2;exact h3
      have rw6:RwsV H6 lf g.1 vs:=⟨hl6,rw5.ln,λm v r' h1 h2=>by
       obtain ⟨c,e,rc⟩:=rw5.at' m v r' h1 h2;exact ⟨c,e,rc.off f6 hd5⟩⟩
      exact rw6.push rva6
     ·rw [gk]
      rw [nl,AN] at lt6;exact lt6
  ·refine ⟨a,_,_,rfl,Gv ha,rfl,rfl,_,rfl,?_⟩
   rw [pE];refine ite2 (λcd=>?_) (λcd=>hC _ _ ⟨Same.refl _,(λz=>by cases z),λ⟨kk,qr,_,_,e⟩=>by
    cases r<;>first|exact absurd rfl cd|skip
    all_goals cases qr<;>exact e.elim⟩)
   refine ⟨_,rfl,rfl,_,rfl,?_⟩;cases e1:g.2 (ph r) with
   |none=>exact iteF (hC _ _ ⟨Same.refl _,(λz=>by cases z),λ⟨kk,qr,h,_⟩=>by rw [e1] at h;cases h⟩)
   |some kk=>
    refine iteT ?_;obtain ⟨v,hv⟩:∃ v,vs[kk]?=some v:=by
     have h:=lt (ph r);obtain ⟨qr,hq,_⟩:=(hg▸lok i:LtOk g).at' _ _ e1;exact ⟨_,Ae (by rw [rw3.ln];exact (Ac.mp hq).1)⟩
    obtain ⟨qr,c,e2,rfl,hcv⟩:=rw3.get hv;obtain ⟨cq,hc,_⟩:=hcv.w;refine ⟨_,rfl,_,rfl,lf,vs,((kk:Nat):Int),.ref c,rfl,rfl,Gw rw3.hl,aU hv,_,rfl,c,_,rfl,hc,λp1 H5 s5 hp1=>?_⟩;refine ⟨_,rfl,_,rfl,a,_,rfl,s5 _ _ ha,λp2 H6 s6 hp2=>?_⟩;rw [aGy] at hp1 hp2;refine ⟨p1,p2,_,_,_,rfl,rfl,Gv (s6 _ _ hp1),Gv hp2,aAk,_,rfl,hC _ _ ⟨s5.trans s6,(aEh cd).trans ⟨λh=>⟨kk,qr,e1,e2,h⟩,λ⟨k',q',h1,h2,h⟩=>?_⟩⟩⟩;rw [e1] at h1;cases h1;rw [e2] at h2;cases h2;exact h
end
def intL (ps:List Nat):Gq:=ps.map λp=>.int ((p:Nat):Int)
theorem tR {ps:List Nat}:(intL ps).length=ps.length:=Ag ..
def kW {ps:List Nat}{i p:Nat}(h:ps[i]?=some p):(intL ps)[i]?=some (.int ((p:Nat):Int)):=by
 unfold intL;rw [Aq,h];rfl
theorem qV {x:Nat}:∀ {ps:List Nat},inV (.int ((x:Nat):Int)) (intL ps)=true↔x∈ps
 |[]=>by simp [inV,intL]
 |p::r=>by
  have ih:=qV (x:=x) (ps:=r);unfold inV intL at ih ⊢;rw [Ak,Fm,Bool.or_eq_true,ih,AB];refine or_congr ?_ Iff.rfl;simp [eqV];lia
def aAi (ps:List Nat):(intL ps).all eC=true:=by
 induction ps with
 |nil=>rfl
 |cons p r ih=>exact ih
def optV (o:Option Nat):V:=(o.map λk=>.int ((k:Nat):Int)).getD .non
inductive spGath (vs:Gq)(H:Hp)(Q:VK)(E0:XK):Prop
 |mk (b r q ph rl rs us ps rbs ws M S β rws rv M' S':_) (e0:vs=[.ref b,.ref ph,.ref rl]) (e1:WIn H b r q ph rl rs us ps rbs ws M S β rws rv) (en:Ends us ps rbs ws M S rws (some (M',S'))) (ar:∀ r∈rws,AmB r) (ag:∀ i,i<=rws.length->∀ q∈(gat (rws.take i)).1,AmB q) (k:∀ l' vs' H',Same H H'->H l'=none->RwsV H' l' (gat rws).1 vs'->Q (.ref l') H'):spGath vs H Q E0
inductive spBefore (vs:Gq)(H:Hp)(Q:VK)(E0:XK):Prop
 |mk (rl:Gj) (rws:List Rw) (rv:Gq) (n:Nat) (r:Rw) (e0:vs=[.ref rl,.int ((n:Nat):Int)]) (hr:RwsV H rl rws rv) (l:rws.length<=60) (hn:rws[n]?=some r) (k:∀ H',Same H H'->Q (optV (fV rws (ph r) n)) H'):spBefore vs H Q E0
inductive spHeads (vs:Gq)(H:Hp)(Q:VK)(E0:XK):Prop
 |mk (rl:Gj) (rws:List Rw) (rv:Gq) (e0:vs=[.ref rl]) (hr:RwsV H rl rws rv) (l:rws.length<=60) (ar:∀ r∈rws,AmR r) (k:∀ l' hs H',Same H H'->H l'=none->H' l'=some (.lst (intL hs))->HdI rws hs rws.length->Q (.ref l') H'):spHeads vs H Q E0
section
variable {P:Aw}{w:World}{K:Ab}{mg:Gb}{base:Heap}{c0 c1 c2 c3 c4:Gj}
def aIb:FnScope ["bench","phials","rows"] ["bench","phials","rows"] (aG aFo):=fnScOk
def aGi {f:Gj}{fd:Ay}(F:Fun K "gathered" "gathered" aFo f fd)(cW:Cal P w K mg base (CXg P w) 9 "walked" ["bench","phials","rows"] (spWalked c0 c1 c2 c3 c4))(cG:Cal P w K mg base CX0 9 "gathered_rows" ["rows"] spGatR):FnOk P w K mg base CX0 10 f fd ["bench","phials","rows"] spGath:=by
 refine F.okA aIb (λcdv A outer s H vs Q E hr h=>?_)
 ·obtain ⟨b,r,q,ph,rl,rs,us,ps,rbs,ws,M,S,β,rws,rv,M',S',rfl,wi,en,ar,ag,k⟩:=h
  refine ⟨_,(aC (cV (lE cW hr rfl aIu (aA (pv 0) (aA (pv 1) (aA (pv 2) aB)))))
   (aE (aL (aI cG hr (aA (pv 2) aB))))),?_⟩
  refine ⟨_,rfl,_,rfl,_,rfl,b,r,q,ph,rl,rs,us,ps,rbs,ws,M,S,β,rws,rv,_,rfl,wi,en,λM2 S2 _ l' H1 s1 _ _=>?_,λh=>by cases h⟩;exact ⟨_,rfl,rl,rws,rv,rfl,wi.rw'.keep s1,wi.l60,ar,ag,λl2 vs' H2 s2 n2 rw2=>k l2 vs' H2 (s1.trans s2) (sm0 s1 n2) rw2⟩
def rZ:FnScope ["_law_rows","_law_at","_law_k"] ["_law_rows","_law_at"] (aG qF):=fnScOk
def yV {f:Gj}{fd:Ay}(F:Fun K "_law_before" "_law_before" qF f fd)(T:Txt mg)(cN:Cal P w K mg base CX0 1 "_law_named" ["_law_row_here"] spNm):FnOk P w K mg base CX0 2 f fd ["_law_rows","_law_at"] spBefore:=by
 refine F.okA rZ (λcdv A outer s H vs Q E hr h=>?_)
 ·obtain ⟨rl,rws,rv,n,r,rfl,hrw,l60,hn,k⟩:=h
  refine ⟨_,(aC (bR AJ rfl (aIr rfl T.rev' rfl T.range (aA (pv 1) aB)) (aQ (i:=2) rZ.nd)
    (aE (bD (aM eK (aZ dB (aZ aX (pv 0) (pv 1) (λ_ _=>rfl)) aH (λ_ _=>rfl)) (aI cN hr (aA (aZ aX (pv 0) (pv 2) (λ_ _=>rfl)) aB)) rfl)
     (aE (aL (pv 2)))
     aS)))
   (aE (aL dI))),?_⟩
  have nl:=(Ac.mp hn).1;refine ⟨_,rfl,(n:Int),rfl,by lia,by lia,?_⟩;refine vK (λi σ H'=>∃ v2:Gr,σ=[some (.ref rl),some (.int ((n:Nat):Int)),v2]/\Same H H'/\fV rws (ph r) n=fV rws (ph r) (n-i)) ⟨none,rfl,Same.refl _,rfl⟩ ?_ ?_
  ·intro i σ H2 hi hh
   obtain ⟨v2,rfl,s2,e⟩:=hh;have hi:i<n:=hi;have em:(n:Int)-1+(i:Int) * -1=((n-1-i:Nat):Int):=by lia
   rw [em];have e1:n-i=(n-1-i)+1:=by lia
   obtain ⟨r',hr'⟩:∃ r',rws[n-1-i]?=some r':=⟨_,Ae (by lia)⟩;rw [e1,iH hr'] at e;have rw2:=hrw.keep s2;obtain ⟨v,hv⟩:∃ v,rv[n]?=some v:=⟨_,Ae (by rw [hrw.ln];exact nl)⟩;obtain ⟨_,a,q1,rfl,rva⟩:=rw2.get hv;rw [hn] at q1;cases q1;obtain ⟨v',hv'⟩:∃ v,rv[n-1-i]?=some v:=⟨_,Ae (by rw [hrw.ln];lia)⟩;obtain ⟨_,a',q1,rfl,rva'⟩:=rw2.get hv';rw [hr'] at q1;cases q1;obtain ⟨_,ha,_⟩:=rva.w;refine ⟨_,rfl,_,rfl,rl,rv,((n:Nat):Int),.ref a,rfl,rfl,Gw rw2.hl,aU hv,a,_,1,_,rfl,rfl,Gv ha,aU rw1,?_⟩;refine ⟨_,rfl,_,rfl,rl,rv,((n-1-i:Nat):Int),.ref a',rfl,rfl,Gw rw2.hl,aU hv',a',r',rfl,rva',λp np=>?_⟩;have s3:=Gu (o:=.lst (nmV r')) np;refine ⟨p,_,rfl,.inl (Gw aD),rfl,aAi _,_,rfl,ite2 (λc=>?_) (λc=>?_)⟩
   ·rw [if_pos (qV.mp c)] at e
    rw [e] at k;exact ⟨_,rfl,k _ (s2.trans s3)⟩
   ·rw [if_neg (λz=>c (qV.mpr z))] at e
    exact ⟨_,rfl,s2.trans s3,by rw [e];congr 1;lia⟩
  ·intro σ H2 hh
   obtain ⟨v2,rfl,s2,e⟩:=hh;rw [show n-(n:Int).toNat=0 by lia] at e;rw [e] at k;exact k _ s2
abbrev Nhd:Gh:=["_law_rows","_law_heads_here","_law_at","_law_ahead"]
def mB:FnScope Nhd ["_law_rows"] (aG xE):=fnScOk
def aCr {f:Gj}{fd:Ay}(F:Fun K "_law_heads" "_law_heads" xE f fd)(T:Txt mg)(cB:Cal P w K mg base CX0 2 "_law_before" ["_law_rows","_law_at"] spBefore):FnOk P w K mg base CX0 3 f fd ["_law_rows"] spHeads:=by
 refine F.okA mB (λcdv A outer s H vs Q E hr h=>?_)
 ·obtain ⟨rl,rws,rv,rfl,hrw,l60,ar,k⟩:=h
  refine ⟨_,(aC (aK (i:=1) mB.nd (cZ aB))
   (aC (bR AJ rfl (cY rfl T.range (aA (aV bA rfl T.len BO (aA (pv 0) aB)) aB)) (aQ (i:=2) mB.nd)
    (aC (cV (iP Bk Bb Ba bO (pv 1) (aA (pv 2) aB)))
    (aC (aK (i:=3) mB.nd (aI cB hr (aA (pv 0) (aA (pv 2) aB))))
    (aE (bD (PW.pt (fH (aM cJ (aZ dB (aZ aX (pv 0) (pv 2) (λ_ _=>rfl)) aH (λ_ _=>rfl)) aR) (fH (aM mI (pv 3) dI) (eQ (aM (yE hr.units) (eS gA (aZ aX (pv 0) (pv 3) (λ_ _=>rfl)) gC (gB aH)) (eS gA (aZ aX (pv 0) (pv 2) (λ_ _=>rfl)) gC (gB aH)))))))
     (aE (fK (aZ aX (pv 1) (pv 3) (λ_ _=>rfl)) (jZ (pv 1) (pv 2) set_list)))
     aS)))))
   (aE (aL (pv 1))))),?_⟩
  refine cut3 ?_
  intros
  refine ⟨zLn0,λlh nlh=>?_⟩;obtain ⟨H1,eH1,s1,hlh⟩:=updX (o:=.lst []) nlh;rw [eH1];refine ⟨_,rfl,rl,_,rfl,.inl (Gw (s1 _ _ hrw.hl)),_,rfl,by lia,by have:=hrw.ln;lia,?_⟩;have sm:∀ {H':Hp},(∀ c o,c≠lh->H1 c=some o->H' c=some o)->Same H H':=λfx c o h=>fx c o (aW h nlh) (s1 _ _ h);refine dP (λi σ H'=>∃ (hs:List Nat) (v2 v3:Gr),σ=[some (.ref rl),some (.ref lh),v2,v3]/\(∀ c o,c≠lh->H1 c=some o->H' c=some o)/\H' lh=some (.lst (intL hs))/\HdI rws hs i) ⟨[],none,none,rfl,λ_ _ _ h=>h,hlh,HdI.zero rws⟩ ?_ ?_
  rotate_left
  ·intro σ H3 hh
   obtain ⟨hs,v2,v3,rfl,fx,hl3,I⟩:=hh;rw [show ((rv.length:Nat):Int).toNat=rws.length by rw [hrw.ln];lia] at I;exact ⟨_,rfl,k lh hs H3 (sm fx) nlh hl3 I⟩
  intro i σ H3 D' hN hi hh;obtain ⟨hs,v2,v3,rfl,fx,hl3,I⟩:=hh;have ri:i<rws.length:=by
   have:i<((rv.length:Nat):Int).toNat:=hi;rw [hrw.ln] at this;lia
  rw [show (0:Int)+(i:Int)=((i:Nat):Int) by lia];obtain ⟨r,hr'⟩:∃ r,rws[i]?=some r:=⟨_,Ae ri⟩;obtain ⟨v,hv⟩:∃ v,rv[i]?=some v:=⟨_,Ae (by rw [hrw.ln];exact ri)⟩;have hln:=I.ln;dsimp only [gName];refine ⟨_,rfl,.inl ⟨rfl,_,Gw hl3⟩,_,rfl,lh,_,_,rfl,rfl,hl3,bP (by rw [tR];lia),?_⟩;have hl4:upd H3 lh (.lst (intL hs++[.int ((i:Nat):Int)])) lh=some (.lst (intL (hs++[i]))):=by
   rw [aD];unfold intL;rw [AW];rfl
  have fx4:∀ c o,c≠lh->H1 c=some o->upd H3 lh (.lst (intL hs++[.int ((i:Nat):Int)])) c=some o:=λc o n h=>by rw [aJ n];exact fx c o n h
  generalize upd H3 lh (.lst (intL hs++[.int ((i:Nat):Int)]))=H4 at hl4 fx4 ⊢;refine ⟨_,rfl,_,rfl,rl,rws,rv,i,r,rfl,hrw.keep (sm fx4),l60,hr',λH5 s5=>?_⟩;have hl5:=s5 _ _ hl4;have fx5:∀ c o,c≠lh->H1 c=some o->H5 c=some o:=λc o n h=>s5 _ _ (fx4 c o n h);have rw5:=hrw.keep (sm fx5);obtain ⟨_,a,q1,rfl,rva⟩:=rw5.get hv;rw [hr'] at q1;cases q1;obtain ⟨aq,ha,_⟩:=rva.w;dsimp only [gName];refine if1 (λb H'=>Same H5 H'/\(b=true↔∃ k,fV rws (ph r) i=some k/\sk (rws.getD k (.rinse 0)) r)) (λb H6 hb=>?_) (λC hC=>?_)
  ·obtain ⟨s6,hb⟩:=hb
   have hl6:=s6 _ _ hl5;have fx6:∀ c o,c≠lh->H1 c=some o->H6 c=some o:=λc o n h=>s6 _ _ (fx5 c o n h);cases b with
   |true=>
    obtain ⟨kk,e1,e2⟩:=hb.mp rfl;have kl:=fS e1;obtain ⟨hd,hk⟩:∃ hd,hs[kk]?=some hd:=⟨_,Ae (by lia)⟩;rw [e1];refine ⟨_,rfl,_,rfl,lh,_,((kk:Nat):Int),_,rfl,rfl,Gw hl6,aU (kW (by rw [AG (by lia)];exact hk)),_,rfl,_,rfl,lh,_,((i:Nat):Int),i,rfl,rfl,hl6,gF (by rw [tR,As,hln];exact Cg i),hN _ _ ?_⟩;refine ⟨hs++[hd],_,_,rfl,λc o n h=>by rw [aJ n];exact fx6 c o n h,?_,I.join hr' e1 e2 hk⟩;rw [aD];unfold intL;rw [AW,AW,List.set_append_right _ _ (by rw [Ag];lia),Ag,hln,DG];rfl
   |false=>exact hN _ _ ⟨hs++[i],_,_,rfl,fx6,hl6,I.push hr' (ar r (Ao hr')) λk' h1 h2=>absurd (hb.mpr ⟨k',h1,h2⟩) (by decide)⟩
  ·refine ⟨_,rfl,_,rfl,rl,rv,((i:Nat):Int),.ref a,rfl,rfl,Gw rw5.hl,aU hv,a,_,0,.str (RwW aq r).1,rfl,rfl,Gv ha,aU (j:=0) rfl,rfl,_,rfl,?_⟩
   rw [pE];refine ite2 (λcd=>?_) (λcd=>hC _ _ ⟨Same.refl _,(λz=>by cases z),λ⟨kk,_,e⟩=>by
    cases r<;>first|exact absurd rfl cd|skip
    all_goals generalize rws.getD kk (.rinse 0)=qr at e;cases qr<;>exact e.elim⟩)
   refine ⟨_,rfl,rfl,_,rfl,?_⟩;cases e1:fV rws (ph r) i with
   |none=>exact iteF (hC _ _ ⟨Same.refl _,(λz=>by cases z),λ⟨kk,h,_⟩=>by rw [e1] at h;cases h⟩)
   |some kk=>
    refine iteT ?_;have kl:=fS e1;obtain ⟨v2',hv2⟩:∃ v,rv[kk]?=some v:=⟨_,Ae (by rw [hrw.ln];lia)⟩;obtain ⟨qr,c,e2,rfl,hcv⟩:=rw5.get hv2;obtain ⟨cq,hc,_⟩:=hcv.w;refine ⟨_,rfl,_,rfl,rl,rv,((kk:Nat):Int),.ref c,rfl,rfl,Gw rw5.hl,aU hv2,_,rfl,c,_,rfl,hc,λp1 H6 s6 hp1=>?_⟩;refine ⟨_,rfl,_,rfl,rl,rv,((i:Nat):Int),.ref a,rfl,rfl,Gw (s6 _ _ rw5.hl),aU hv,_,rfl,a,_,rfl,s6 _ _ ha,λp2 H7 s7 hp2=>?_⟩;rw [aGy] at hp1 hp2;refine ⟨p1,p2,_,_,_,rfl,rfl,Gv (s7 _ _ hp1),Gv hp2,aAk,_,rfl,hC _ _ ⟨s6.trans s7,(aEh cd).trans ⟨λh=>⟨kk,e1,by rw [eA e2];exact h⟩,λ⟨k',h1,h⟩=>?_⟩⟩⟩;rw [e1] at h1;cases h1;rw [eA e2] at h;exact h
end
end K53
namespace L2
def aAq {K:Ab}{H:Hp}{n:Nat}{a b:Gj}{xs:Gq}(h1:SqL K H a xs)(h2:SqL K H b xs)(hs:∀ v∈xs,Sf v):DEq K H (n+1) (.ref a) (.ref b) true:=by
 by_cases ne:a=b
 ·subst ne
  exact .same
 ·have q:=DEq.lst (n:=n) (e:=λ_=>true) ne h1 h2 λj x y hx hy=>by
   rw [hx] at hy;cases hy;exact DEq.self (hs x (Ao hx))
  rw [all_true _ _ rfl] at q;exact q
end L2
namespace K53
open L2 GM TM TR
def rdt:Rw->Dt
 |.draw i x t b=>.t [.s "draw",.i ((i:Nat):Int),.s x,.t [.i t,.i b]]
 |.fill i x t b=>.t [.s "fill",.i ((i:Nat):Int),.s x,.t [.i t,.i b]]
 |.pour i j t b=>.t [.s "pour",.i ((i:Nat):Int),.i ((j:Nat):Int),.t [.i t,.i b]]
 |.empty i=>.t [.s "empty",.i ((i:Nat):Int)]
 |.rinse i=>.t [.s "rinse",.i ((i:Nat):Int)]
def RwV.dv {K:Ab}{H:Hp}{a:Gj}{r:Rw}(h:RwV H a r):Dv K H 3 (.ref a) (rdt r):=by
 cases r with
 |draw i x t b=>obtain ⟨q,h1,h2⟩:=h;exact .tup (SqZ.of h1) (.cons .s (.cons .i (.cons .s (.cons (.two (SqZ.of h2) .i .i) .nil))))
 |fill i x t b=>obtain ⟨q,h1,h2⟩:=h;exact .tup (SqZ.of h1) (.cons .s (.cons .i (.cons .s (.cons (.two (SqZ.of h2) .i .i) .nil))))
 |pour i j t b=>obtain ⟨q,h1,h2⟩:=h;exact .tup (SqZ.of h1) (.cons .s (.cons .i (.cons .i (.cons (.two (SqZ.of h2) .i .i) .nil))))
 |empty i=>exact .two (SqZ.of h) .s .i
 |rinse i=>exact .two (SqZ.of h) .s .i
theorem RwsV.dl {K:Ab}{H:Hp}{l:Gj}{rws:List Rw}{rv:Gq}(h:RwsV H l rws rv):DL K H 40 rv (rws.map rdt):=⟨by rw [Ag];exact h.ln,λi v d hv hd=>by
 rw [Aq] at hd;obtain ⟨r,hr,rfl⟩:=Bg.mp hd;obtain ⟨a,rfl,q⟩:=h.at' i v r hv hr;exact q.dv.mono⟩
theorem StV.val {H:Hp}{l:Gj}{M M':Int}{S S':List PF}(h:StV H l M S)(m:0<M)(m':0<M')(e:val M S=val M' S'):StV H l M' S':=by
 obtain ⟨vs,h1,h2,h3⟩:=h;have le:S.length=S'.length:=by
  have:=congrArg List.length e;unfold K53.val at this;rwa [Ag,Ag] at this
 refine ⟨vs,h1,by lia,λi v d' hv hd'=>?_⟩;have il:=(Ac.mp hd').1;obtain ⟨d,hd⟩:∃ d,S[i]?=some d:=⟨_,Ae (by lia)⟩;obtain ⟨a,mm,n,us,ys,e1,e2,e3,e4,e5,e6⟩:=h3 i v d hv hd;have ed:vl1 M d=vl1 M' d':=by
  have:=congrArg (λl=>l[i]?) e;rw [show (K53.val M S)[i]?=_ from fB hd,show (K53.val M' S')[i]?=_ from fB hd'] at this;exact AA this
 have en:d.2=d'.2:=(congrArg Prod.snd ed:(vl1 M d).2=(vl1 M' d').2);refine ⟨a,mm,n,us,ys,e1,e2,e3,e4,e5.scale m m' λy=>?_,by rw [<- en];exact e6⟩;have ey:(d.1 y:Rat)/(M:Rat)=(d'.1 y:Rat)/(M':Rat):=congrFun (congrArg Prod.fst ed) y;have p:=ic0 m;have p':=ic0 m';have:(d.1 y:Rat)*(M':Rat)=(d'.1 y:Rat)*(M:Rat):=by
  generalize (d.1 y:Rat)=x at *
  generalize (d'.1 y:Rat)=x' at *
  generalize (M:Rat)=w at *
  generalize (M':Rat)=w' at *
  grind
 exact_mod_cast this
def aC2 {hs:List Nat}{n:Nat}:hds hs (n+1)=hds hs n++if hs[n]?=some n then [n] else []:=by
 unfold hds;rw [List.range_succ,CQ]
 congr 1
 by_cases c:hs[n]?=some n
 ·rw [if_pos c,Es,if_pos (decide_eq_true c)]
  rfl
 ·rw [if_neg c,Es,if_neg (by simpa using c)]
  rfl
def AmB.of {nb:Nat}{ws:Gh}{r:Rw}(h:GoodR nb ws r):AmB r:=by
 cases r with
 |draw i x t b=>exact ⟨h.2.2.1.am,h.2.2.1.bt.mono,h.2.2.1.bb.mono⟩
 |_=>trivial
theorem aDp {nb:Nat}{ws:Gh}{rws:List Rw}{hs:List Nat}{a:Nat}:∀ {n:Nat},n<=rws.length->(∀ k,k<n->hs[k]?=some a->∃ i x t b,rws[k]?=some (.draw i x t b)/\SmR nb ws (.draw i x t b))->BQ.Am (smA rws hs a n)/\Bt (17*n+1) (smA rws hs a n).1/\Bt (7*n+1) (smA rws hs a n).2
 |0,_,_=>⟨BQ.am0,(dD 1 (c:=1) (by decide) (by decide):Bt 1 0),(dD 1 (c:=2) (by decide) (by decide):Bt 1 1)⟩
 |n+1,hl,h=>by
  obtain ⟨am,bt,bb⟩:=aDp (n:=n) (by lia) λk hk=>h k (by lia);show BQ.Am (if _ then _ else _)/\Bt _ (if _ then _ else _:Int×Int).1/\Bt _ (if _ then _ else _:Int×Int).2
  by_cases c:hs[n]?=some a
  ·rw [if_pos c]
   obtain ⟨i,x,t2,b2,hr,g1,g2,g3⟩:=h n (by lia) c;rw [eA hr];obtain ⟨r1,r2,r3,r4⟩:=g1;have g2:t2<=1000:=g2;have g3:b2<=100:=g3;have ar:BQ.Am (amt (.draw i x t2 b2)):=r3.am;have b1':=r3.am.b1;have B2:Bt 7 b2:=dD 7 (c:=101) (by lia) (by lia);have T2:Bt 10 t2:=dD 10 (c:=1001) (by lia) (by lia);generalize smA rws hs a n=s at am bt bb;have T:Bt (17*n+18) (s.1*b2+t2*s.2):=((bt.mul B2).mono (show 17*n+1+7<=17*n+17 by lia)).add ((T2.mul bb).mono (show 10+(7*n+1)<=17*n+17 by lia));have B:Bt (7*n+8) (s.2*b2):=bb.mul B2;have am':=BQ.add_am am ar;have le:=BQ.lw_le (am.num ar) (am.mul ar);exact ⟨am',T.le am'.t0 le.1,B.le (by have:=am'.b1;lia) le.2⟩
  ·rw [if_neg c]
   exact ⟨am,bt.mono (by lia),bb.mono (by lia)⟩
theorem zZ {W:List Rw}{l:Nat->Option Nat}(e:gat W=(W,l)):∀ m,m<=W.length->∃ l',gat (W.take (W.length-m))=(W.take (W.length-m),l')
 |0,_=>by
  rw [Nat.sub_zero,AN];exact ⟨l,e⟩
 |m+1,h=>by
  obtain ⟨l',e'⟩:=zZ e m (by lia);obtain ⟨s,hs⟩:∃ s,W[W.length-(m+1)]?=some s:=⟨_,Ae (by lia)⟩;have:=take_snoc hs;rw [show W.length-(m+1)+1=W.length-m by lia] at this;rw [this] at e';obtain ⟨l0,e0,_⟩:=tV e';exact ⟨l0,e0⟩
def aGz {nb:Nat}{ws:Gh}{W:List Rw}{l:Nat->Option Nat}(e:gat W=(W,l))(g:∀ r∈W,GoodR nb ws r){i:Nat}(hi:i<=W.length):∀ q∈(gat (W.take i)).1,AmB q:=λq hq=>by
 obtain ⟨l',e'⟩:=zZ e (W.length-i) (by lia);rw [show W.length-(W.length-i)=i by lia] at e';rw [e'] at hq;exact .of (g q (List.mem_of_mem_take hq))
def aDa {us:Gq}{ps:Gf}{rbs:Gg}{ws:Gh}{H:Hp}{M M':Int}{S S':List PF}{β:Nat}{rws:List Rw}(pt:PsT H us ps)(rp:∀ (i:Nat) rb,rbs[i]?=some rb->0<rb.2)(so:Sok ws rbs M S β)(l:rws.length<=41)(sm:∀ r∈rws,SmR rbs.length ws r)(m':0<M')(en:Ends us ps rbs ws M S rws (some (M',S'))):∃ M2 S2,Ends us ps rbs ws M S (gat rws).1 (some (M2,S2))/\val M2 S2=val M' S':=by
 have gi:=GI.all (us:=us) (ps:=ps) (rbs:=rbs) l sm rws.length (Aj _);rw [AN] at gi;have bp:∀ {r:Rw},GoodR rbs.length ws r->0<rwb r:=λ{r} g=>by
  cases r with
  |draw i x t b=>exact g.2.2.1.am.b1
  |fill i x t b=>exact g.2.2.am.b1
  |pour i j t b=>exact g.2.2.2.1.am.b1
  |_=>exact (by decide:(0:Int)<1)
 have e1:=gi.en _ _ (aAm rp en so.m0 λr hr=>bp (sm r hr).1);obtain ⟨o,eo⟩:=Ends.ex (H:=H) (us:=us) (ps:=ps) pt (λi rb h=>EX (rp i rb h)) so (λr hr=>(gi.gd r hr).1);have e2:=aAm rp eo so.m0 λr hr=>bp (gi.gd r hr).1;rw [e1] at e2;cases o with
 |none=>cases e2
 |some p=>exact ⟨p.1,p.2,eo,(AA e2).symm⟩
def spLaw (K:Ab):Sp:=λvs H Q _=>∃ (a:Gj) (ns:List Int),vs=[.ref a]/\SqL K H a (ns.map V.int)/\ns.length<=63/\∀ H',Q (.bl true) H'
def StV.copy {H H':Hp}{l l':Gj}{M:Int}{S:List PF}{vs:Gq}(h:StV H l M S)(hl:H l=some (.lst vs))(s:Same H H')(hl':H' l'=some (.lst vs)):StV H' l' M S:=by
 obtain ⟨vs',h1,h2,h3⟩:=h;rw [hl] at h1;cases h1;exact ⟨vs,hl',h2,λi v d hv hd=>(h3 i v d hv hd).keep s⟩
def aHx {H:Hp}{ph:Gj}{rs ys:Gq}{n:Nat}(rl:rs.length=n)(hph:H ph=some (.lst ys))(yl:ys.length=rs.length)(hy:∀ (i:Nat) x y,rs[i]?=some x->ys[i]?=some y->PhA H 1 y (λ_=>0,[])):StV H ph 1 (Cz n (λ_=>0,[])):=⟨ys,hph,by rw [List.length_replicate];lia,λi v d hv hd=>by
 obtain ⟨x,hx⟩:∃ x,rs[i]?=some x:=⟨_,Ae (by have:=(Ac.mp hv).1;lia)⟩;rw [(List.mem_replicate.mp (Ao hd)).2];exact hy i x v hx hv⟩
def aJb:(["_law_room"]:Gh).Nodup:=by decide +kernel
inductive rTL (res:Bool)(K:Ab)(x y:V)(H:Hp)(Q:VK):Prop
 |mk (a b p1 p2 q1 q2:Gj) (xs ys:Gq) (e1:x=.ref a) (e2:y=.ref b) (h1:SqT K H a [.ref p1,.ref p2]) (h2:SqT K H b [.ref q1,.ref q2]) (g1:SqL K H p1 xs) (g2:SqL K H q1 xs) (g3:SqL K H p2 ys) (g4:SqL K H q2 ys) (f1:∀ v∈xs,Sf v) (f2:∀ v∈ys,Sf v) (q:Q (.bl res) H):rTL res K x y H Q
def aHl {K:Ab}{H:Hp}{p1 p2 q1 q2:Gj}{xs ys:Gq}(g1:SqL K H p1 xs)(g2:SqL K H q1 xs)(g3:SqL K H p2 ys)(g4:SqL K H q2 ys)(f1:∀ v∈xs,Sf v)(f2:∀ v∈ys,Sf v):∀ (j:Nat) x y,[V.ref p1,.ref p2][j]?=some x->[V.ref q1,.ref q2][j]?=some y->DEq K H 40 x y true:=λj x y hx hy=>by
 match j,hx,hy with
 |0,hx,hy=>cases hx;cases hy;exact aAq (n:=39) g1 g2 f1
 |1,hx,hy=>cases hx;cases hy;exact aAq (n:=39) g3 g4 f2
 |j+2,hx,_=>simp at hx
def xW {X:Cx}(hu:X.A.units+64<cLine):OpR X (BW .NotEq) (rTL false X.K):=by
 intro Z s σ H x y v u Q I rx ry h;obtain ⟨a,b,p1,p2,q1,q2,xs,ys,rfl,rfl,h1,h2,g1,g2,g3,g4,f1,f2,q⟩:=h;refine aD2 hu Z s σ H _ _ v u Q I rx ry ⟨a,b,_,_,λ_=>true,rfl,rfl,h1,h2,aHl g1 g2 g3 g4 f1 f2,?_⟩;exact q
def StV.sf {H:Hp}{l:Gj}{M:Int}{S:List PF}{vs:Gq}(h:StV H l M S)(hl:H l=some (.lst vs)):∀ v∈vs,Sf v:=λv hv=>by
 obtain ⟨vs',h1,h2,h3⟩:=h;rw [hl] at h1;cases h1;obtain ⟨i,hi⟩:=CY hv;have li:=(Ac.mp hi).1;obtain ⟨a,_,_,_,_,e,_⟩:=h3 i v _ hi (Ae (by lia));exact .inr ⟨a,e⟩
def RwsV.sf {H:Hp}{l:Gj}{rws:List Rw}{rv:Gq}(h:RwsV H l rws rv):∀ v∈rv,Sf v:=λv hv=>by
 obtain ⟨i,hi⟩:=CY hv;obtain ⟨_,a,_,e,_⟩:=h.get hi;exact .inr ⟨a,e⟩
def RwsV.copy {H H':Hp}{l l':Gj}{rws:List Rw}{rv:Gq}(h:RwsV H l rws rv)(s:Same H H')(hl:H' l'=some (.lst rv)):RwsV H' l' rws rv:=⟨hl,h.ln,(h.keep s).at'⟩
section
variable {us:Gq}{ps:Gf}{rbs:Gg}{ws:Gh}
def aE8 (rp:∀ (i:Nat) rb,rbs[i]?=some rb->0<=rb.1):Sok ws rbs 1 (Cz rbs.length (λ_=>0,[])) 1:=by
 refine ⟨by decide,dD 1 (c:=2) (by decide) (by decide),List.length_replicate ..,λd hd=>?_,λi d rb hd hr=>?_⟩
 ·rw [(List.mem_replicate.mp hd).2]
  exact ⟨λ_=>DB _,(λy hy=>by cases hy),.nil,λy hy=>absurd rfl hy⟩
 ·rw [(List.mem_replicate.mp (Ao hd)).2]
  show tot ws (λ_=>0)*rb.2<=rb.1*1;rw [rN,BV,Int.mul_one];exact rp i rb hr
end
section
variable {P:Aw}{w:World}{K:Ab}{mg:Gb}{base:Heap}
abbrev Nlaw:Gh:=["_law_script","_law_wares_here","_law_bench","_law_state","_law_rows","_law_due","_law_heads_here","_law_wanted","_law_at","_law_much","_law_k","_law_handed","_law_found"]
def gM:FnScope Nlaw ["_law_script"] (aG sLaw):=fnScOk
def aI4 {f:Gj}{fd:Ay}(F:Fun K "law" "law" sLaw f fd)(T:Txt mg)
  (cC:Cal P w K mg base CX0 10 "_law_cell_at" ["_law_script","_law_k"] (nH K)) (cWs:Cal P w K mg base CX0 10 "_law_wares" ["_law_cell"] wL) (cB:Cal P w K mg base CX0 10 "_law_small" ["_law_script","_law_wares_here"] (spBench K)) (cG:Cal P w K mg base CX0 10 "_law_goes_on" ["_law_script","_law_bench","_law_wares_here","_law_state","_law_start","_law_last","_law_most"] (spGoes K)) (cH:Cal P w K mg base CX0 10 "_law_heads" ["_law_rows"] spHeads) (cA:Cal P w K mg base CX0 10 "_law_add" ["_law_one","_law_other"] (spAdd K)) (cT:Cal P w K mg base CX0 10 "gathered" ["bench","phials","rows"] spGath) (cE:Cal P w K mg base CX0 10 "_law_end" ["_law_bench","_law_state","_law_rows"] spEnd):FnOk P w K mg base CX0 11 f fd ["_law_script"] (spLaw K):=by
 refine F.okA gM (λcdv A outer s H vs Q E hr h=>?_)
 ·obtain ⟨sc,ns,rfl,hS,hlen,k⟩:=h
  refine ⟨_,(aC (aK (i:=1) gM.nd (aI cWs hr (aA (aI cC hr (aA (pv 0) (aA aH aB))) aB)))
   (aC (aK (i:=2) gM.nd (aI cB hr (aA (pv 0) (aA (pv 1) aB))))
   (aC (aK (i:=3) gM.nd (aZ dB (aI cG hr (aA (pv 0) (aA (pv 2) (aA (pv 1) (aA (qH (N':=["_law_room"]) (cl:=[]) (g:=L2.gName 0) (λ_=>[none]) rfl rfl (by decide +kernel) (by decide +kernel) (lM (by decide +kernel)) (λ_ _=>oY) (iL (pit 2 0)) (λ_ _ _ _ _=>gD (i:=0) aJb rfl (Or.inl rfl) (Or.inr rfl)) (λ_ _ _ _ _=>eR) (λ_ _ _ _ _=>aT (aA (aT aB) (aA (aT aB) aB)))) (aA aH (aA aH (aA aH aB)))))))) aH (λ_ _=>rfl)))
   (aC (fK (aI cG hr (aA (pv 0) (aA (pv 2) (aA (pv 1) (aA (pv 3) (aA aH (aA aH (aA aH aB)))))))) (fM rfl (bE (aQ (i:=4) gM.nd) (bE (aQ (i:=5) gM.nd) dY))))
   (aC (aK (i:=6) gM.nd (aI cH hr (aA (pv 4) aB)))
   (aC (aK (i:=7) gM.nd (cZ aB))
   (aC (bR AJ rfl (cY rfl T.range (aA (aV bA rfl T.len BO (aA (pv 4) aB)) aB)) (aQ (i:=8) gM.nd)
    (aE (bD (PW.pt (fH (aM cJ (aZ aX (pv 6) (pv 8) (λ_ _=>rfl)) (pv 8)) (eQ (aM cJ (aZ dB (aZ aX (pv 4) (pv 8) (λ_ _=>rfl)) aH (λ_ _=>rfl)) aR))))
     (aC (aK (i:=9) gM.nd (aT (aA aH (aA aH aB))))
     (aC (bR AJ rfl (cY rfl T.range (aA (aV bA rfl T.len BO (aA (pv 4) aB)) aB)) (aQ (i:=10) gM.nd)
      (aE (bD (aM cJ (aZ aX (pv 6) (pv 10) (λ_ _=>rfl)) (pv 8))
       (aE (aK (i:=9) gM.nd (aI cA hr (aA (pv 9) (aA (aZ dB (aZ aX (pv 4) (pv 10) (λ_ _=>rfl)) aH (λ_ _=>rfl)) aB)))))
       aS)))
     (aE (cV (iP Bk Bb Ba bO (pv 7) (aA (aP sX (eS gA (aZ aX (pv 4) (pv 8) (λ_ _=>rfl)) gC (gB aH)) (aT (aA (pv 9) aB))) aB))))))
     (aE (bD (aM cJ (aZ aX (pv 6) (pv 8) (λ_ _=>rfl)) (pv 8))
      (aE (cV (iP Bk Bb Ba bO (pv 7) (aA (aZ aX (pv 4) (pv 8) (λ_ _=>rfl)) aB))))
      aS)))))
   (aC (aK (i:=11) gM.nd (aT (aA (aY bC rfl T.list' dS (aA (pv 3) aB)) (aA (aY bC rfl T.list' dS (aA (pv 4) aB)) aB))))
   (aC (aK (i:=12) gM.nd (aI cT hr (aA (pv 2) (aA (pit 11 0) (aA (pit 11 1) aB)))))
   (aC (bD (PW.pt (mE (aM (xW hr.units) (pv 11) (aT (aA (pv 3) (aA (pv 4) aB)))) (mE (eZ (dX (aV eX rfl T.isi Ei (aA (pv 12) (aA (gE (v:=.ty "list") rfl T.list' dS rfl) aB))))) (jU (aM (xZ hr.units) (pv 12) (pv 7)))))) (aE (aL kJ)) aS)
   (aC (bD (aM (xZ hr.units) (aI cE hr (aA (pv 2) (aA (pv 3) (aA (pv 12) aB)))) (pv 5)) (aE (aL kJ)) aS)
   (aC (cV (iP Bk Bb Ba bO (pv 12) (aA dI aB)))
   (aC (bD (aM (xW hr.units) (pv 11) (aT (aA (pv 3) (aA (pv 4) aB)))) (aE (aL kJ)) aS)
   (aE (aL (dU (aF5 hr.units) (aI cT hr (aA (pv 2) (aA (pv 3) (aA (aY bC rfl T.list' dS (aA (pv 7) aB)) aB)))) (pv 7))))))))))))))))),?_⟩
  refine ⟨_,rfl,sc,ns,0,rfl,hS,by decide,λc00=>⟨c00,rfl,λws wl H1 wlen wnd wwr s1 nwl hwl=>?_⟩⟩;refine ⟨_,rfl,_,rfl,sc,ns,wl,ws,rfl,s1.seq hS,Gw hwl,⟨wlen,wnd,wwr⟩,λb r q rs us ps H2 s2 bn2=>?_⟩;obtain ⟨rbs,rml⟩:=bn2.rm.list;have bs2:BS H2 b r q rs us ps rbs ws:=⟨bn2,rml,⟨wnd,by lia,wwr⟩⟩;have s02:=s1.trans s2;have n16:=bn2.l16;have n1:=bn2.l1;have rsl:=bs2.rm.1;have rp:=bs2.rp;have wv2:WsV H2 wl ws:=⟨s2 _ _ hwl,wlen,wwr⟩;refine ⟨_,rfl,_,rfl,_,rfl,b,_,_,rfl,Gv bs2.bn.hp,rfl,r,rfl,⟨_,Gv bs2.bn.hr⟩,λph nph=>?_⟩;refine hJ (Ys.tup (Gv bs2.bn.hr)) (λ_ _ y H'=>PhA H' 1 y (λ_=>0,[])) (λ_ _ _ _ _ h t=>by obtain ⟨a,m,n,us,ys,e,h1,h2,h3,h4,h5⟩:=h;exact ⟨a,m,n,us,ys,e,t _ _ h1,t _ _ h2,h3.keep t,h4,t _ _ h5⟩) nph (by lia) (λi x H' R hx sm hR=>?_) (λys H3 s3 hph yl hy=>?_)
  ·refine ⟨(Keep.refl _).set rfl,zLn0,λe1 ne1=>⟨zLn0,λe2 ne2=>⟨zLn2,λz nz=>?_⟩⟩⟩
   have t1:=Gu (o:=.tup []) ne1;have t2:=Gu (o:=.tup []) ne2;have t3:=Gu (o:=.tup [.ref e1,.ref e2]) nz;exact hR _ _ ((t1.trans t2).trans t3) ⟨z,e1,e2,[],[],rfl,aD,(t2.trans t3) _ _ aD,.nil,lH,t3 _ _ aD⟩
  have st3:StV H3 ph 1 (Cz rbs.length (λ_=>0,[])):=aHx bs2.rm.1 hph yl hy;have o3:OnIn H3 b r q ph rs us ps rbs ws 1 (Cz rbs.length (λ_=>0,[])) 1:=⟨bs2.keep s3,st3,aE8 rp.1,by decide⟩;have s03:=s02.trans s3;refine ⟨sc,b,wl,ph,r,q,rs,us,ps,rbs,ws,1,_,1,ns,3,9,6,rfl,s03.seq hS,hlen,o3,⟨s3 _ _ wv2.1,wv2.2⟩,by decide,by decide,by decide,by decide,λt0 rl0 l1 rws0 rv0 M1 S1 H4 s4 _ ht0 _ m6 _ _ st4 _ so4=>?_⟩;refine ⟨t0,_,_,.ref l1,rfl,rfl,Gv ht0,rfl,?_⟩;have s24:=s3.trans s4;have b1l:1+14*rws0.length<=85:=by lia
  generalize 1+14*rws0.length=β at so4 b1l;have o4:OnIn H4 b r q l1 rs us ps rbs ws M1 S1 β:=⟨bs2.keep s24,st4,so4,by lia⟩;have s04:=s02.trans s24;refine ⟨_,rfl,_,rfl,_,rfl,_,rfl,sc,b,wl,l1,r,q,rs,us,ps,rbs,ws,M1,S1,β,ns,9,63,40,rfl,s04.seq hS,hlen,o4,⟨s24 _ _ wv2.1,wv2.2⟩,by decide,by decide,by decide,by lia,λt1 rl l2 rws rv M2 S2 H5 s5 nrl ht1 rw5 r40 sms en st5 _ so5=>?_⟩;refine ⟨t1,_,rfl,Gv ht1,rfl,_,_,rfl,_,_,rfl,rfl,?_⟩;have s25:=s24.trans s5;have s05:=s02.trans s25;have o5:=o4.keep s5;have wi5:WIn H5 b r q l1 rl rs us ps rbs ws M1 S1 β rws rv:=⟨o5,rw5,λr hr=>(sms r hr).1,by lia,by have:=SmR.cs sms;lia⟩;have rln:=rw5.ln;refine ⟨_,rfl,rl,rws,rv,rfl,rw5,by lia,λr hr=>aBb (sms r hr).1,λlh hs H6 s6 nlh hlh HI=>?_⟩;have s56:=s6;refine ⟨zLn0,λlw nlw=>?_⟩;have lhw:lh≠lw:=aW hlh nlw;obtain ⟨H7,eH7,t7,hlw0⟩:=updX (o:=.lst []) nlw;rw [eH7];have hlh:=t7 _ _ hlh;have s7:=s6.trans t7;have rw7:=rw5.keep s7;have nlw5:H5 lw=none:=sm0 s6 nlw;have nw:∀ {c:Gj} {o:HO},H5 c=some o->c≠lw:=λh=>aW h nlw5;have rln:=rw5.ln;refine ⟨_,rfl,rl,_,rfl,.inl (Gw rw7.hl),_,rfl,by lia,by lia,?_⟩;have sm7:∀ {H':Hp},(∀ c o,c≠lw->H7 c=some o->H' c=some o)->Same H5 H':=λfx c o h=>fx c o (nw h) (s7 _ _ h);have hsl:=HI.ln;refine dP (λi σ H'=>∃ (wv:Gq) (v8 v9 v10:Gr),σ=[some (.ref sc),some (.ref wl),some (.ref b),some (.ref l1),some (.ref rl),some (.ref l2),some (.ref lh),some (.ref lw),v8,v9,v10,none,none]/\(∀ c o,c≠lw->H7 c=some o->H' c=some o)/\RwsV H' lw ((hds hs i).map (wan rws hs rws.length)) wv) ⟨[],none,none,none,rfl,λ_ _ _ h=>h,⟨hlw0,rfl,λi v r h=>by simp at h⟩⟩ ?_ ?_
  ·intro i σ H8 D' hN hi hh
   obtain ⟨wv,v8,v9,v10,rfl,fx,rw8⟩:=hh;have il:i<rws.length:=by
    have:i<((rv.length:Nat):Int).toNat:=hi;rw [rln] at this;lia
   rw [show (0:Int)+(i:Int)=((i:Nat):Int) by lia];dsimp only [gName];obtain ⟨r0,hr0⟩:∃ r,rws[i]?=some r:=⟨_,Ae il⟩;obtain ⟨v,hv⟩:∃ v,rv[i]?=some v:=⟨_,Ae (by lia)⟩;obtain ⟨hd,hh⟩:∃ hd,hs[i]?=some hd:=⟨_,Ae (by lia)⟩;have s58:=sm7 fx;have rwr:=rw5.keep s58;obtain ⟨_,a,q1,rfl,rva⟩:=rwr.get hv;rw [hr0] at q1;cases q1;obtain ⟨aq,ha,_⟩:=rva.w;have hlh8:=fx _ _ lhw hlh;have wl8:wv.length<=41:=by
    rw [rw8.ln,Ag];have:=List.length_filter_le (λa=>decide (hs[a]?=some a)) (Bf i);rw [List.length_range] at this;have:(hds hs i).length<=i:=this;lia
   have e1:=aC2 (hs:=hs) (n:=i);rw [hh] at e1;refine ⟨_,rfl,_,rfl,lh,_,((i:Nat):Int),_,rfl,rfl,Gw hlh8,aU (kW hh),_,rfl,rfl,_,rfl,ite2 (λc1=>?_) (λc1=>?_)⟩
   ·have c1:hd=i:=by have:=V.int.inj (of_decide_eq_true c1);lia
    subst c1;rw [if_pos rfl] at e1;refine ⟨_,rfl,_,rfl,rl,rv,((hd:Nat):Int),.ref a,rfl,rfl,Gw rwr.hl,aU hv,a,_,0,.str (RwW aq r0).1,rfl,rfl,Gv ha,aU (j:=0) rfl,rfl,_,rfl,?_⟩;rw [pE];cases cd:isD r0 with
    |false=>
     refine iteF ?_;refine ⟨_,rfl,_,rfl,lh,_,((hd:Nat):Int),_,rfl,rfl,Gw hlh8,aU (kW hh),_,rfl,rfl,_,rfl,?_⟩;rw [decide_eq_true (rfl:V.int ((hd:Nat):Int)=V.int ((hd:Nat):Int))];refine iteT ⟨_,rfl,.inl ⟨rfl,_,Gw rw8.hl⟩,_,rfl,_,rfl,rl,rv,((hd:Nat):Int),.ref a,rfl,rfl,Gw rwr.hl,aU hv,lw,wv,.ref a,rfl,rfl,rw8.hl,bP (by lia),hN _ _ ⟨wv++[.ref a],_,_,_,rfl,λc o n h=>by rw [aJ n];exact fx c o n h,?_⟩⟩;rw [e1,AW];have er:wan rws hs rws.length hd=r0:=by
      unfold wan;rw [eA hr0];cases r0<;>first|rfl|cases cd
     show RwsV _ lw (_++[wan rws hs rws.length hd]) _;rw [er];exact rw8.push rva
    |true=>
     refine iteT ⟨zLn2,λm0 nm0=>?_⟩;obtain ⟨H9,eH9,t9,hm0⟩:=updX (o:=.tup [.int 0,.int 1]) nm0;rw [eH9];have s59:=s58.trans t9;refine ⟨_,rfl,rl,_,rfl,.inl (Gw (s59 _ _ rw5.hl)),_,rfl,by lia,by lia,?_⟩;have mem:∀ k,k<rws.length->hs[k]?=some hd->∃ i x t b,rws[k]?=some (.draw i x t b)/\SmR rbs.length ws (.draw i x t b):=λk kl hk=>by
      obtain ⟨rk,hrk⟩:∃ r,rws[k]?=some r:=⟨_,Ae kl⟩;have smk:=sms rk (Ao hrk);obtain ⟨_,_,z⟩:=HI.lt k hd hk
      rcases z with z|z
      ·subst z
       rw [hr0] at hrk;cases hrk;cases r0 with
       |draw i x t b=>exact ⟨i,x,t,b,hr0,smk⟩
       |_=>cases cd
      ·rw [eA hr0,eA hrk] at z
       cases r0<;>cases rk<;>first|exact Cj z|exact ⟨_,_,_,_,hrk,smk⟩
     refine dP (λk σ H'=>∃ (m:Gj) (v10:Gr),σ=[some (.ref sc),some (.ref wl),some (.ref b),some (.ref l1),some (.ref rl),some (.ref l2),some (.ref lh),some (.ref lw),some (.int ((hd:Nat):Int)),some (.ref m),v10,none,none]/\Same H9 H'/\H' m=some (.tup [.int (smA rws hs hd k).1,.int (smA rws hs hd k).2])) ⟨m0,_,rfl,Same.refl _,hm0⟩ ?_ ?_
     ·intro k' σ HA D2 hN2 hk2 hh2
      obtain ⟨m,v10',rfl,sA,hm⟩:=hh2;have kl:k'<rws.length:=by
       have:k'<((rv.length:Nat):Int).toNat:=hk2;rw [rln] at this;lia
      rw [show (0:Int)+(k':Int)=((k':Nat):Int) by lia];dsimp only [gName];obtain ⟨hk,hhk⟩:∃ x,hs[k']?=some x:=⟨_,Ae (by lia)⟩;have hlhA:=sA _ _ (t9 _ _ hlh8);refine ⟨_,rfl,_,rfl,lh,_,((k':Nat):Int),_,rfl,rfl,Gw hlhA,aU (kW hhk),_,rfl,rfl,_,rfl,ite2 (λc=>?_) (λc=>hN2 _ _ ⟨m,_,rfl,sA,?_⟩)⟩
      ·have c:hk=hd:=by have:=V.int.inj (of_decide_eq_true c);lia
       subst c;obtain ⟨i2,x2,t2,b2,hrk,smk⟩:=mem k' kl hhk;obtain ⟨am,bt,bb⟩:=aDp (rws:=rws) (hs:=hs) (a:=hk) (n:=k') (by lia) λj hj=>mem j (by lia);obtain ⟨v2,hv2⟩:∃ v,rv[k']?=some v:=⟨_,Ae (by lia)⟩;have rwA:=rw5.keep (s59.trans sA);obtain ⟨_,c2,q1,rfl,rvc⟩:=rwA.get hv2;rw [hrk] at q1;cases q1;obtain ⟨cq,hc,hcq⟩:=rvc;have ra:=smk.1.2.2.1;refine ⟨_,rfl,_,rfl,_,rfl,rl,rv,((k':Nat):Int),.ref c2,rfl,rfl,Gw rwA.hl,aU hv2,c2,_,3,.ref cq,rfl,rfl,Gv hc,rfl,m,cq,_,_,t2,b2,rfl,⟨Gv hm,Gv hcq,am,ra.am,bt.mono (by lia),bb.mono (by lia),ra.bt.mono,ra.bb.mono⟩,λp HB sB hp=>hN2 _ _ ⟨p,_,rfl,sA.trans sB,?_⟩⟩;have e:smA rws hs hk (k'+1)=BQ.add (smA rws hs hk k') (t2,b2):=by
        show (if _ then _ else _)=_;rw [if_pos hhk,eA hrk];rfl
       rw [e];exact hp
      ·have e:smA rws hs hd (k'+1)=smA rws hs hd k':=if_neg λz=>c (decide_eq_true (by rw [hhk] at z;rw [AA z]))
       rw [e];exact hm
     ·intro σ HA hh2
      obtain ⟨m,v10',rfl,sA,hm⟩:=hh2;rw [show ((rv.length:Nat):Int).toNat=rws.length by lia] at hm;have s9A:=t9.trans sA;refine ⟨_,rfl,.inl ⟨rfl,_,Gw (s9A _ _ rw8.hl)⟩,_,rfl,_,rfl,rl,rv,((hd:Nat):Int),.ref a,rfl,rfl,Gw (s9A _ _ rwr.hl),aU hv,_,rfl,a,_,rfl,s9A _ _ ha,λp1 HB sB hp1=>⟨_,rfl,zLn1,λz nz=>?_⟩⟩;rw [aGy] at hp1;obtain ⟨HC,eHC,tz,hz⟩:=updX (o:=.tup [.ref m]) nz;rw [eHC];have hp1:=tz _ _ hp1;cases r0 with
      |draw ii x t b'=>
       refine ⟨p1,z,_,_,rfl,rfl,Gv hp1,hz,by simp,by show 3+1<=Av;decide,λp8 HD sD hp8=>?_⟩;have s8D:=((s9A.trans sB).trans tz).trans sD;have rwD:=rw8.keep s8D;refine ⟨lw,wv,.ref p8,rfl,rfl,rwD.hl,bP (by lia),hN _ _ ⟨wv++[.ref p8],_,_,_,rfl,λc o n h=>by rw [aJ n];exact s8D _ _ (fx c o n h),?_⟩⟩;rw [e1,AW];have er:wan rws hs rws.length hd=dr ii x (smA rws hs hd rws.length):=by
        unfold wan;rw [eA hr0];rfl
       show RwsV _ lw (_++[wan rws hs rws.length hd]) _;rw [er];exact rwD.push (r:=dr ii x (smA rws hs hd rws.length)) ⟨m,hp8,((sB.trans tz).trans sD) _ _ hm⟩
      |_=>cases cd
   ·have c1:hd≠i:=λz=>c1 (decide_eq_true (by rw [z]))
    rw [if_neg (λz=>c1 (AA z)),Cc] at e1;refine ⟨_,rfl,_,rfl,lh,_,((i:Nat):Int),_,rfl,rfl,Gw hlh8,aU (kW hh),_,rfl,rfl,_,rfl,?_⟩;rw [decide_eq_false (λz=>c1 (by have:=V.int.inj z;lia):¬ V.int ((hd:Nat):Int)=V.int ((i:Nat):Int))];exact iteF (hN _ _ ⟨wv,_,_,_,rfl,fx,by rw [e1];exact rw8⟩)
  ·intro σ' H8' hh
   obtain ⟨wv,v8,v9,v10,rfl,fx,rwW⟩:=hh;rw [show ((rv.length:Nat):Int).toNat=rws.length by lia] at rwW;have eW:(hds hs rws.length).map (wan rws hs rws.length)=(gat rws).1:=by
    have:=HI.g;rw [AN] at this;exact this.symm
   rw [eW] at rwW;have s58':=sm7 fx;clear fx;have gi:=GI.all (us:=us) (ps:=ps) (rbs:=rbs) (show rws.length<=41 by lia) sms rws.length (Aj _);rw [AN] at gi;have pt:=o5.bs.bn.pt;obtain ⟨M3,S3,en3,ev3⟩:=aDa (H:=H5) pt (λi rb h=>by have:=(o5.bs.rm.at h).b1;lia) so4 (show rws.length<=41 by lia) sms so5.m0 en;have so3:=en3.sok rp.2 so4 (λr hr=>(gi.gd r hr).1) M3 S3 rfl;have gg:=aAa _ rws rfl;have csl:=SmR.cs sms;have ag1:∀ i,i<=rws.length->∀ q∈(gat (rws.take i)).1,AmB q:=λi hi q hq=>.of ((GI.all (us:=us) (ps:=ps) (rbs:=rbs) (show rws.length<=41 by lia) sms i hi).gd q hq).1;have ag2:∀ i,i<=(gat rws).1.length->∀ q∈(gat ((gat rws).1.take i)).1,AmB q:=λi hi=>aGz (l:=(gat rws).2) gg (λr hr=>(gi.gd r hr).1) hi;have Wl:=gi.ln;obtain ⟨vs1,hl1,_⟩:=o5.st.ex;have hl1':=s58' _ _ hl1;have hrl':=s58' _ _ rw5.hl;refine ⟨_,rfl,l1,_,rfl,.inl (Gw hl1'),λh1 nh1=>?_⟩;obtain ⟨H6',eH6',t6,hh1⟩:=updX (o:=.lst vs1) nh1;rw [eH6'];refine ⟨_,rfl,rl,_,rfl,.inl (Gw (t6 _ _ hrl')),λh2 nh2=>?_⟩;obtain ⟨H7',eH7',t7',hh2⟩:=updX (o:=.lst rv) nh2;rw [eH7'];have hh1:=t7' _ _ hh1;refine ⟨zLn2,λth nth=>?_⟩;obtain ⟨H8,eH8,t8,hth⟩:=updX (o:=.tup [.ref h1,.ref h2]) nth;rw [eH8];have hh1:=t8 _ _ hh1;have hh2:=t8 _ _ hh2;have sW:=(t6.trans t7').trans t8;have rwW:=rwW.keep sW;have s8:=s58'.trans sW;have wi8:WIn H8 b r q h1 h2 rs us ps rbs ws M1 S1 β rws rv:=⟨⟨o5.bs.keep s8,o5.st.copy hl1 s8 hh1,o5.so,o5.b24⟩,rw5.copy s8 hh2,λr hr=>(sms r hr).1,by lia,by lia⟩;refine ⟨_,rfl,th,_,_,rfl,Gv hth,rfl,th,_,_,rfl,Gv hth,rfl,b,r,q,h1,h2,rs,us,ps,rbs,ws,M1,S1,β,rws,rv,M2,S2,rfl,wi8,en,λr hr=>.of (sms r hr).1,ag1,λxa fv H9 s9 nxa rwx=>?_⟩;have hl1':=s8 _ _ hl1;have hrl':=s8 _ _ rw5.hl;have sf1:=o5.st.sf hl1;have sf2:=rw5.sf;refine ⟨_,rfl,_,rfl,_,rfl,zLn2,λu nu=>?_⟩;obtain ⟨HA,eHA,t10,hu⟩:=updX (o:=.tup [.ref l1,.ref rl]) nu;rw [eHA];have rwx:=rwx.keep t10;have s8A:=s9.trans t10;refine ⟨th,u,h1,h2,l1,rl,vs1,rv,rfl,rfl,Gv (s8A _ _ hth),Gv hu,Gw (s8A _ _ hh1),Gw (s8A _ _ hl1'),Gw (s8A _ _ hh2),Gw (s8A _ _ hrl'),sf1,sf2,_,rfl,iteF ?_⟩;have rwWA:=rwW.keep s8A;refine ⟨_,rfl,_,"list",true,rfl,.lst_list (Gw rwx.hl),_,rfl,iteF ⟨_,rfl,_,rfl,xa,lw,_,_,_,rfl,rfl,Gw rwx.hl,Gw rwWA.hl,rwx.dl,rwWA.dl,_,rfl,iteF ?_⟩⟩;have s5A:=s8.trans s8A;have wiA:WIn HA b r q l1 xa rs us ps rbs ws M1 S1 β (gat rws).1 fv:=⟨o5.keep s5A,rwx,λr hr=>(gi.gd r hr).1,by lia,by have:=gi.cs';lia⟩;refine ⟨_,rfl,_,rfl,_,rfl,b,r,q,l1,xa,rs,us,ps,rbs,ws,M1,S1,β,_,fv,_,rfl,wiA,en3,?_,λh=>by cases h⟩;intro M' S' eo le HB sB stB _;cases eo;have s5B:=s5A.trans sB;obtain ⟨w1,w2,es,b1,b2,b3,b4⟩:=StV.same (K:=K) so5.m0 (stB.val so3.m0 so5.m0 ev3) (st5.keep s5B);refine ⟨_,rfl,le,l2,w1,w2,es,rfl,rfl,Gw b1,Gw b2,b3,b4,_,rfl,iteF ?_⟩;have s8B:=s8A.trans sB;have rwxB:=rwx.keep sB;refine ⟨_,rfl,.inl ⟨rfl,_,Gw rwxB.hl⟩,xa,_,_,rfl,rfl,rwxB.hl,bP (by have:=rwxB.ln;lia),?_⟩;have fixd:Same H8 (upd HB xa (.lst (fv++[.non]))):=λc o h=>by
    rw [aJ (aW h nxa)];exact s8B _ _ h
   generalize upd HB xa (.lst (fv++[.non]))=HC at fixd ⊢;refine ⟨_,rfl,_,rfl,_,rfl,zLn2,λu2 nu2=>?_⟩;obtain ⟨HD,eHD,t11,hu2⟩:=updX (o:=.tup [.ref l1,.ref rl]) nu2;rw [eHD];have s8D:=fixd.trans t11;refine ⟨th,u2,h1,h2,l1,rl,vs1,rv,rfl,rfl,Gv (s8D _ _ hth),Gv hu2,Gw (s8D _ _ hh1),Gw (s8D _ _ hl1'),Gw (s8D _ _ hh2),Gw (s8D _ _ hrl'),sf1,sf2,_,rfl,iteF ?_⟩;have rwWD:=rwW.keep s8D;refine ⟨_,rfl,_,rfl,_,rfl,lw,_,rfl,.inl (Gw rwWD.hl),λp np=>?_⟩;obtain ⟨HE,eHE,t12,hp⟩:=updX (o:=.lst wv) np;rw [eHE];have s8E:=s8D.trans t12;have rwP:=rwWD.copy t12 hp;have rwWE:=rwWD.keep t12;have wiE:WIn HE b r q l1 p rs us ps rbs ws M1 S1 β (gat rws).1 wv:=⟨o5.keep (s8.trans s8E),rwP,λr hr=>(gi.gd r hr).1,by lia,by have:=gi.cs';lia⟩;refine ⟨b,r,q,l1,p,rs,us,ps,rbs,ws,M1,S1,β,_,wv,M3,S3,rfl,wiE,en3,λr hr=>.of (gi.gd r hr).1,ag2,λl9 v9' HF sF nl9 rwF=>?_⟩;rw [gg] at rwF;have rwWF:=rwWE.keep sF;exact ⟨_,rfl,l9,lw,_,_,_,rfl,rfl,Gw rwF.hl,Gw rwWF.hl,rwF.dl,rwWF.dl,k _⟩
end
end K53
namespace L2
def AllN:Nat->(Gi->Prop)->Prop
 |0,p=>p []
 |n+1,p=>∀ a,AllN n λus=>p (a::us)
theorem allN:∀ {n:Nat} {p:Gi->Prop},AllN n p->∀ us:Gi,us.length=n->p us
 |0,_,h,[],_=>h
 |_+1,_,h,a::us,e=>allN (h a) us (Nat.succ.inj e)
def allS {x:Str}{xs:Gh}{p:Gi->Prop}(h:∀ a,AllN xs.length λus=>p (a::us)):AllN (x::xs).length p:=h
def allZ {p:Gi->Prop}(h:p []):AllN ([]:Gh).length p:=h
def noMem {α:Type}{p:α->Prop}:∀ x∈([]:List α),p x:=λ_ h=>nomatch h
section
variable {P:Aw}{w:World}{K:Ab}{mg:Gb}{base h:Heap}{CX:CXT}{k:Nat}{C f:Gj}{x q:Str}{st:Stmt}{ps:Gh}{sp:Sp}{oc kV doc pm cdv ct:Gk}{od an:Option Gj}{osl:Array (Option Gk)}
structure FnB (K:Ab)(x q:Str)(st:Stmt)(ps:Gh)(f:Gj):Prop where
 ex:∃ fd:Ay,Fun K x q st f fd/\∀ us:Gi,us.length=ps.length->bindArgs fd ⟨us,[]⟩=pure (ps.zip us)
def fnB (l:K.lookup f=some ⟨oc,od,.func (Dm x q (eV st) (dQ st) (aG st) .none kV doc pm an cdv ct),osl⟩)(c:EI K cdv q=true)(k:CW K (.ref f)=true)
  (hb:AllN ps.length λus=>bindArgs (Dm x q (eV st) (dQ st) (aG st) .none kV doc pm an cdv ct) ⟨us,[]⟩=pure (ps.zip us)):FnB K x q st ps f:=
 ⟨_,aJp (st:=st) l c k,allN hb⟩
def FnB.ok (D:FnB K x q st ps f):∃ fd:Ay,Fun K x q st f fd/\Binds K fd ps []:=by
 obtain ⟨fd,F,b⟩:=D.ex;exact ⟨fd,F,.all b⟩
structure Dn (K:Ab)(x:Str)(st:Stmt)(ps:Gh):Prop where
 ex:∃ f:Gj,AL K AF x=some (some (.ref f))/\FnB K x x st ps f
def dnB (a:AL K AF x=some (some (.ref f)))(l:K.lookup f=some ⟨oc,od,.func (Dm x x (eV st) (dQ st) (aG st) .none kV doc pm an cdv ct),osl⟩)(c:EI K cdv x=true)(k:CW K (.ref f)=true)
  (hb:AllN ps.length λus=>bindArgs (Dm x x (eV st) (dQ st) (aG st) .none kV doc pm an cdv ct) ⟨us,[]⟩=pure (ps.zip us)):Dn K x st ps:=⟨f,a,fnB l c k hb⟩
def Dn.cal (D:Dn K x st ps)(X:K.In h)(G:h.Ns AF mg)(ok:∀ {f:Gj} {fd:Ay},Fun K x x st f fd->FnOk P w K mg base CX k f fd ps sp):Cal P w K mg base CX k x ps sp:=by
 obtain ⟨f,a,D⟩:=D.ex;obtain ⟨fd,F,b⟩:=D.ok;exact ⟨f,fd,Bp X G a,F.kp,b,ok F⟩
structure MDn (K:Ab)(C:Gj)(m q:Str)(st:Stmt)(ps:Gh):Prop where
 ex:∃ f:Gj,Meth K C m f/\FnB K m q st ps f
def mdnB (a:BZ K (.ref C) x=some (some (.ref f)))(i:PySem.W.isFn K (.ref f)=true)(l:K.lookup f=some ⟨oc,od,.func (Dm x q (eV st) (dQ st) (aG st) .none kV doc pm an cdv ct),osl⟩)(c:EI K cdv q=true)(k:CW K (.ref f)=true)
  (hb:AllN ps.length λus=>bindArgs (Dm x q (eV st) (dQ st) (aG st) .none kV doc pm an cdv ct) ⟨us,[]⟩=pure (ps.zip us)):MDn K C x q st ps:=⟨f,⟨a,i,k⟩,fnB l c k hb⟩
def MDn.cal (D:MDn K C x q st ps)(ok:∀ {f:Gj} {fd:Ay},Fun K x q st f fd->FnOk P w K mg base CX k f fd ps sp):MCal P w K mg base CX k C x ps sp:=by
 obtain ⟨f,hm,D⟩:=D.ex;obtain ⟨fd,F,b⟩:=D.ok;exact ⟨f,fd,hm,b,ok F⟩
def TopT (K:Ab)(x:Str)(i j:Int)(a:Gj):Prop:=AL K AF x=some (some (.ref a))/\∀ H:Hp,SqT K H a [.int i,.int j]
def aK6 {fa:Gj}(X:K.In h)(G:h.Ns AF mg)(hfa:mg x=some (.ref fa))(D:Dn K x st ["_law_script"])(ok:∀ {f:Gj} {fd:Ay} {base:Heap},Fun K x x st f fd->FnOk P w K mg base CX k f fd ["_law_script"] sp) :
  ∃ fd:Ay,(∀ (s:Gm) (v:Gk),BindsTo s fd ⟨[v],[]⟩ [("_law_script",v)])/\∀ base:Heap,K.In base->base.Ns AF mg->FnOk P w K mg base CX k fa fd ["_law_script"] sp:=by
 obtain ⟨f,a,fd,F,b⟩:=D.ex;have e:=hfa.symm.trans (Bp X G a);cases e;exact ⟨fd,λs v=>.of_eq (b [v] rfl),λbase _ _=>ok F⟩
def topS {a:Gj}{its:Array Gk}{n:Nat}{xs:Gq}(l:K.lookup a=some ⟨.type "tuple",od,.seq its n,osl⟩)(hl:its.size<=9/\Vals xs its.toList):∀ H:Hp,SqT K H a xs:=
 λ_=>.inr ⟨_,_,_,l,rfl,rfl,Bj hl.1 (by decide),hl.2⟩
def ClsB (K:Ab)(nm:Str)(fs:Gh)(qI qO:Str)(sI sO:Stmt)(ps:Gh)(C:Gj):Prop:=
 AL K AF nm=some (some (.ref C))/\(∀ f∈fs,NoAttr K C f)/\Cls K C/\PySem.W.makesIn K C=true/\CW K (.ref C)=true/\MDn K C "__init__" qI sI ps/\MDn K C "onto_at" qO sO ["self","bench","phials","place"]
def ErC (K:Ab)(cP c f:Gj)(nm q:Str)(st:Stmt)(fs:Gh):Prop:=
 AL K AF nm=some (some (.ref c))/\(∃ (od:Option Gj) (cd:ClassData) (sl:Array (Option Gk)),K.lookup c=some ⟨.type "type",od,.cls cd,sl⟩/\AL K cd.ns "__init__" = some (some (.ref f))) /\
  (∀ x∈fs,ExF K c cP f x)/\PySem.W.subIn K (.ref c) (.ref cP)=some true/\FnB K "__init__" q st ("self" :: fs) f
def exC {c f:Gj}{sl:Array (Option Gk)}{cd:ClassData}(l:K.lookup c=some ⟨.type "type",od,.cls cd,sl⟩)(n:AL K cd.ns "__init__" = some (some (.ref f))) :
  ∃ (od:Option Gj) (cd:ClassData) (sl:Array (Option Gk)),K.lookup c=some ⟨.type "type",od,.cls cd,sl⟩/\AL K cd.ns "__init__" = some (some (.ref f)):=⟨_,_,_,l,n⟩
def refOf:Gk->Option Gj
 |.ref a=>some a
 |_=>none
def aK7 {a:Gj}{es:Array DictEntry}{n:Nat}(lo:(a==DM)=false)(l:K.lookup a=some ⟨.type "dict",none,.dict es n,#[]⟩)(k:PySem.W.KeysLit w.params es.toList)(r:∀ e∈es.toList,(refOf e.val).isSome=true) :
  KDict w K a λx=>(findBy Fg es x).bind refOf:=by
 refine ⟨lo,es,n,l,k,λx=>?_⟩;cases e:findBy Fg es x with
 |none=>rfl
 |some v=>
  unfold findBy at e;obtain ⟨d,hd,rfl⟩:=Bg.mp e;have:=r d (Array.mem_toList_iff.mpr (Array.mem_of_find?_eq_some hd));show some d.val=(refOf d.val).map AD;cases hv:d.val<;>rw [hv] at this<;>first|rfl|exact absurd this (by simp [refOf])
end
end L2
namespace K53
open L2 GM TM
inductive AllD (w:World)(K:Ab)(aN aO cP c0 c1 c2 c3 c4 f0 f1 f2 f3 f4 aF a0 a1 a2 a3 a4 CD CF CP CE CR:Gj)(h0 h1 h2 h3 h4:Int)(t0 t1 t2 t3 t4 tM tL:Tok)(sz:Nat):Prop
 |mk (d:Dn K "law" sLaw ["_law_script"])
  (d0:Dn K "common_divisor" sGcd ["one","other"])
  (d1:Dn K "_law_cell_at" aFr ["_law_script","_law_k"])
  (d2:Dn K "_law_mixed" xA ["_law_cell","_law_k"])
  (d3:Dn K "_law_lowest" qA ["_law_top","_law_bottom"])
  (d4:Dn K "_law_digit" xF ["_law_left","_law_many"])
  (d5:Dn K "_law_few" aFj ["_law_number"])
  (d6:Dn K "_law_names" wZ ["_law_left"])
  (d7:Dn K "_law_wares" jR ["_law_cell"])
  (d8:Dn K "_law_free_bench" aFq ["_law_script","_law_wares_here"])
  (d9:Dn K "_law_small" xG ["_law_script","_law_wares_here"])
  (d10:Dn K "is_ware" qB ["thing"])
  (d11:Dn K "lowest_terms" sLow ["top","bottom"])
  (d12:Dn K "plus" aFh ["one","other"])
  (d13:Dn K "whole" pS ["one"])
  (d14:Dn K "mixture" gO ["pairs"])
  (d15:Dn K "times" wW ["one","other"])
  (d16:Dn K "together" jS ["one","other"])
  (d17:Dn K "less" aFk ["one","other"])
  (d18:Dn K "minus" xB ["one","other"])
  (d19:Dn K "_law_add" sAdd ["_law_one","_law_other"])
  (d20:Dn K "_law_take" aFg ["_law_one","_law_other"])
  (d21:Dn K "_law_by" sBy ["_law_one","_law_other"])
  (d22:Dn K "_law_under" wV ["_law_one","_law_other"])
  (d23:Dn K "pair_in" pV ["bench","names"])
  (d24:Dn K "is_whole_number" aFl ["thing"])
  (d25:Dn K "is_amount" aFm ["thing"])
  (d26:Dn K "is_of_kind" pW ["bench","kind","thing"])
  (d27:Dn K "is_row" nO ["bench","row"])
  (d28:Dn K "deed_at" qE ["bench","row","place"])
  (d29:Dn K "with_phial" pR ["phials","phial","holds","names"])
  (d30:Dn K "with_more" jQ ["bench","phials","phial","comes","names","place"])
  (d31:Dn K "_law_sum" sSum ["_law_held"])
  (d32:Dn K "_law_into" aFn ["_law_bench","_law_state","_law_phial","_law_more","_law_names_here"])
  (d33:Dn K "_law_poured" pU ["_law_bench","_law_state","_law_row_here"])
  (d34:Dn K "_law_after" xH ["_law_bench","_law_state","_law_row_here"])
  (d35:Dn K "done_at" qD ["bench","phials","row","place"])
  (d36:Dn K "_law_free_row" mC ["_law_bench","_law_wares_here","_law_left"])
  (d37:Dn K "_law_row" sRow ["_law_bench","_law_wares_here","_law_script","_law_k"])
  (d38:Dn K "walked" pT ["bench","phials","rows"])
  (d39:Dn K "_law_goes_on" qC ["_law_script","_law_bench","_law_wares_here","_law_state","_law_start","_law_last","_law_most"])
  (d40:Dn K "_law_end" sEnd ["_law_bench","_law_state","_law_rows"])
  (d41:Dn K "phials_named" aFi ["row"])
  (d42:Dn K "_law_named" pZ ["_law_row_here"])
  (d43:Dn K "gathered_rows" aFp ["rows"])
  (d44:Dn K "gathered" aFo ["bench","phials","rows"])
  (d45:Dn K "_law_before" qF ["_law_rows","_law_at"])
  (d46:Dn K "_law_heads" xE ["_law_rows"])
  (d47:Dn K "law" sLaw ["_law_script"])
  (z0:AL K AF "isinstance" = some none)
  (z1:AL K AF "int" = some none)
  (z2:AL K AF "bool" = some none)
  (z3:AL K AF "tuple" = some none)
  (z4:AL K AF "str" = some none)
  (z5:AL K AF "len" = some none)
  (z6:AL K AF "range" = some none)
  (z7:AL K AF "min" = some none)
  (z8:AL K AF "max" = some none)
  (z9:AL K AF "abs" = some none)
  (z10:AL K AF "list" = some none)
  (z11:AL K AF "sorted" = some none)
  (z12:AL K AF "zip" = some none)
  (z13:AL K AF "set" = some none)
  (z14:AL K AF "all" = some none)
  (z15:AL K AF "enumerate" = some none)
  (z16:AL K AF "ValueError" = some none)
  (z17:AL K AF "dict" = some none)
  (z18:AL K AF "reversed" = some none)
  (tN:TopT K "NOUGHT" 0 1 aN)
  (tO:TopT K "ONE" 1 1 aO)
  (nP:AL K AF "PhialError" = some (some (.ref cP)))
  (ct:CtK K cP)
  (bi:BaseI K cP)
  (yn0:ErC K cP c0 f0 "Dry" "Dry.__init__" sE0 ["place","phial"])
  (yn1:ErC K cP c1 f1 "Low" "Low.__init__" sE1 ["place","phial"])
  (yn2:ErC K cP c2 f2 "Wet" "Wet.__init__" sE2 ["place","phial"])
  (yn3:ErC K cP c3 f3 "Spilt" "Spilt.__init__" sE3 ["place","phial","over"])
  (yn4:ErC K cP c4 f4 "Touch" "Touch.__init__" sE4 ["place","phial","pair"])
  (nF:AL K AF "FORMS" = some (some (.ref aF)))
  (lF:(aF==DM)=false)
  (dF:K.lookup aF=some ⟨.type "dict",none,.dict #[⟨h0,.str "draw" t0,.ref a0⟩,⟨h1,.str "fill" t1,.ref a1⟩,⟨h2,.str "pour" t2,.ref a2⟩,⟨h3,.str "empty" t3,.ref a3⟩,⟨h4,.str "rinse" t4,.ref a4⟩] sz,#[]⟩)
  (kF:PySem.W.KeysLit w.params ([⟨h0,.str "draw" t0,.ref a0⟩,⟨h1,.str "fill" t1,.ref a1⟩,⟨h2,.str "pour" t2,.ref a2⟩,⟨h3,.str "empty" t3,.ref a3⟩,⟨h4,.str "rinse" t4,.ref a4⟩]:List DictEntry))
  (sF0:∀ H:Hp,SqT K H a0 [.str "phial",.str "ware",.str "amount"])
  (sF1:∀ H:Hp,SqT K H a1 [.str "phial",.str "ware",.str "level"])
  (sF2:∀ H:Hp,SqT K H a2 [.str "phial",.str "phial",.str "part"])
  (sF3:∀ H:Hp,SqT K H a3 [.str "phial"])
  (sF4:∀ H:Hp,SqT K H a4 [.str "phial"])
  (ynCD:ClsB K "Draw" ["phial","ware","amount"] "Draw.__init__" "Draw.onto_at" aDt wY ["self","phial","ware","amount"] CD)
  (ynCF:ClsB K "Fill" ["phial","ware","level"] "Fill.__init__" "Fill.onto_at" aDs wX ["self","phial","ware","level"] CF)
  (ynCP:ClsB K "Pour" ["one","other","part"] "Pour.__init__" "Pour.onto_at" aDr jT ["self","one","other","part"] CP)
  (ynCE:ClsB K "Empty" ["phial"] "Empty.__init__" "Empty.onto_at" xD pY ["self","phial"] CE)
  (ynCR:ClsB K "Rinse" ["phial"] "Rinse.__init__" "Rinse.onto_at" xC pX ["self","phial"] CR)
  (mM:AL K AF "MOST_LETTERS" = some (some (.int 8 tM)))
  (mL:AL K AF "LETTERS" = some (some (.str LET tL))):AllD w K aN aO cP c0 c1 c2 c3 c4 f0 f1 f2 f3 f4 aF a0 a1 a2 a3 a4 CD CF CP CE CR h0 h1 h2 h3 h4 t0 t1 t2 t3 t4 tM tL sz
def aJi {P:Aw}{w:World}{K:Ab}{mg:Gb}{base h:Heap}{f:Gj}{fd:Ay}{aN aO cP c0 c1 c2 c3 c4 f0 f1 f2 f3 f4 aF a0 a1 a2 a3 a4 CD CF CP CE CR:Gj}{h0 h1 h2 h3 h4:Int}{t0 t1 t2 t3 t4 tM tL:Tok}{sz:Nat}(X:K.In h)(G:h.Ns AF mg)(A:AllD w K aN aO cP c0 c1 c2 c3 c4 f0 f1 f2 f3 f4 aF a0 a1 a2 a3 a4 CD CF CP CE CR h0 h1 h2 h3 h4 t0 t1 t2 t3 t4 tM tL sz)(F:Fun K "law" "law" sLaw f fd):FnOk P w K mg base CX0 11 f fd ["_law_script"] (spLaw K):=by
 obtain ⟨_,d0,d1,d2,d3,d4,d5,d6,d7,d8,d9,d10,d11,d12,d13,d14,d15,d16,d17,d18,d19,d20,d21,d22,d23,d24,d25,d26,d27,d28,d29,d30,d31,d32,d33,d34,d35,d36,d37,d38,d39,d40,d41,d42,d43,d44,d45,d46,d47,z0,z1,z2,z3,z4,z5,z6,z7,z8,z9,z10,z11,z12,z13,z14,z15,z16,z17,z18,tN,tO,nP,ct,bi,⟨n0,_,x0,s0,g0⟩,⟨n1,_,x1,s1,g1⟩,⟨n2,_,x2,s2,g2⟩,⟨n3,_,x3,s3,g3⟩,⟨n4,_,x4,s4,g4⟩,nF,lF,dF,kF,sF0,sF1,sF2,sF3,sF4,⟨nCD,aCD,lCD,kCD,pCD,iCD,oCD⟩,⟨nCF,aCF,lCF,kCF,pCF,iCF,oCF⟩,⟨nCP,aCP,lCP,kCP,pCP,iCP,oCP⟩,⟨nCE,aCE,lCE,kCE,pCE,iCE,oCE⟩,⟨nCR,aCR,lCR,kCR,pCR,iCR,oCR⟩,mM,mL⟩:=A;have T:Txt mg:=⟨AM X G z0,AM X G z1,AM X G z2,AM X G z3,AM X G z4,AM X G z5,AM X G z6,AM X G z7,AM X G z8,AM X G z9,AM X G z10,AM X G z11,AM X G z12,AM X G z13,AM X G z14,AM X G z15,AM X G z16,AM X G z17,AM X G z18⟩;have R:ErB K mg cP c0 c1 c2 c3 c4 f0 f1 f2 f3 f4:=⟨ct,bi,(Bp X G nP),⟨x0,s0⟩,⟨x1,s1⟩,⟨x2,s2⟩,⟨x3,s3⟩,⟨x4,s4⟩,(Bp X G n0),(Bp X G n1),(Bp X G n2),(Bp X G n3),(Bp X G n4)⟩;obtain ⟨fd0,F0,b0⟩:=g0.ok;have e0:=aK1 (P:=P) (w:=w) (base:=base) F0 R;obtain ⟨fd1,F1,b1⟩:=g1.ok;have e1:=aK0 (P:=P) (w:=w) (base:=base) F1 R;obtain ⟨fd2,F2,b2⟩:=g2.ok;have e2:=aKz (P:=P) (w:=w) (base:=base) F2 R;obtain ⟨fd3,F3,b3⟩:=g3.ok;have e3:=aKy (P:=P) (w:=w) (base:=base) F3 R;obtain ⟨fd4,F4,b4⟩:=g4.ok;have e4:=aKx (P:=P) (w:=w) (base:=base) F4 R;have FK:FormsK w K mg aF _:=⟨aK7 lF dF kF (by simp [refOf]),(Bp X G nF),BI.mpr ⟨⟨a0,rfl,sF0⟩,BI.mpr ⟨⟨a1,rfl,sF1⟩,BI.mpr ⟨⟨a2,rfl,sF2⟩,BI.mpr ⟨⟨a3,rfl,sF3⟩,BI.mpr ⟨⟨a4,rfl,sF4⟩,λ_ h=>nomatch h⟩⟩⟩⟩⟩⟩;have C:∀ {CX:CXT} {k:Nat} {x:Str} {st:Stmt} {ps:Gh} {sp:Sp},Dn K x st ps->(∀ {f:Gj} {fd:Ay},Fun K x x st f fd->FnOk P w K mg base CX k f fd ps sp)->Cal P w K mg base CX k x ps sp:=λD ok=>D.cal X G ok;have k0:=C d0 aI5;have k1:=C d1 λF=>aGk F T;have k2:=C d2 aCl;have k3:=C d3 yO;have k4:=C d4 aCs;have k5:=C d5 λF=>aI6 F k3;have k6:=C d6 λF=>aCj F T k4;have k7:=C d7 λF=>aCc F T k6 k2.mono;have k8:=C d8 λF=>aGj F T k1 k4 k3;have k9:=C d9 λF=>aCf F T k1.mono k8 k2.mono;have k10:=C d10 λF=>yP F T (Bp X G mM) (Bp X G mL);have k11:=C d11 λF=>aI3 F k0;have k12:=C d12 λF=>aF9 F (Bp X G tN.1) tN.2 k11;have k13:=C d13 λF=>yH F (Bp X G tN.1) tN.2 k12;have k14:=C d14 λF=>uX F T (Bp X G tN.1) tN.2 k12;have k15:=C d15 λF=>aCe F k11;have k16:=C d16 λF=>qJ F T k14;have k17:=C d17 aGc;have k18:=C d18 λF=>aCm F k17.mono k11;have k19:=C d19 λF=>aI8 F k3;have k20:=C d20 λF=>aF8 F k3;have k21:=C d21 λF=>aK2 F k3;have k22:=C d22 aCd;have k23:=C d23 yK;have k24:=C d24 λF=>aGd F T;have k25:=C d25 λF=>aGe F T k24 k0;have k26:=C d26 λF=>yM F T (Bp X G tN.1) tN.2 (Bp X G tO.1) tO.2 k24.mono k10.mono k25 k17.mono;have k27:=C d27 λF=>aCn F T FK k26;obtain ⟨fICD,mICD,DICD⟩:=iCD.ex;obtain ⟨dICD,FICD,bICD⟩:=DICD.ok;have MCD:MkD P w K mg base CD "Draw" ["self","phial","ware","amount"] (kZ CD "phial" "ware" "amount"):=⟨_,_,⟨kCD,mICD.at_,mICD.fn,pCD⟩,(aCq FICD ⟨lCD,aCD⟩).mono,bICD,(Bp X G nCD)⟩;obtain ⟨fICF,mICF,DICF⟩:=iCF.ex;obtain ⟨dICF,FICF,bICF⟩:=DICF.ok;have MCF:MkD P w K mg base CF "Fill" ["self","phial","ware","level"] (kZ CF "phial" "ware" "level"):=⟨_,_,⟨kCF,mICF.at_,mICF.fn,pCF⟩,(aCp FICF ⟨lCF,aCF⟩).mono,bICF,(Bp X G nCF)⟩;obtain ⟨fICP,mICP,DICP⟩:=iCP.ex;obtain ⟨dICP,FICP,bICP⟩:=DICP.ok;have MCP:MkD P w K mg base CP "Pour" ["self","one","other","part"] (kZ CP "one" "other" "part"):=⟨_,_,⟨kCP,mICP.at_,mICP.fn,pCP⟩,(aCo FICP ⟨lCP,aCP⟩).mono,bICP,(Bp X G nCP)⟩;obtain ⟨fICE,mICE,DICE⟩:=iCE.ex;obtain ⟨dICE,FICE,bICE⟩:=DICE.ok;have MCE:MkD P w K mg base CE "Empty" ["self","phial"] (pN CE "phial"):=⟨_,_,⟨kCE,mICE.at_,mICE.fn,pCE⟩,(yR FICE ⟨lCE,aCE⟩).mono,bICE,(Bp X G nCE)⟩;obtain ⟨fICR,mICR,DICR⟩:=iCR.ex;obtain ⟨dICR,FICR,bICR⟩:=DICR.ok;have MCR:MkD P w K mg base CR "Rinse" ["self","phial"] (pN CR "phial"):=⟨_,_,⟨kCR,mICR.at_,mICR.fn,pCR⟩,(yQ FICR ⟨lCR,aCR⟩).mono,bICR,(Bp X G nCR)⟩;have k28:=C d28 λF=>yU F k27.mono MCD MCF MCP MCE MCR;have k29:=C d29 λF=>aF7 F T;have k30:=C d30 λF=>aGb F T R e3 b3 e4 b4 k16 k13.mono k17.mono k18.mono k23.mono k29.mono;have k31:=C d31 λF=>aI1 F k19;have k32:=C d32 λF=>aGf F T k19.mono k31 k22.mono k20.mono;have k33:=C d33 λF=>yJ F T k21.mono k20.mono k32;have k34:=C d34 λF=>aCt F T k32.mono k33 k31.mono k22.mono k20.mono;have hT:∀ c∈aD5 CD CF CP CE CR c0 c1 c2 c3 c4,Cls K c.1/\MCal P w K mg base (CXg P w) 7 c.1 "onto_at" Non c.2:=BI.mpr ⟨⟨lCD,oCD.cal λF=>aCi F ⟨lCD,aCD⟩ k30⟩,BI.mpr ⟨⟨lCF,oCF.cal λF=>aCh F ⟨lCF,aCF⟩ R e1 b1 k13.mono k17.mono k18.mono k30⟩,BI.mpr ⟨⟨lCP,oCP.cal λF=>aCg F T ⟨lCP,aCP⟩ (Bp X G tO.1) tO.2 R e0 b0 k15.mono k18.mono k14.mono k29.mono k30⟩,BI.mpr ⟨⟨lCE,oCE.cal λF=>yN F ⟨lCE,aCE⟩ k29.mono⟩,BI.mpr ⟨⟨lCR,oCR.cal λF=>yL F ⟨lCR,aCR⟩ R e2 b2 k29.mono⟩,λ_ h=>nomatch h⟩⟩⟩⟩⟩;have k35:=C d35 λF=>yT F k28.mono hT;have k36:=C d36 λF=>uY F T k4 k3;have k37:=C d37 λF=>aI2 F T k1.mono k2.mono k36 k5 k3.mono;have k38:=C d38 λF=>yI F T k35;have k39:=C d39 λF=>aGg F T k34 k37.mono;have k40:=C d40 λF=>aI7 F k34;have k41:=C d41 aGa;have k42:=C d42 aCk;have k43:=C d43 λF=>aGh F T k12 k41.mono;have k44:=C d44 λF=>aGi F k38 k43.mono;have k45:=C d45 λF=>yV F T k42;have k46:=C d46 λF=>aCr F T k45;exact aI4 F T k1.mono k7.mono k9.mono k39.mono k46.mono k19.mono k44 k40.mono
def all_mk {P:Aw}{w:World}{K:Ab}{mg:Gb}{h:Heap}{fa:Gj}{aN aO cP c0 c1 c2 c3 c4 f0 f1 f2 f3 f4 aF a0 a1 a2 a3 a4 CD CF CP CE CR:Gj}{h0 h1 h2 h3 h4:Int}{t0 t1 t2 t3 t4 tM tL:Tok}{sz:Nat}(X:K.In h)(G:h.Ns AF mg)(hfa:mg "law" = some (.ref fa))(A:AllD w K aN aO cP c0 c1 c2 c3 c4 f0 f1 f2 f3 f4 aF a0 a1 a2 a3 a4 CD CF CP CE CR h0 h1 h2 h3 h4 t0 t1 t2 t3 t4 tM tL sz) :
  ∃ fd:Ay,(∀ (s:Gm) (v:Gk),BindsTo s fd ⟨[v],[]⟩ [("_law_script",v)])/\∀ base:Heap,K.In base->base.Ns AF mg->FnOk P w K mg base CX0 11 fa fd ["_law_script"] (spLaw K):=
 aK6 X G hfa (by cases A;assumption) λF=>aJi X G A F
end K53
inductive PySem.W.Fast|tw12988961393966295662|tw10437911903221976960|tw3981199896136065409|tw9406294943521863235|tw9140615212357797030|tw5359468935756871701|tw1265378619776814332|tw5185058469950098621|tw7152363984094240032|tw6596367402859016477|tw6602832544259348215|tw6633511367810116719|tw6490566375098318500|tw9715392583419230967|tw16064360703823763113|tw13461864847164131692|tw15641868581776826574|tw3178417831798982069|tw16781319015818862495|tw3069344852922880190|tw6495513300633653289|tw5794916601271992536|tw9110291359850769606|tw11744030316606923262|tw12550934770093049470|tw1822696118930675551|tw4529825358844070426|tw17124392481644836643|tw14440810030449565631|tw1777791455627264554|tw15430344044330695266|tw16264234066164518096|tw3013527233013741439|tw14361473579662838941|tw11025086478914258738|tw1370490278964322769|tw6591031818351041902|tw13778445313456164664|tw16971447368262815928|tw3247466084521653213|tw10702816111893395692|tw17121834135671422707|tw12533985646454502677|tw5850734708951885680|tw2042699575781130983|tw15059315936603753883|tw3429487372963109311|tw10261573938042650265|tw4442554701992907531|tw6520217545669012826|tw10853255847840313240|tw16904340451126451427|tw6492911895989362556|tw10385392375255547731|tw3419697665672609069|tw8992834790499023059|tw5107305562718586407|tw5522005902385932715|tw5426906409094887360|tw17254685485786572286|tw4183916829785180521|tw13834709146135105544|tw7249970076165611781|tw17324113204701436308|tw17442591211562934839|tw3162779460571414691|tw200057197467285507|tw1852157733430641025|tw12121365199579562018|tw15665267760290096848|tw8672295874733771991|tw8657537647374345581|tw9476050876552896121|tw16140200552207070196|tw3436259007610442119|tw4730448937298415748|tw9442391981863554294|tw13556460688528006270|tw15228979979761092760|tw602253635644378262|tw1328349807261862975|tw4284983021003692050|tw6641657775461388248|tw13936245767452381949|tw4816827916520382598|tw4966574947297278323|tw580152416116009560|tw15157030941214788128|tw11584806745708719177|tw13366807158583362326|tw461794867367889019|tw14705403875810240780|tw17283839505522134658|tw2588309895106116101|tw2242379808774184767|tw11964577535723557348|tw1907551601536427326|tw18091561199619128889|tw17603951517581433292|tw8914658926304582117|tw18429513418563751840|tw15177133763418101305|tw5110483636162128628|tw12217112482774213587|tw3267142174048952203|tw563587128919451473|tw14126208428802140397|tw4019288351787696441|tw5683025191851267009|tw2548391350028957124|tw10028133474930843483|tw16318182281223789811|tw13083911688915335736|tw11982851838331209563|tw8904245557922303724|tw6842411021770068924|tw2188934204871924158|tw7211700487125327380|tw4735266045553891276|tw6710736317590853521|tw15787932875706053469|tw16810991711264189905|tw17337338979309478595|tw13755888765249182893|tw5985946709059009476|tw11192520028785493650|tw17205939122144596668|tw14688018727224453260|tw10197883810846443109|tw2045135832625058816|tw12173685985793554317|tw17639266377283529466|tw6176740981432839097|tw4840436883423138301|tw2220039807042252552|tw16505535107407692458|tw8765596554955298460|tw5866140095475499064|tw16899944032183697313|tw14285471138779248148|tw7122470992072756056|tw16796319907469432020|tw4453447410840493113|tw10415432135190966744|tw6384727918365646870|tw2515940017804558264|tw14324092442496966419|tw7751130097591165953|tw10071244867686996298|tw10944979222862069720|tw4816931729319301450|tw9825095518640798493|tw10171606148853439876|tw7561690342021593007|tw17178124656548276588|tw9291589824692506758|tw5264050264788981862|tw3612170238685513639|tw17719621236049411696|tw7213492759666984205|tw12549421829547194448|tw12836933461051586673|tw5975845319476838007|tw7297868672127437237|tw8579436697046550672|tw10310435682830675060|tw2929234369539400033|tw16112166480767276086|tw10646808192231439777|tw14657972102642883042|tw4735928274349019807|tw1286985766471588385|tw8299446001178920721|tw17130873442726422124|tw3597564832919312201|tw4499950303143466584|tw14360349863824789909|tw3254728319802917698|tw11648023812297719601|tw17422620891528853664|tw14029359217086353014|tw818981276597166922|tw10308920547716604373|tw18319910374678313549|tw16538867892085899852|tw6742068868846936289|tw13071273856965907098|tw2301696032795154173|tw11908604770548450292|tw2157613204142330216
end
open PySem PySem.W PyProof.Rows
set_option maxRecDepth 100000 in
set_option maxHeartbeats 0 in
theorem PySem.Challenge.cw_phialhouse_k53_gathered_holds : PySem.Challenge.rw_phialhouse_k53_gathered.Holds := by
  w_on;o_law;k_head;(case hw=>w_witness2)
  k_fill
  refine L2.walk_ofK (l:=PySem.Challenge.rw_phialhouse_k53_gathered) (n:=63) (k:=11) (x:="_law_script") (CX:=L2.CX0) (sp:=λK=>K53.spLaw K) rfl (by decide) rfl ⟨rfl,by decide,by decide,rfl⟩ (λw h Y=>PySem.W.kIn_of Y) ?F (λ_ _ a ns hl _ hS=>⟨a,ns,rfl,hS,hl,λ_=>rfl⟩) λ_ _ _ _ z=>z
  case F=>
    intro w mg fa h KX G hmg
    refine' K53.all_mk KX G hmg ?A
    case A=>
      constructor
      repeat' first
        |refine And.intro ?_ ?_
        |refine BI.mpr ⟨?_,?_⟩
        |exact L2.noMem
        |(refine' L2.dnB ?a ?l ?c ?k ?b;(case a=>k_is);(case l=>k_is);(case c=>k_is);(case k=>k_is);(case b=>repeat' first|refine L2.allS λ_=>?_|exact L2.allZ rfl))
        |(refine' L2.fnB ?l ?c ?k ?b;(case l=>k_is);(case c=>k_is);(case k=>k_is);(case b=>repeat' first|refine L2.allS λ_=>?_|exact L2.allZ rfl))
        |(refine' L2.mdnB ?a ?i ?l ?c ?k ?b;(case a=>k_is);(case i=>k_is);(case l=>k_is);(case c=>k_is);(case k=>k_is);(case b=>repeat' first|refine L2.allS λ_=>?_|exact L2.allZ rfl))
        |(refine' L2.topS ?l ?h;(case l=>k_is);(case h=>exact ⟨by decide,by repeat' first|exact .nil|refine .cons ⟨_,rfl⟩ ?_⟩))
        |(refine' L2.exC ?l ?n;(case l=>k_is);(case n=>k_is))
        |refine' L2.ExF.mk ?_ ?_ ?_|refine' L2.ExI.mk ?_ ?_ ?_ ?_|refine' L2.ExK.mk ?_ ?_ ?_ ?_ ?_ ?_|refine' L2.CtK.mk ?_ ?_ ?_|refine' L2.BaseI.mk ?_ ?_ ?_|refine' L2.Cls.mk ?_ ?_ ?_ ?_
        |k_is|kit_is|(show PySem.W.isClsIn _ _=true;k_is)|(show BZ _ _ _=_;k_is)|exact ⟨_,_,rfl,rfl⟩|exact DE|kernel_rfl|rfl|decide|decide +kernel
