import PyProof.Rows.All
import Wide.All
import OpenK.AllK
import Wide.FinOn
import Lean
import PyProof.EqAt
import PyProof.EqKinds
import PyProof.TupleCall
import PySem.Challenge.RW_phialhouse_k51_serves_as_well
set_option Elab.async false
set_option linter.all false
set_option maxRecDepth 100000
set_option maxHeartbeats 4000000
open PySem renaming wpAny_bind→Aa, wpAny_pure→Ag, sizeLine→Au, Program→Aw, Spec→Ax, FuncData→Az, mainGlobals→AD, Builtin→AG, starEach→AL, wpAny_newObj_type→Bc, NameKind→Bf, wpAny_call_entry→Bp, wpAny_holding→Br, wpAny_callSpecial?_slot→Bs, boot_len→BA, compareOp→BB, wpAny_field→BK, PassesOwn→BP, wpAny_mono→BR, SetTable→BU, bootBuiltins→BZ, codeAny_mono→Ck, wpAny_setField_rec→Cr, wpAny_loadPart_at→Cz, codeAny_builtin→CI, mem_of_lookup→CQ, wpAny_seqItems→CU, wpAny_Call_Name_kw→Dm, wpAny_truthy_bool→Du, wpAny_rule→Dw, sysModules→Dx, wpAny_attempt→DE, wpAny_typeOf→DW, wpAny_passesOwn→DY, wpAny_setState_of→Ef, binaryOp→Eg, codeAny_call_builtin→Ej, wpAny_askSetting→Eo, wpAny_setEntries_of→Eu, wpAny_of_eq→Ew, codeAny→Ey, wpAny_call→EA, wpAny_pyIter_tuple→EG, scanBound→EH, plainId_quiet→EI, attributeBase→EJ, plainObj_wpAny_Assign_Attribute→EU, foldedSetIterable→EV, fits_of_scanBound→EW, Builtin→EY, wpAny_setField→EZ, reprText→Fb, swapsWith→Fd, wpAny_isInstance→Fj, wpAny_standAt→Fn, wpAny_execs_nil→Fs, letOwnedTupleGo→Ft, codeAny_of_tree→Fu
open PySem.W renaming Frag→Ab, nsIn→AJ, mg_none_of→AK, mg_of→Bb, findIn→BL, emptyDict→Ct, keepIn→CK, fnOf→CV, instObj→Di, callWith_K→Ek, codeIn→EB
open PySem.Heap renaming get?_push_of_some→Ac, get?_push_size→Ai, lt_size→Ao, get?_update_other→Ba, size_push→BH, get?_update_self→BN, SameBut→Cf, get?_push_ne→DS
open List renaming getElem?_eq_some_iff→Ad, getElem?_eq_getElem→Ae, length_map→Af, mem_cons_of_mem→Ah, map_cons→Ak, mem_of_getElem?→Al, size_toArray→An, getElem?_map→Aq, mem_cons_self→Ar, length_append→Av, mem_cons→Ay, mem_singleton→AA, mem_map→AE, sum_cons→AH, mem_append_right→AI, mem_append→AS, range→AV, length_cons→AX, getElem?_eq_none→AY, map_append→Be, length_eq_zero_iff→Bm, mem_map_of_mem→Bq, forall_mem_cons→Bw, take_length→Bz, getElem?_append_right→BC, nodup_cons→BF, length_set→BM, zip_cons_cons→BV, getElem?_append_left→BW, append_nil→BX, length_take→Ca, map_map→Ce, replicate→Cm, getElem?_set_ne→Cn, getElem?_of_mem→Co, pairwise_map→Cu, all_eq_true→CG, mem_range→CM, take_add_one→CO, filterMap_cons→CS, getElem?_set_self→CT, lookup_cons→CY, pairwise_iff_getElem→Dg, mem_or_eq_of_mem_set→Dh, lookup→Ds, length_drop→Dz, getElem_mem→DB, eq_nil_of_length_eq_zero→DC, filter_append→DG, length_singleton→DJ, find?_cons→DM, nodup_nil→Ea, getElem?_zip_eq_some→Eb, drop_eq_getElem_cons→Ed, not_mem_nil→Eh, map_congr_left→Ei, of_mem_zip→Ep, filter_cons_of_pos→Er, filter_cons_of_neg→Es, take_of_length_le→EC, ext_getElem?→ED, le_antisymm→ER, toList_toArray→Fe, sum_append→Ff, mem_filter→Fg, map_eq_nil_iff→Fh, foldl_cons→Fi, getD_eq_getElem?_getD→Fm
open Nat renaming le_refl→Aj, ne_of_lt→As, le_trans→AR, lt_of_lt_of_le→AU, zero_le→Bu, lt_succ_self→Cd, lt_succ_of_lt→Cg, lt_irrefl→Cw, le_succ→Dj, ne_of_gt→Dr, lt_of_le_of_lt→DI, lt_trans→El
open Bool renaming false_ne_true→AB, and_eq_true→BG, eq_iff_iff→Cy, false_eq_true→Dd, and_eq_false_iff→EL
open PySem.Value renaming ref→AC, none→BO, type→CW, isStrOf_shape→Dq, isStrOf→EX
open Option.some renaming inj→AF
open Sum renaming inr→AM
open Int renaming eq_ofNat_of_zero_le→AN, mul_right_comm→AQ, eq_of_mul_eq_mul_right→Bl, zero_mul→Bo, mul_nonneg→Bv, mul_comm→BD, mul_assoc→BI, toNat_natCast→Ci, mul_pos→Cp, mul_le_mul_of_nonneg_left→CJ, ediv_le_self→Da, le_refl→Dy, mul_eq_zero→DP, mul_le_mul_of_nonneg_right→EN, mul_lt_mul_right→Fc
open PySem.PassesOwn renaming never→AO
open PySem.NameKind renaming free→AW, cell→CC
open Option renaming map_eq_some_iff→AZ, some→Bh, map_some→Dk
open Array renaming getElem?_toList→Bd, length_toList→BE, getElem?_eq_some_iff→Cq, perm_iff_toList_perm→DT, toArray_toList→ET, getElem?_eq_getElem→Fq
open Decidable renaming byContradiction→Bg
open Ne renaming symm→Bi
open PySem.Builtin.SmallTypes renaming nextOf→Bj, ownedTupleIsFree→Cv, ownedTupleHandOut→Fk
open PySem.SeqAt renaming EqAt→Bk
open PyProof.Rows renaming slot_tuple_getitem→BJ, wpS_bind→BQ, callWith_type1→CB, wpS_pure→CZ, boot_isinstance→DZ, StrsAre→EK
open PySem.F renaming called_set→BY, type_list_append→Cb, slot_list_append→Cc, plainAttrs_list→Cj, kt_called_dict→CL, slot_dict_get→DF, slot_tuple_iterator_next→Ee, args_tuple_add_2→Fo, plainAttrs_dict→Fv, entry_tuple_add→Fw, slot_tuple_getattribute→Fx
open False renaming elim→CA
open PySem.Around renaming under_plainId→CH
open PySem.Str renaming ofString→CN
open ForInStep renaming yield→De
open True renaming intro→Dp
open PySem.Calls renaming callWith_builtin→DD, spliced_cons→En, evalArgs_plain→ES, call_function_entry→Fp
open PySem.Builtin.Slice renaming slicePlaces→DH, sliceAdjust→EO
open PySem.Builtin.Tuple renaming tupleExact→DO
open PySem.SetTable renaming grown→DQ, below→DR
open PySem.Obj renaming mapSeq→DU, mapFields→DV, data_mapFields→Ez, isFreed_of_fields→EM
open LawfulBEq renaming eq_of_beq→Em
open PySem.Code renaming quiet_builtin→Et
open PySem.Heap.SameBut renaming update→EE
open PySem.Builtin.List renaming listExtendWith→EF
open PyProof.Rows.F renaming plain_set_update_loop→Fy
abbrev Ga:=PySem.Value->PySem.Shared->Prop
abbrev Gb:=PySem.Str->Option PySem.Value
abbrev Gc:=List (PySem.Str×Int×Int)
abbrev Ge:=List (PySem.Addr×PySem.Obj)
abbrev Gf:=List (PySem.Str×PySem.Str)
abbrev Gg:=List (Int×Int)
abbrev Gh:=List PySem.Str
abbrev Gi:=List PySem.Value
abbrev Gj:=PySem.Addr
abbrev Gk:=PySem.Value
abbrev Gm:=PySem.Shared
namespace L2
open PySem PySem.Spec PyProof.Rows
def zLn0:0<=Au:=by decide
def zLn1:1<=Au:=by decide
def zLn2:2<=Au:=by decide
def zLn3:3<=Au:=by decide
def zLn4:4<=Au:=by decide
def zLn5:5<=Au:=by decide
def zLn6:6<=Au:=by decide
def zLn10:10<=Au:=by decide
abbrev Key:=Sum Int Str
def uM:Key->Gk->Bool
 |.inl k,v=>Value.isInt k v
 |.inr x,v=>EX x v
def keyH (w:World):Key->Int
 |.inl k=>hashInt k
 |.inr x=>hashStr w x
def bX:∀ {k:Key} {v:Gk},uM k v=true->(∃ i t,k=Sum.inl i/\v=Value.int i t)\/(∃ x t,k=AM x/\v=Value.str x t)
 |.inl i,v,h=>by
  obtain ⟨t,e⟩:=Value.isInt_shape (k:=i) (v:=v) h;exact .inl ⟨i,t,rfl,e⟩
 |.inr x,v,h=>by
  obtain ⟨t,e⟩:=Dq (x:=x) (v:=v) h;exact .inr ⟨x,t,rfl,e⟩
def yN (i:Int)(t:Tok):uM (.inl i) (.int i t)=true:=by simp [uM,Value.isInt]
def yM (x:Str)(t:Tok):uM (.inr x) (.str x t)=true:=by simp [uM,EX]
theorem aHz (a b:Int):decide ((Sum.inl a:Key)=Sum.inl b)=(a==b):=by
 by_cases e:a=b
 ·subst e;simp
 ·have h:¬ (Sum.inl a:Key)=Sum.inl b:=λq=>e (Sum.inl.inj q)
  rw [decide_eq_false h];exact (beq_eq_false_iff_ne.mpr e).symm
theorem aHw (a b:Str):decide ((AM a:Key)=AM b)=decide (a=b):=by
 by_cases e:a=b
 ·subst e;simp
 ·have h:¬ (AM a:Key)=AM b:=λq=>e (AM.inj q)
  rw [decide_eq_false h,decide_eq_false e]
theorem aHy (a:Int)(b:Str):decide ((Sum.inl a:Key)=AM b)=false:=decide_eq_false (λq=>nomatch q)
theorem aHx (a:Str)(b:Int):decide ((AM a:Key)=Sum.inl b)=false:=decide_eq_false (λq=>nomatch q)
def bD (prog:Aw)(w:World):PySem.KeyKind prog w Key where
 is:=uM
 hash:=keyH w
 inj:=λv a b ha hb=>by
  rcases bX ha with ⟨i,t,rfl,rfl⟩|⟨x,t,rfl,rfl⟩
  ·rcases bX hb with ⟨j,u,rfl,e⟩|⟨y,u,rfl,e⟩
   ·injection e with e1 _;rw [e1]
   ·exact nomatch e
  ·rcases bX hb with ⟨j,u,rfl,e⟩|⟨y,u,rfl,e⟩
   ·exact nomatch e
   ·injection e with e1 _;rw [e1]
 byValue:=λk v h=>by
  rcases bX h with ⟨i,t,rfl,rfl⟩|⟨x,t,rfl,rfl⟩<;>rfl
 pyHash:=λhv h=>by
  rcases bX hv with ⟨i,t,rfl,rfl⟩|⟨x,t,rfl,rfl⟩
  ·exact wpAny_pyHash_int h
  ·exact wpAny_pyHash_str h
 eqBool:=λhu hv h=>by
  rcases bX hu with ⟨i,t,rfl,rfl⟩|⟨x,t,rfl,rfl⟩
  ·rcases bX hv with ⟨j,u,rfl,rfl⟩|⟨y,u,rfl,rfl⟩
   ·rw [aHz] at h;exact wpAny_eqBool_int h
   ·rw [aHy] at h;exact Bk.int_str i t y u _ _ _ _ h
  ·rcases bX hv with ⟨j,u,rfl,rfl⟩|⟨y,u,rfl,rfl⟩
   ·rw [aHx] at h;exact Bk.str_int x t j u _ _ _ _ h
   ·rw [aHw] at h;exact wpAny_eqBool_str h
 «strs»:=λk x t v h=>by
  rcases bX h with ⟨i,u,rfl,e⟩|⟨y,u,rfl,e⟩
  ·exact nomatch e
  ·injection e with e1 _
   subst e1;cases v<;>rfl
def qB (prog:Aw)(w:World)(i:Int)(t:Tok):(bD prog w).is (.inl i) (.int i t)=true:=yN i t
def qA (prog:Aw)(w:World)(x:Str)(t:Tok):(bD prog w).is (.inr x) (.str x t)=true:=yM x t
inductive V where
 |non|bl (b:Bool)|int (i:Int)|str (x:Str)|byt (b:Array UInt8)|flt (b:UInt64)|ref (a:Gj)|ty (n:String)
 deriving DecidableEq
abbrev Gn:=List (Str×V)
abbrev Gp:=List (Key×V)
abbrev Gq:=List V
abbrev Gr:=Option V
def RelV:V->Gk->Prop
 |.non,u=>u=BO
 |.bl b,u=>u=Value.bool b
 |.int i,u=>∃ t,u=Value.int i t
 |.str x,u=>∃ t,u=Value.str x t
 |.byt b,u=>∃ t,u=Value.bytes b t
 |.flt b,u=>∃ t,u=Value.float b t
 |.ref a,u=>u=AC a
 |.ty n,u=>u=CW n
abbrev Vals:Gq->Gi->Prop:=Paired RelV
theorem Vals.length (r:Vals xs us):xs.length=us.length:=Paired.length r
theorem Vals.get:∀ {xs:Gq} {us:Gi} {i:Nat} {x:V},Vals xs us->xs[i]?=some x->∃ u,us[i]?=some u/\RelV x u
 |_,_,_,_,.nil,e=>by simp at e
 |_,_,0,_,.cons r _,e=>by simp at e;subst e;exact ⟨_,rfl,r⟩
 |_,_,i+1,x,.cons _ t,e=>by
  obtain ⟨u,h1,h2⟩:=Vals.get (i:=i) (x:=x) t (by simpa using e);exact ⟨u,by simpa using h1,h2⟩
theorem Vals.set (r:RelV x u):∀ {xs:Gq} {us:Gi} (i:Nat),Vals xs us->Vals (xs.set i x) (us.set i u)
 |_,_,_,.nil=>.nil
 |_,_,0,.cons _ t=>.cons r t
 |_,_,i+1,.cons q t=>.cons q (Vals.set r i t)
theorem Vals.append:∀ {xs ys:Gq} {us ws:Gi},Vals xs us->Vals ys ws->Vals (xs++ys) (us++ws)
 |_,_,_,_,.nil,s=>s
 |_,_,_,_,.cons r t,s=>.cons r (Vals.append t s)
theorem Vals.take:∀ {xs:Gq} {us:Gi} (n:Nat),Vals xs us->Vals (xs.take n) (us.take n)
 |_,_,0,_=>.nil
 |_,_,_+1,.nil=>.nil
 |_,_,n+1,.cons r t=>.cons r (Vals.take n t)
theorem Vals.drop:∀ {xs:Gq} {us:Gi} (n:Nat),Vals xs us->Vals (xs.drop n) (us.drop n)
 |_,_,0,r=>r
 |_,_,_+1,.nil=>.nil
 |_,_,n+1,.cons _ t=>Vals.drop n t
def RelO:Gr->Option Gk->Prop
 |some v,some u=>RelV v u
 |none,none=>True
 |_,_=>False
def KV {κ:Type}:List (κ×V)->List (κ×Gk)->Prop:=Paired λ(p:κ×V) (q:κ×Gk)=>p.1=q.1/\RelV p.2 q.2
def kV:Key->V
 |.inl i=>.int i
 |.inr x=>.str x
inductive HO where
 |lst (xs:Gq)
 |tup (xs:Gq)
 |dK (kvs:Gp)|dT (kvs:List (List Key×V))
 |set (S:Int->Bool) (n:Nat)
 |ins (C dx:Gj) (fs:Gn)
 |own (x:Gj)
 |xd (fs:Gn)
 |met (f x:Gj)
 |rng (lo hi:Int)
 |frz (o:Obj) (u:HO)
 |tbl (ps:Array Gk)
 |ext (φ:Heap->Prop)
abbrev Hp:=Gj->Option HO
def upd (H:Hp)(a:Gj)(o:HO):Hp:=λb=>if b=a then some o else H b
theorem aB :upd H a o a=some o:=by unfold upd;rw [if_pos rfl]
theorem aK (h:b≠a):upd H a o b=H b:=by unfold upd;rw [if_neg h]
theorem aI5 {H:Hp}{a b:Gj}{o u:HO}(h:H a=some o)(h':H b=some u)(d:o≠u):a≠b:=by
 intro e;subst e;rw [h] at h';exact d (AF h')
theorem bB {H:Hp}{a b:Gj}{o:HO}(h:H a=some o)(h':H b=none):a≠b:=by
 intro e;subst e;rw [h] at h';cases h'
def NoD (h:Heap)(a:Gj):Prop:=∃ o,h.get? a=some o/\o.dict=none
theorem NoD.at (n:NoD h a)(e:h.get? a=some o):o.dict=none:=by
 obtain ⟨u,e1,e2⟩:=n;rw [e] at e1;cases e1;exact e2
section
variable (P:Aw)(w:World)
def ObjOk (H:Hp)(h:Heap)(a:Gj):HO->Prop
 |.lst xs=>xs.length<=Au/\∃ (its:Gi) (n:Nat),Vals xs its/\h.get? a=some { cls:=.type "list",data:=.seq its.toArray n }
 |.tup xs=>(xs.length<=Au/\NoD h a)/\∃ its:Gi,Vals xs its/\IsTup h a its.toArray
 |.dK kvs=>kvs.length<=Au/\(a==Dx)=false/\∃ vs,KV kvs vs/\h.DictOf (bD P w) a vs
 |.dT kvs=>kvs.length<=Au/\(a==Dx)=false/\∃ xs:List (List Key×Gj×Gk),
   Paired (λ(p:List Key×V) (q:List Key×Gj×Gk)=>p.1=q.1/\H q.2.1=some (.tup (p.1.map kV))/\RelV p.2 q.2.2) kvs xs /\
   ∃ o es ep,h.get? a=some o/\o.ExactDict/\o.data=.dict es ep/\es.toList=xs.map (entryOfKey (tupleKind (bD P w)))/\(xs.map (·.1)).Nodup
 |.set S n=>h.SetOf (intKind P w) a S n
 |.ins C dx fs=>H dx=some (.own a)/\fs.length<=1000/\dx≠a/\h.get? a=some (Di C dx) /\
   ∃ mA,h.Ns1 dx mA/\(∀ f,RelO (fs.lookup f) (mA f))/\PySem.Within mA (fs.map (·.1))
 |.own _=>∃ o,h.get? a=some o
 |.xd fs=>∃ mA,h.Ns1 a mA/\∀ f,RelO (fs.lookup f) (mA f)
 |.rng lo hi=>∃ t u v,h.get? a=some { cls:=.type "range",data:=.fields #[.int lo t,.int hi u,.int 1 v] }
 |.frz o u=>h.get? a=some o/\ObjOk H h a u
 |.tbl ps=>h.get? a=some { cls:=.none,data:=.fields ps }
 |.met f x=>h.get? a=some (PySem.W.methodObj (.ref f) (.ref x))
 |.ext φ=>φ h/\(∃ o,h.get? a=some o)/\∀ h1 h2:Heap,φ h1->(∀ o,h1.get? a=some o->h2.get? a=some o)->φ h2
def HOk (H:Hp)(h:Heap):Prop:=∀ a o,H a=some o->ObjOk P w H h a o
end
section
variable {P:Aw}{w:World}{H H':Hp}{h h':Heap}{a:Gj}{o:HO}
theorem ObjOk.lt (x:ObjOk P w H h a o):a<h.objs.size:=by
 cases o with
 |lst xs=>obtain ⟨_,_,_,_,e⟩:=x;exact Ao e
 |tup xs=>obtain ⟨_,_,_,p⟩:=x;exact p.lt
 |dK kvs=>obtain ⟨_,_,_,_,o,_,_,e,_⟩:=x;exact Ao e
 |dT kvs=>obtain ⟨_,_,_,_,o,_,_,e,_⟩:=x;exact Ao e
 |set S n=>obtain ⟨o,_,_,_,e,_⟩:=x;exact Ao e
 |ins C dx fs=>obtain ⟨_,_,_,e,_⟩:=x;exact Ao e
 |own y=>obtain ⟨_,e⟩:=x;exact Ao e
 |xd fs=>obtain ⟨_,⟨_,_,_,e,_⟩,_⟩:=x;exact Ao e
 |rng lo hi=>obtain ⟨_,_,_,e⟩:=x;exact Ao e
 |frz ob u=>obtain ⟨e,_⟩:=x;exact Ao e
 |tbl ps=>exact Ao (show h.get? a=some _ from x)
 |met f y=>exact Ao (show h.get? a=some _ from x)
 |ext φ=>obtain ⟨_,⟨_,e⟩,_⟩:=x;exact Ao e
theorem Paired.mapP {α β:Type}{F G:α->β->Prop}:∀ {l₁:List α} {l₂:List β},Paired F l₁ l₂->(∀ a b,F a b->G a b)->Paired G l₁ l₂
 |_,_,.nil,_=>.nil
 |_,_,.cons r t,f=>.cons (f _ _ r) (Paired.mapP t f)
def ObjOk.stay (x:ObjOk P w H h a o)(k:∀ b u,(b=a\/H b=some (.own a))->h.get? b=some u->h'.get? b=some u)
  (ho:∀ b,H b=some (.own a)->H' b=some (.own a)) (ht:∀ b xs,H b=some (.tup xs)->H' b=some (.tup xs)):ObjOk P w H' h' a o:=by
 induction o with
 |lst xs=>obtain ⟨z,its,n,r,e⟩:=x;exact ⟨z,its,n,r,k _ _ (.inl rfl) e⟩
 |tup xs=>obtain ⟨⟨z,o1,e1,d1⟩,its,r,ob,e,c⟩:=x;exact ⟨⟨z,o1,k _ _ (.inl rfl) e1,d1⟩,its,r,ob,k _ _ (.inl rfl) e,c⟩
 |dK kvs=>obtain ⟨z,y,vs,r,ob,es,ep,e,c⟩:=x;exact ⟨z,y,vs,r,ob,es,ep,k _ _ (.inl rfl) e,c⟩
 |dT kvs=>
  obtain ⟨z,y,xs,r,ob,es,ep,e,c⟩:=x;exact ⟨z,y,xs,Paired.mapP r λp q z=>⟨z.1,ht _ _ z.2.1,z.2.2⟩,ob,es,ep,k _ _ (.inl rfl) e,c⟩
 |set S n=>obtain ⟨ob,es,ep,t,e,c⟩:=x;exact ⟨ob,es,ep,t,k _ _ (.inl rfl) e,c⟩
 |ins C dx fs=>
  obtain ⟨d,z,ne,e,mA,⟨od,es,ep,e2,c⟩,r⟩:=x;exact ⟨ho _ d,z,ne,k _ _ (.inl rfl) e,mA,⟨od,es,ep,k _ _ (.inr d) e2,c⟩,r⟩
 |own y=>obtain ⟨ob,e⟩:=x;exact ⟨ob,k _ _ (.inl rfl) e⟩
 |xd fs=>obtain ⟨mA,⟨od,es,ep,e,c⟩,r⟩:=x;exact ⟨mA,⟨od,es,ep,k _ _ (.inl rfl) e,c⟩,r⟩
 |rng lo hi=>obtain ⟨t,u,v,e⟩:=x;exact ⟨t,u,v,k _ _ (.inl rfl) e⟩
 |frz ob u ih=>obtain ⟨e,q⟩:=x;exact ⟨k _ _ (.inl rfl) e,ih q⟩
 |tbl ps=>
  have e:h.get? a=some { cls:=.none,data:=.fields ps }:=x;show h'.get? a=some { cls:=.none,data:=.fields ps };exact k a _ (.inl rfl) e
 |met f y=>
  have e:h.get? a=some (PySem.W.methodObj (.ref f) (.ref y)):=x;show h'.get? a=some (PySem.W.methodObj (.ref f) (.ref y));exact k a _ (.inl rfl) e
 |ext φ=>obtain ⟨p,⟨o,e⟩,st⟩:=x;exact ⟨st _ _ p λo q=>k _ _ (.inl rfl) q,⟨o,k _ _ (.inl rfl) e⟩,st⟩
theorem HOk.lt (x:HOk P w H h)(e:H a=some o):a<h.objs.size:=(x a o e).lt
theorem HOk.fresh (x:HOk P w H h)(e:h.objs.size<=a):H a=none:=by
 cases q:H a with
 |none=>rfl
 |some u=>exact absurd (AU (x.lt q) e) (Cw _)
def HOk.kept (x:HOk P w H h)(k:∀ b u,h.get? b=some u->h'.get? b=some u):HOk P w H h':=λa o e=>
 (x a o e).stay (λb u _ q=>k b u q) (λ_ q=>q) λ_ _ q=>q
theorem HOk.laid (x:HOk P w H h)(k:∀ b u,h.get? b=some u->h'.get? b=some u)(hp:h.objs.size<=a)(new:ObjOk P w (upd H a o) h' a o):HOk P w (upd H a o) h':=λb u e=>by
 have hn:=x.fresh hp
 by_cases hb:b=a
 ·subst hb;rw [aB] at e;cases e;exact new
 ·rw [aK hb] at e
  exact (x b u e).stay (λc v _ q=>k c v q) (λc q=>by rw [aK (bB q hn)];exact q) λc xs q=>by rw [aK (bB q hn)];exact q
end
def Rd (H:Hp)(a:Gj)(u:HO):Prop:=H a=some u\/∃ o,H a=some (.frz o u)
def Rd.ok {w:World}(r:Rd H a u)(x:HOk P w H h):ObjOk P w H h a u:=by
 rcases r with r|⟨o,r⟩
 ·exact x a u r
 ·obtain ⟨_,q⟩:=x a _ r
  exact q
def Mut:Option HO->Prop
 |some (.lst _)=>True
 |some (.dK _)=>True
 |some (.dT _)=>True
 |some (.set _ _)=>True
 |some (.ins _ _ _)=>True
 |some (.ext _)=>True
 |_=>False
section
variable {P:Aw}{w:World}{H:Hp}{h h':Heap}{x e:Gj}{o':HO}
def HOk.write (ok:HOk P w H h)(mu:Mut (H x))(he:e=x\/H e=some (.own x))(k:∀ b u,b≠e->h.get? b=some u->h'.get? b=some u)(heo:∃ u,h'.get? e=some u)
  (new:ObjOk P w (upd H x o') h' x o'):HOk P w (upd H x o') h':=λb u q=>by
 have nown:∀ c y,H c=some (.own y)->c≠x:=λc y r z=>by subst z;rw [r] at mu;exact mu
 have ntup:∀ c xs,H c=some (.tup xs)->c≠x:=λc xs r z=>by subst z;rw [r] at mu;exact mu
 by_cases hb:b=x
 ·subst hb;rw [aB] at q;cases q;exact new
 ·rw [aK hb] at q
  by_cases hbe:b=e
  ·have q':H b=some (.own x):=by
    rcases he with z|z
    ·exact absurd (hbe.trans z) hb
    ·rw [hbe];exact z
   rw [q] at q';cases q';obtain ⟨v,hv⟩:=heo;exact ⟨v,by rw [hbe];exact hv⟩
  ·refine (ok b u q).stay (λc v hc r=>k c v ?_ r) (λc r=>by rw [aK (nown c b r)];exact r) λc xs r=>by rw [aK (ntup c xs r)];exact r
   rcases hc with rfl|hc
   ·exact hbe
   ·rintro rfl
    rcases he with z|z
    ·exact nown c b hc z
    ·rw [hc] at z;cases z;exact hb rfl
end
structure Un (fs ex:List Gj)(H H':Hp)(h h':Heap):Prop where
 keep:∀ b o,h.get? b=some o->H b=none->b∉fs->b∉ex->h'.get? b=some o
 slot:∀ b o,h.get? b=some o->H b=none->b∈fs->b∉ex->∃ sl,h'.get? b=some { o with slots:=sl }
 free:∀ b o,h.get? b=some o->H b=none->b∉ex->H' b=none
 there:∀ b o,h.get? b=some o->b∉ex->∃ o',h'.get? b=some o'
 tups:∀ b xs,H b=some (.tup xs)->H' b=some (.tup xs)
 frzs:∀ b o u,H b=some (.frz o u)->H' b=some (.frz o u)
 tbls:∀ b ps,H b=some (.tbl ps)->∃ more,H' b=some (.tbl (ps++more))
section
variable {fs fs' ex ex':List Gj}{H H1 H2:Hp}{h h1 h2 h':Heap}{a x e:Gj}{o:HO}
theorem Un.any (u:Un fs ex H H1 h h1)(q:h.get? b=some ob)(n:H b=none)(hx:b∉ex):∃ sl,h1.get? b=some { ob with slots:=sl }:=by
 by_cases hb:b∈fs
 ·exact u.slot b ob q n hb hx
 ·exact ⟨ob.slots,u.keep b ob q n hb hx⟩
def Un.kept (k:∀ b u,h.get? b=some u->h'.get? b=some u):Un fs ex H H h h':=
 ⟨λb ob q _ _ _=>k b ob q,λb ob q _ _ _=>⟨ob.slots,k b ob q⟩,λ_ _ _ n _=>n,λb ob q _=>⟨ob,k b ob q⟩,λ_ _ q=>q,λ_ _ _ q=>q,λ_ ps q=>⟨#[],by rw [q];simp⟩⟩
def Un.refl:Un fs ex H H h h:=Un.kept λ_ _ q=>q
theorem Un.laid (k:∀ b u,h.get? b=some u->h'.get? b=some u)(hp:h.objs.size<=a)(hn:H a=none):Un fs ex H (upd H a o) h h' where
 keep:=λb u q _ _ _=>k b u q
 slot:=λb u q _ _ _=>⟨u.slots,k b u q⟩
 free:=λb u q n _=>by rw [aK (As (AU (Ao q) hp))];exact n
 there:=λb u q _=>⟨u,k b u q⟩
 tups:=λb xs q=>by rw [aK (bB q hn)];exact q
 frzs:=λb u xs q=>by rw [aK (bB q hn)];exact q
 tbls:=λb ps q=>⟨#[],by rw [aK (bB q hn),q];simp⟩
def Un.write (mu:Mut (H x))(he:e=x\/H e=some (.own x))(k:∀ b u,b≠e->h.get? b=some u->h'.get? b=some u)(heo:∃ u,h'.get? e=some u):Un fs ex H (upd H x o) h h':=by
 have hx:∀ b,H b=none->b≠x:=λb n z=>by subst z;rw [n] at mu;exact mu
 have hb:∀ b,H b=none->b≠e:=λb n z=>by
  subst z
  rcases he with r|r
  ·exact hx b n r
  ·rw [n] at r;cases r
 have hm:∀ b u,H b=some u->¬ Mut (some u)->b≠x:=λb u q nm z=>by subst z;rw [q] at mu;exact nm mu
 refine ⟨λb u q n _ _=>k b u (hb b n) q,λb u q n _ _=>⟨u.slots,k b u (hb b n) q⟩,λb u q n _=>by rw [aK (hx b n)];exact n,λb u q _=>?_,
  λb xs q=>by rw [aK (hm b _ q λz=>z)];exact q,λb u xs q=>by rw [aK (hm b _ q λz=>z)];exact q,λb ps q=>⟨#[],by rw [aK (hm b _ q λz=>z),q];simp⟩⟩
 by_cases hbe:b=e
 ·subst hbe;exact heo
 ·exact ⟨u,k b u hbe q⟩
end
def trk (h:Heap)(H:Hp):List Gj:=(AV h.objs.size).filter λa=>(H a).isSome
def hidT (h:Heap)(H:Hp):Heap:=PySem.W.hideAll h (trk h H)
def yW (h:Heap)(H:Hp):(hidT h H).objs.size=h.objs.size:=PySem.W.hideAll_size _ _
def aBw (e:h.get? b=some o)(n:H b=none):(hidT h H).get? b=some o:=
 PySem.W.hideAll_get _ e λhm=>by
  have q:(H b).isSome=true:=(Fg.mp hm).2;rw [n] at q;simp at q
def aE7 (e:(hidT h H).get? b=some o):h.get? b=some o/\H b=none:=by
 have e':h.get? b=some o:=PySem.W.of_hideAll (trk h H) e;refine ⟨e',?_⟩;cases q:H b with
 |none=>rfl
 |some x=>
  have hm:b∈trk h H:=Fg.mpr ⟨CM.mpr (Ao e'),by simp [q]⟩;have z:(hidT h H).get? b=none:=PySem.W.hideAll_none (trk h H) hm;rw [z] at e;cases e
def aFr (g h:Heap)(L:Gj):Ge:=(AV h.objs.size).filterMap λa=>if a=L\/(g.get? a).isSome=true then none else (h.get? a).map λo=>(a,o)
def rest (g h:Heap)(L d:Gj):Ge:=(aFr g h L).filter λp=>decide (p.1≠d)
structure Mod (K:Ab)(mg:Gb)(base:Heap):Prop where
 kin:K.In base
 glob:base.Ns AD mg
 blt:∃ mb,base.Ns builtinsNs mb/\∀ x:Str,x ≠ "__name__" -> mb x=BZ x
 nolimit:base.NoLimit
structure Cx where
 prog:Aw
 w:World
 K:Ab
 mg:Gb
 base:Heap
 A:Around
 N:Gh
 s₀:Gm
 H₀:Hp
 env:Env
 outer:List Env
 stack:List Env
 ex:List Gj
 fn:Str->Bool
 calm:Bool
 pn:Ge
 xe:Ga
def frs (l:List Env):List Gj:=l.filterMap (·.frame)
abbrev Cx.fs (X:Cx):List Gj:=frs X.outer
def Vis (sc:Scope)(x:Str):Prop:=sc.names.lookup x=some .local\/sc.names.lookup x=some .cell\/sc.names.lookup x=some .free
def Loc (sc:Scope)(x:Str):Prop:=sc.names.lookup x=some .local\/sc.names.lookup x=some .cell
def Look (env:Env)(h:Heap)(m:Gb)(x:Str)(u:Gk):Prop:=
 (env.kindOf x=some .local/\m x=some u)\/((env.kindOf x=some .cell\/env.kindOf x=some .free)/\∃ c,env.cells.lookup x=some c/\h.IsCell c (some u))
structure Cx.Ok (X:Cx):Prop where
 mod:Mod X.K X.mg X.base
 kind:X.env.scope.kind=.function
 glob:X.env.globals=AD
 blt:X.env.builtins=builtinsNs
 above:X.s₀.heap.objs.size<=X.env.locals
 inj:∀ x y c,X.env.cells.lookup x=some c->X.env.cells.lookup y=some c->x=y
 has:∀ x,(X.env.kindOf x=some .cell\/X.env.kindOf x=some .free)->∃ c,X.env.cells.lookup x=some c
 cab:∀ x c,X.fn x=true->X.env.cells.lookup x=some c->X.s₀.heap.objs.size<=c
 hd:X.calm=true->X.A.handled=none
 frames:X.A.frames=some X.stack
 stk:X.stack=X.outer\/(X.stack=X.env::X.outer/\X.env.frame=some X.env.locals)
 exf:∀ b∈X.ex,b≠X.env.locals/\∀ x c,X.env.cells.lookup x=some c->c≠b
 bs:∀ b o,X.base.get? b=some o->X.s₀.heap.get? b=some o/\X.H₀ b=none
 bsz:X.base.objs.size<=X.s₀.heap.objs.size
 noex:∀ b o,X.base.get? b=some o->b∉X.ex
 exfs:∀ b∈X.ex,b∉X.fs
 funs:X.s₀.heap.FunFrames X.base X.outer
 frf:∀ b∈X.fs,X.H₀ b=none
structure Inv (X:Cx)(U:Ge)(Z:List (Gr))(H:Hp)(s:Gm):Prop where
 ok:X.Ok
 os:s.os=X.s₀.os
 bare:AllBare s.gens
 base:Un X.fs X.ex X.H₀ H X.s₀.heap s.heap
 loc:∃ m,s.heap.Ns X.env.locals m/\∀ (i:Nat) (x:Str) (v:V),X.N[i]?=some x->Z[i]?=some (some v)->Vis X.env.scope x->∃ u,RelV v u/\Look X.env s.heap m x u
 cell:∀ x c,X.env.cells.lookup x=some c->∃ v,s.heap.IsCell c v
 free:H X.env.locals=none
 freeC:∀ x c,X.env.cells.lookup x=some c->H c=none
 pin:∀ p∈X.pn++U,s.heap.get? p.1=some p.2/\H p.1=none/\p.1≠X.env.locals/\p.1∉X.fs/\∀ v,p.2.data≠.cell v
 hok:HOk X.prog X.w H s.heap
 len:Z.length=X.N.length
section
variable {X:Cx}{U:Ge}{Z:List (Gr)}{H H':Hp}{s:Gm}{h':Heap}
def Cx.Ok.nofr (ok:X.Ok)(e:X.base.get? b=some o):b∉X.fs:=λhb=>by
 have:=(ok.funs.mem hb).1;rw [e] at this;cases this
def Inv.bs (I:Inv X U Z H s):∀ b o,X.base.get? b=some o->s.heap.get? b=some o/\H b=none:=λb o e=>
 ⟨I.base.keep b o (I.ok.bs b o e).1 (I.ok.bs b o e).2 (I.ok.nofr e) (I.ok.noex b o e),I.base.free b o (I.ok.bs b o e).1 (I.ok.bs b o e).2 (I.ok.noex b o e)⟩
def Inv.bk (I:Inv X U Z H s):∀ b o,X.base.get? b=some o->s.heap.get? b=some o:=λb o e=>(I.bs b o e).1
def Inv.mod (I:Inv X U Z H s):Mod X.K X.mg X.base:=I.ok.mod
def Inv.kIn (I:Inv X U Z H s):X.K.In s.heap:=I.ok.mod.kin.keeps I.bk
theorem Inv.fr (I:Inv X U Z H s):∃ m,Fr X.base X.env.locals s.heap m:=
 let ⟨m,hn,_⟩:=I.loc
 ⟨m,hn,I.bk,AR I.ok.bsz I.ok.above⟩
theorem Inv.lt (I:Inv X U Z H s):X.env.locals<s.heap.objs.size:=let ⟨_,hn,_⟩:=I.loc;hn.lt
theorem Inv.sz (I:Inv X U Z H s):X.s₀.heap.objs.size<=s.heap.objs.size:=AR I.ok.above (Nat.le_of_lt I.lt)
def Inv.nofs (I:Inv X U Z H s)(h:s.heap.objs.size<=a):a∉X.fs:=λhb=>by
 obtain ⟨_,o,ho,_⟩:=I.ok.funs.mem hb;exact absurd (AU (Ao ho) (AR I.sz h)) (Cw _)
def Inv.cne (I:Inv X U Z H s):∀ x c,X.env.cells.lookup x=some c->c≠X.env.locals:=λx c e z=>by
 obtain ⟨v,o,ho,hd⟩:=I.cell x c e;obtain ⟨m,⟨o',es,ep,ho',hd',_⟩,_⟩:=I.loc;rw [z,ho'] at ho;cases ho;rw [hd'] at hd;cases hd
def Inv.funs (I:Inv X U Z H s):s.heap.FunFrames X.base X.outer:=by
 have all:∀ (l:List Env),(∀ b∈frs l,b∈X.fs)->X.s₀.heap.FunFrames X.base l->s.heap.FunFrames X.base l:=by
  intro l
  induction l with
  |nil=>intro _ _;trivial
  |cons env r ih=>
   intro hs hl;obtain ⟨hk,⟨L,o,hf,hn,ho,hd⟩,hr⟩:=hl;have hL:L∈X.fs:=hs L (by unfold frs;rw [CS,hf];exact Ar);obtain ⟨sl,e⟩:=I.base.slot L o ho (I.ok.frf L hL) hL λz=>I.ok.exfs L z hL;exact ⟨hk,⟨L,_,hf,hn,e,hd⟩,ih (λb hb=>hs b (by unfold frs;rw [CS,hf];exact Ah _ hb)) hr⟩
 exact all X.outer (λ_ hb=>hb) I.ok.funs
def Inv.stack (I:Inv X U Z H s):s.heap.FunFrames X.base X.stack:=by
 rcases I.ok.stk with e|⟨e,hf⟩
 ·rw [e];exact I.funs
 ·rw [e]
  obtain ⟨m,hn,_⟩:=I.loc;refine .cons (by rw [I.ok.kind];decide) hf hn ?_ I.funs;exact Heap.get?_none_of_le (AR I.ok.bsz I.ok.above)
def Inv.stkSub (I:Inv X U Z H s):∀ b∈frs X.stack,b∈X.env.locals::X.fs:=λb hb=>by
 rcases I.ok.stk with e|⟨e,hf⟩
 ·rw [e] at hb;exact Ah _ hb
 ·rw [e] at hb
  unfold frs at hb;rw [CS,hf] at hb;exact hb
def Inv.stkFree (I:Inv X U Z H s):∀ b∈frs X.stack,H b=none:=λb hb=>by
 rcases Ay.mp (I.stkSub b hb) with e|hb
 ·rw [e];exact I.free
 ·obtain ⟨_,o,ho,_⟩:=I.ok.funs.mem hb
  exact I.base.free b o ho (I.ok.frf b hb) λz=>I.ok.exfs b z hb
def Inv.step {g':Array GenState}{t':Nat}{d':Drawn}{ch:List Gj}(I:Inv X U Z H s)
  (hch:∀ b∈ch,(b∈X.ex\/X.s₀.heap.objs.size<=b)/\b≠X.env.locals/\(∀ x c,X.env.cells.lookup x=some c->c≠b)/\∀ p∈X.pn++U,p.1≠b)
  (keep:∀ b o,b≠X.env.locals->b∉X.fs->b∉ch->s.heap.get? b=some o->H b=none->h'.get? b=some o)
  (slot:∀ b o,b≠X.env.locals->b∈X.fs->b∉ch->s.heap.get? b=some o->H b=none->∃ sl,h'.get? b=some { o with slots:=sl }) (free:∀ b o,b∉ch->s.heap.get? b=some o->H b=none->H' b=none)
  (there:∀ b o,b∉ch->s.heap.get? b=some o->∃ o',h'.get? b=some o')
  (tups:∀ b xs,H b=some (.tup xs)->H' b=some (.tup xs)) (frzs:∀ b o u,H b=some (.frz o u)->H' b=some (.frz o u)) (tbls:∀ b ps,H b=some (.tbl ps)->∃ more,H' b=some (.tbl (ps++more)))
  (ns:∀ m,s.heap.Ns X.env.locals m->h'.Ns X.env.locals m) (hok:HOk X.prog X.w H' h') (hg:AllBare g') :
  Inv X U Z H' { s with heap:=h',gens:=g',drawn:=d',toks:=t' }:=by
 have neL:∀ b o,X.s₀.heap.get? b=some o->b≠X.env.locals:=λb o e=>As (AU (Ao e) I.ok.above);have neC:∀ b o,X.s₀.heap.get? b=some o->b∉X.ex->b∉ch:=λb o e hx hb=>by
  rcases (hch b hb).1 with z|z
  ·exact hx z
  ·exact absurd (AU (Ao e) z) (Cw _)
 have cellK:∀ x c,X.env.cells.lookup x=some c->∀ v,s.heap.IsCell c v->h'.IsCell c v:=λx c e v ⟨o,ho,hd⟩=>by
  have nch:c∉ch:=λz=>(hch c z).2.2.1 x c e rfl
  by_cases hc:c∈X.fs
  ·obtain ⟨sl,q⟩:=slot c o (I.cne x c e) hc nch ho (I.freeC x c e)
   exact ⟨_,q,hd⟩
  ·exact ⟨o,keep c o (I.cne x c e) hc nch ho (I.freeC x c e),hd⟩
 refine ⟨I.ok,I.os,hg,⟨λb o e n hb hx=>?_,λb o e n hb hx=>?_,λb o e n hx=>?_,λb o e hx=>?_,λb xs e=>tups b xs (I.base.tups b xs e),λb o xs e=>frzs b o xs (I.base.frzs b o xs e),λb ps e=>?_⟩,?_,λx c e=>?_,?_,λx c e=>?_,λp hp=>?_,hok,I.len⟩
 ·exact keep b o (neL b o e) hb (neC b o e hx) (I.base.keep b o e n hb hx) (I.base.free b o e n hx)
 ·obtain ⟨sl,e1⟩:=I.base.slot b o e n hb hx
  obtain ⟨sl',e2⟩:=slot b _ (neL b o e) hb (neC b o e hx) e1 (I.base.free b o e n hx);exact ⟨sl',e2⟩
 ·obtain ⟨o',e1⟩:=I.base.there b o e hx
  exact free b o' (neC b o e hx) e1 (I.base.free b o e n hx)
 ·obtain ⟨o',e1⟩:=I.base.there b o e hx
  exact there b o' (neC b o e hx) e1
 ·obtain ⟨m1,e1⟩:=I.base.tbls b ps e
  obtain ⟨m2,e2⟩:=tbls b _ e1;exact ⟨m1++m2,by rw [e2,Array.append_assoc]⟩
 ·obtain ⟨m,hn,hl⟩:=I.loc
  refine ⟨m,ns m hn,λi x v e1 e2 e3=>?_⟩;obtain ⟨u,r,l⟩:=hl i x v e1 e2 e3;refine ⟨u,r,?_⟩
  rcases l with l|⟨k,c,e,z⟩
  ·exact .inl l
  ·exact .inr ⟨k,c,e,cellK x c e _ z⟩
 ·obtain ⟨v,z⟩:=I.cell x c e
  exact ⟨v,cellK x c e v z⟩
 ·obtain ⟨m,⟨o,_,_,ho,_⟩,_⟩:=I.loc
  exact free _ o (λz=>(hch _ z).2.1 rfl) ho I.free
 ·obtain ⟨v,o,ho,hd⟩:=I.cell x c e
  exact free c o (λz=>(hch c z).2.2.1 x c e rfl) ho (I.freeC x c e)
 ·obtain ⟨e,n,ne,nf,d⟩:=I.pin p hp
  have nch:p.1∉ch:=λz=>(hch p.1 z).2.2.2 p hp rfl;exact ⟨keep p.1 p.2 ne nf nch e n,free p.1 p.2 nch e n,ne,nf,d⟩
def Inv.un {t':Nat}(I:Inv X U Z H s)(u:Un X.fs [] H H' s.heap h')(hok:HOk X.prog X.w H' h'):Inv X U Z H' { s with heap:=h',toks:=t' }:=by
 obtain ⟨m,⟨o,es,ep,ho,r⟩,_⟩:=id I.loc;obtain ⟨sl,hL⟩:=u.any ho I.free (by simp);exact I.step (g':=s.gens) (d':=s.drawn) (ch:=[]) (λ_ z=>nomatch z) (λb o _ hb _ e n=>u.keep b o e n hb (by simp)) (λb o _ hb _ e n=>u.slot b o e n hb (by simp)) (λb o _ e n=>u.free b o e n (by simp)) (λb o _ e=>u.there b o e (by simp)) u.tups u.frzs u.tbls (λm' hm=>by
  obtain ⟨o',es',ep',ho',r'⟩:=hm;rw [ho] at ho';cases ho';exact ⟨_,es',ep',hL,r'⟩) hok I.bare
def Inv.call {g':Array GenState}{t':Nat}{d':Drawn}{ch:List Gj}(I:Inv X U Z H s)(u:Un (frs X.stack) ch H H' s.heap h')(hok:HOk X.prog X.w H' h')(hg:AllBare g')
  (hch:∀ b∈ch,(b∈X.ex\/X.s₀.heap.objs.size<=b)/\b≠X.env.locals/\(∀ x c,X.env.cells.lookup x=some c->c≠b)/\∀ p∈X.pn++U,p.1≠b) :
  Inv X U Z H' { s with heap:=h',gens:=g',drawn:=d',toks:=t' }:=by
 obtain ⟨m,⟨o,es,ep,ho,r⟩,_⟩:=id I.loc;obtain ⟨sl,hL⟩:=u.any ho I.free λz=>(hch _ z).2.1 rfl;exact I.step (ch:=ch) hch (λb o hL hb hc e n=>u.keep b o e n (λz=>(Ay.mp (I.stkSub b z)).elim hL hb) hc) (λb o _ _ hc e n=>u.any e n hc) (λb o hc e n=>u.free b o e n hc) (λb o hc e=>u.there b o e hc) u.tups u.frzs u.tbls (λm' hm=>by
  obtain ⟨o',es',ep',ho',r'⟩:=hm;rw [ho] at ho';cases ho';exact ⟨_,es',ep',hL,r'⟩) hok hg
def Inv.turned {t':Nat}{it:Gj}(I:Inv X U Z H s)(k:∀ b o,b≠it->s.heap.get? b=some o->h'.get? b=some o)(hn:H it=none)(hL:it≠X.env.locals)
  (h1:it∈X.ex\/X.s₀.heap.objs.size<=it) (h2:∀ x c,X.env.cells.lookup x=some c->c≠it) (h3:∀ p∈X.pn++U,p.1≠it):Inv X U Z H { s with heap:=h',toks:=t' }:=by
 have nit:∀ b u,H b=some u->b≠it:=λb u e z=>by rw [z,hn] at e;cases e
 refine I.step (g':=s.gens) (d':=s.drawn) (ch:=[it]) (λb hb=>?_) (λb o _ _ hc e _=>k b o (λz=>hc (by simp [z])) e) (λb o _ _ hc e _=>⟨o.slots,k b o (λz=>hc (by simp [z])) e⟩) (λ_ _ _ _ n=>n)
  (λb o hc e=>⟨o,k b o (λz=>hc (by simp [z])) e⟩) (λ_ _ e=>e) (λ_ _ _ e=>e) (λb ps e=>⟨#[],by rw [e];simp⟩) (λm hm=>?_) (λb u e=>?_) I.bare
 ·have e:b=it:=by simpa using hb
  subst e;exact ⟨h1,hL,h2,h3⟩
 ·obtain ⟨o,es,ep,ho,r⟩:=hm
  exact ⟨o,es,ep,k _ o (Bi hL) ho,r⟩
 ·refine (I.hok b u e).stay (λc v hc q=>k c v ?_ q) (λ_ q=>q) λ_ _ q=>q
  rcases hc with z|z
  ·rw [z];exact nit b u e
  ·exact nit c _ z
def Inv.tok (I:Inv X U Z H s)(t:Nat):Inv X U Z H { s with toks:=t }:=I.un (h':=s.heap) (t':=t) Un.refl I.hok
def Inv.kept {t':Nat}(I:Inv X U Z H s)(k:∀ b u,s.heap.get? b=some u->h'.get? b=some u):Inv X U Z H { s with heap:=h',toks:=t' }:=I.un (Un.kept k) (I.hok.kept k)
theorem Inv.laid {t':Nat}(I:Inv X U Z H s)(k:∀ b u,s.heap.get? b=some u->h'.get? b=some u)(hp:s.heap.objs.size<=a)(new:ObjOk X.prog X.w (upd H a o) h' a o) :
  Inv X U Z (upd H a o) { s with heap:=h',toks:=t' }:=I.un (Un.laid k hp (I.hok.fresh hp)) (I.hok.laid k hp new)
def Inv.write {t':Nat}(I:Inv X U Z H s)(mu:Mut (H x))(he:e=x\/H e=some (.own x))(k:∀ b u,b≠e->s.heap.get? b=some u->h'.get? b=some u)(heo:∃ u,h'.get? e=some u)(new:ObjOk X.prog X.w (upd H x o) h' x o):Inv X U Z (upd H x o) { s with heap:=h',toks:=t' }:=I.un (Un.write mu he k heo) (I.hok.write mu he k heo new)
def Inv.weak {Z':List (Gr)}(I:Inv X U Z H s)(hl:Z'.length=Z.length)(w:∀ (i:Nat) v,Z'[i]?=some (some v)->Z[i]?=some (some v)):Inv X U Z' H s:=
 ⟨I.ok,I.os,I.bare,I.base,let ⟨m,hn,hl'⟩:=I.loc;⟨m,hn,λi x v e1 e2 e3=>hl' i x v e1 (w i v e2) e3⟩,I.cell,I.free,I.freeC,I.pin,I.hok,hl.trans I.len⟩
def Inv.pins_of (I:Inv X U Z H s)(h:∀ p∈pins',s.heap.get? p.1=some p.2/\H p.1=none/\p.1≠X.env.locals/\p.1∉X.fs/\∀ v,p.2.data≠.cell v):Inv X pins' Z H s:=
 ⟨I.ok,I.os,I.bare,I.base,I.loc,I.cell,I.free,I.freeC,λp hp=>(AS.mp hp).elim (λz=>I.pin p (List.mem_append_left _ z)) (h p),I.hok,I.len⟩
def rY {N:Gh}(hN:N.Nodup){i j:Nat}{x:Str}(a:N[i]?=some x)(b:N[j]?=some x):i=j:=by
 obtain ⟨h1,e1⟩:=Ad.mp a;obtain ⟨h2,e2⟩:=Ad.mp b;exact (List.getElem_inj hN).mp (e1.trans e2.symm)
def vN {M:Model}{A:Around}{E:Ga}{i:Nat}{x:Str}{v:V}{u:Gk}{Q:Unit->Gm->Prop}(I:Inv X U Z H s)(hN:X.N.Nodup)(hi:X.N[i]?=some x)(hx:Loc X.env.scope x)(r:RelV v u)
  (h:∀ s',Inv X U (Z.set i (some v)) H s'->(∃ a,Cf a s.heap s'.heap/\(a=X.env.locals\/X.env.cells.lookup x=some a))->Q () s') (hf:X.fn x=true\/X.env.scope.names.lookup x=some .local:=by first|exact .inl rfl|exact .inr rfl|assumption):wpAny M A (storeName X.env x u) Q E s:=by
 obtain ⟨m,hn,hl⟩:=id I.loc;have hcls:(X.env.scope.kind==.class||(X.env.scope.kind==.module&&X.env.locals != X.env.globals))=false:=by rw [I.ok.kind];rfl
 have hiZ:i<Z.length:=by rw [I.len];exact (Ad.mp hi).1
 have cne:=I.cne;have tracked:∀ {a:Gj} {h':Heap},(∃ o,s.heap.get? a=some o/\H a=none)->Cf a s.heap h'->HOk X.prog X.w H h':=λ{a h'} ha hs b ob e=>by
  obtain ⟨_,_,hfree⟩:=ha;refine (I.hok b ob e).stay (λc w' hc q=>(hs.2 c ?_).trans q) (λ_ q=>q) λ_ _ q=>q
  rintro rfl
  rcases hc with rfl|hc
  ·rw [hfree] at e;cases e
  ·rw [hfree] at hc;cases hc
 rcases hx with hk|hk
 ·refine wpAny_storeName_local hk hn (λh' hn' hs=>?_) hcls
  obtain ⟨oL,_,_,hoL,_⟩:=id hn;refine h _ ⟨I.ok,I.os,I.bare,⟨λb o e n hb hx=>?_,λb o e n hb hx=>?_,I.base.free,λb o e hx=>?_,I.base.tups,I.base.frzs,I.base.tbls⟩,⟨_,hn',λj y v' e1 e2 e3=>?_⟩,λy c e=>?_,I.free,I.freeC,λp hp=>?_,tracked ⟨oL,hoL,I.free⟩ hs,by simpa using I.len⟩ ⟨_,hs,.inl rfl⟩
  ·exact (hs.2 b (As (AU (Ao e) I.ok.above))).trans (I.base.keep b o e n hb hx)
  ·obtain ⟨sl,e1⟩:=I.base.slot b o e n hb hx
   exact ⟨sl,(hs.2 b (As (AU (Ao e) I.ok.above))).trans e1⟩
  ·obtain ⟨o',e1⟩:=I.base.there b o e hx
   exact ⟨o',(hs.2 b (As (AU (Ao e) I.ok.above))).trans e1⟩
  ·by_cases hj:j=i
   ·subst hj
    rw [hi] at e1;cases e1;rw [CT hiZ] at e2;cases e2;exact ⟨u,r,.inl ⟨hk,by simp⟩⟩
   ·rw [Cn (Bi hj)] at e2
    obtain ⟨u',r',q⟩:=hl j y v' e1 e2 e3;refine ⟨u',r',?_⟩
    rcases q with ⟨k,e⟩|⟨k,c,e,z⟩
    ·refine .inl ⟨k,?_⟩
     have:y≠x:=λe=>hj (rY hN e1 (e▸hi));simp [this,e]
    ·exact .inr ⟨k,c,e,z.sameBut hs (cne y c e)⟩
  ·obtain ⟨w',z⟩:=I.cell y c e
   exact ⟨w',z.sameBut hs (cne y c e)⟩
  ·obtain ⟨e,n,ne,nf,d⟩:=I.pin p hp
   exact ⟨(hs.2 p.1 ne).trans e,n,ne,nf,d⟩
 ·have hfn:X.fn x=true:=by
   rcases hf with z|z
   ·exact z
   ·rw [z] at hk;cases hk
  obtain ⟨c,hc⟩:=I.ok.has x (.inl hk);obtain ⟨w',z⟩:=I.cell x c hc;refine wpAny_storeName_cell I.ok.kind hk hc z (λh' hc' hs=>?_);obtain ⟨oc,hoc,hocd⟩:=id z;refine h { s with heap:=h' } ⟨I.ok,I.os,I.bare,⟨λb o e n hb hx=>?_,λb o e n hb hx=>?_,I.base.free,λb o e hx=>?_,I.base.tups,I.base.frzs,I.base.tbls⟩,⟨m,hn.sameBut hs (Bi (cne x c hc)),λj y v' e1 e2 e3=>?_⟩,λy c' e=>?_,I.free,I.freeC,λp hp=>?_,tracked ⟨oc,hoc,I.freeC x c hc⟩ hs,by simpa using I.len⟩ ⟨c,hs,.inr hc⟩
  ·exact (hs.2 b (As (AU (Ao e) (I.ok.cab x c hfn hc)))).trans (I.base.keep b o e n hb hx)
  ·obtain ⟨sl,e1⟩:=I.base.slot b o e n hb hx
   exact ⟨sl,(hs.2 b (As (AU (Ao e) (I.ok.cab x c hfn hc)))).trans e1⟩
  ·obtain ⟨o',e1⟩:=I.base.there b o e hx
   exact ⟨o',(hs.2 b (As (AU (Ao e) (I.ok.cab x c hfn hc)))).trans e1⟩
  ·by_cases hj:j=i
   ·subst hj
    rw [hi] at e1;cases e1;rw [CT hiZ] at e2;cases e2;exact ⟨u,r,.inr ⟨.inl hk,c,hc,hc'⟩⟩
   ·rw [Cn (Bi hj)] at e2
    obtain ⟨u',r',q⟩:=hl j y v' e1 e2 e3;refine ⟨u',r',?_⟩
    rcases q with q|⟨k,c',e,z'⟩
    ·exact .inl q
    ·refine .inr ⟨k,c',e,z'.sameBut hs ?_⟩
     rintro rfl
     exact hj (rY hN e1 (I.ok.inj _ _ _ e hc▸hi))
  ·by_cases hcc:c'=c
   ·subst hcc;exact ⟨_,hc'⟩
   ·obtain ⟨w2,z2⟩:=I.cell y c' e
    exact ⟨w2,z2.sameBut hs hcc⟩
  ·obtain ⟨e,n,ne,nf,d⟩:=I.pin p hp
   refine ⟨(hs.2 p.1 ?_).trans e,n,ne,nf,d⟩;intro q;rw [q,hoc] at e;have q':oc=p.2:=AF e;exact d w' (by rw [<- q'];exact hocd)
def iO {i:Nat}(I:Inv X U Z H s)(hN:X.N.Nodup)(hi:X.N[i]?=some x)(hx:Loc X.env.scope x)(r:RelV v u)(h:∀ s',Inv X U (Z.set i (some v)) H s'->Q () s')(hf:X.fn x=true\/X.env.scope.names.lookup x=some .local:=by first|exact .inl rfl|exact .inr rfl|assumption):wpAny M A (storeName X.env x u) Q E s:=
 vN I hN hi hx r (λs' I' _=>h s' I') hf
def Inv.call' (I:Inv X U Z H s)(ho:s'.os=s.os)(u:Un (frs X.stack) ch H H' s.heap s'.heap)(hok:HOk X.prog X.w H' s'.heap)(hg:AllBare s'.gens)(hch:∀ b∈ch,(b∈X.ex\/X.s₀.heap.objs.size<=b)/\b≠X.env.locals/\(∀ x c,X.env.cells.lookup x=some c->c≠b)/\∀ p∈X.pn++U,p.1≠b):Inv X U Z H' s':=by
 obtain ⟨h',g',d',t',o'⟩:=s';have e:o'=s.os:=ho;subst e;exact I.call (g':=g') (t':=t') (d':=d') u hok hg hch
end
abbrev XK:=Gk->Option Gj->Hp->Prop
abbrev St:=List (Gr)
abbrev VK:=V->Hp->Prop
abbrev Gs:=St->Hp->Prop
abbrev TE:=St->Hp->VK->Prop
abbrev TT:=St->Hp->(Bool->Hp->Prop)->Prop
abbrev TA:=St->Hp->(Gq->Hp->Prop)->Prop
structure Ends where
 nx:Gs
 rt:VK
 bk:Gs:=λ_ _=>False
 ct:Gs:=λ_ _=>False
abbrev TS:=Ends->Gs
def EP (X:Cx)(U:Ge)(Z:St)(Q:VK)(u:Gk)(s':Gm):Prop:=∃ v H',Inv X U Z H' s'/\RelV v u/\Q v H'
def TP (X:Cx)(U:Ge)(Z:St)(Q:Bool->Hp->Prop)(b:Bool)(s':Gm):Prop:=∃ H',Inv X U Z H' s'/\Q b H'
def AP (X:Cx)(U:Ge)(Z:St)(Q:Gq->Hp->Prop)(us:Gi)(s':Gm):Prop:=∃ vs H',Inv X U Z H' s'/\Vals vs us/\Q vs H'
def SP (X:Cx)(U:Ge)(D:Ends)(f:Flow)(s':Gm):Prop:=
 match f with
 |.next=>∃ Z' H',Inv X U Z' H' s'/\D.nx Z' H'
 |.brk=>∃ Z' H',Inv X U Z' H' s'/\D.bk Z' H'
 |.cont=>∃ Z' H',Inv X U Z' H' s'/\D.ct Z' H'
 |.ret u=>∃ v Z' H',Inv X U Z' H' s'/\RelV v u/\D.rt v H'
def PE (X:Cx)(e:Expr)(t:TE):Prop:=
 ∀ (U:Ge) (s:Gm) (Z:St) (H:Hp) (Q:VK),Inv X U Z H s->t Z H Q->wpAny (model X.prog X.w) X.A (eval e X.env) (EP X U Z Q) X.xe s
def PT (X:Cx)(e:Expr)(t:TT):Prop:=
 ∀ (U:Ge) (s:Gm) (Z:St) (H:Hp) (Q:Bool->Hp->Prop),Inv X U Z H s->t Z H Q->wpAny (model X.prog X.w) X.A (isTrue e X.env (eval e X.env)) (TP X U Z Q) X.xe s
def PW (X:Cx)(e:Expr)(t:TT):Prop:=
 ∀ (whole:Sem Gk) (U:Ge) (s:Gm) (Z:St) (H:Hp) (Q:Bool->Hp->Prop),Inv X U Z H s->t Z H Q->wpAny (model X.prog X.w) X.A (isTrue e X.env whole) (TP X U Z Q) X.xe s
def PW.pt (h:PW X e t):PT X e t:=h _
def PA (X:Cx)(es:List Expr)(t:TA):Prop:=
 ∀ (pos:Pos) (U:Ge) (s:Gm) (Z:St) (H:Hp) (Q:Gq->Hp->Prop),Inv X U Z H s->t Z H Q->wpAny (model X.prog X.w) X.A (spliced (backTo pos (AL es X.env))) (AP X U Z Q) X.xe s
def PS (X:Cx)(st:Stmt)(t:TS):Prop:=
 ∀ (U:Ge) (s:Gm) (Z:St) (H:Hp) (D:Ends),Inv X U Z H s->t D Z H->wpAny (model X.prog X.w) X.A (exec st X.env) (SP X U D) X.xe s
def PSs (X:Cx)(st:List Stmt)(t:TS):Prop:=
 ∀ (U:Ge) (s:Gm) (Z:St) (H:Hp) (D:Ends),Inv X U Z H s->t D Z H->wpAny (model X.prog X.w) X.A (execs st X.env) (SP X U D) X.xe s
def thn {α:Type}{t:Sem α}{Q Q':α->Gm->Prop}{M:Model}{A:Around}{E:Ga}{s:Gm}(h:wpAny M A t Q E s)(hQ:∀ a s,Q a s->Q' a s):wpAny M A t Q' E s:=BR h hQ λ_ _ x=>x
section
variable {X:Cx}
def bin {a b:Expr}{ta tb:TE}(ha:PE X a ta)(hb:PE X b tb){U:Ge}{s:Gm}{Z:St}{H:Hp}{R:V->V->Hp->Prop}(I:Inv X U Z H s)(h:ta Z H λx H1=>tb Z H1 λy H2=>R x y H2)
  {α:Type} {Q:α->Gm->Prop} {f:Gk->Gk->Sem α}
  (hf:∀ v u s2 x y H2,Inv X U Z H2 s2->RelV x v->RelV y u->R x y H2->wpAny (model X.prog X.w) X.A (f v u) Q X.xe s2) :
  wpAny (model X.prog X.w) X.A (eval a X.env) (λv s₁=>wpAny (model X.prog X.w) X.A (eval b X.env) (λu s₂=>wpAny (model X.prog X.w) X.A (f v u) Q X.xe s₂) X.xe s₁) X.xe s:=by
 refine thn (ha U s Z H _ I h) λv s1 ⟨x,H1,I1,r1,q1⟩=>?_;refine thn (hb U s1 Z H1 _ I1 q1) λu s2 ⟨y,H2,I2,r2,q2⟩=>?_;exact hf v u s2 x y H2 I2 r1 r2 q2
inductive RVar (i:Nat)(Z:St)(H:Hp)(Q:VK):Prop
 |mk (v:V) (e:Z[i]?=some (some v)) (h:Q v H)
def tVar (i:Nat):TE:=RVar i
def tC (v:V):TE:=λ_ H Q=>Q v H
def aCs {i:Nat}(hN:X.N[i]?=some x)(hv:Vis X.env.scope x)(hd:(x==("__debug__":Str))=false:=by decide)(hcd:(x==("__classdict__":Str))=false:=by decide):PE X (.Name x pos) (tVar i):=by
 intro U s Z H Q I h;obtain ⟨v,e,h⟩:=h;obtain ⟨m,hn,hl⟩:=I.loc;obtain ⟨u,r,l⟩:=hl i x v hN e hv;have fin:EP X U Z Q u s:=⟨v,H,I,r,h⟩
 rcases l with ⟨hk,hm⟩|⟨hk,c,hc,hcell⟩
 ·exact wpAny_Name (wpAny_loadName_local I.ok.kind hk hn hm fin) hd
 ·rcases hk with hk|hk
  ·exact wpAny_Name (wpAny_loadName_cell I.ok.kind hk hc hcell fin) hd
  ·exact wpAny_Name (wpAny_loadName_free I.ok.kind hk hc hcell fin hcd) hd
def aG {i j pos}:PE X (.Constant (.int i) j pos) (tC (.int i)):=λ_ _ _ H _ I h=>wpAny_Constant_int ⟨.int i,H,I.tok _,⟨_,rfl⟩,h⟩
def iD {b j pos}:PE X (.Constant (.bool b) j pos) (tC (.bl b)):=λ_ _ _ H _ I h=>Constant_bool ⟨.bl b,H,I,rfl,h⟩
def dO {j pos}:PE X (.Constant .none j pos) (tC .non):=λ_ _ _ H _ I h=>Constant_none ⟨.non,H,I,rfl,h⟩
def aS {x j pos}:PE X (.Constant (.str x) j pos) (tC (.str x)):=λ_ _ _ H _ I h=>Calls.Constant_str ⟨.str x,H,I.tok _,⟨_,rfl⟩,h⟩
def Gl (X:Cx)(x:Str):Prop:=X.env.kindOf x=some .globalImplicit
def fV {Z:St}(I:Inv X U Z H s)(hg:Gl X x)(hm:X.mg x=some u)(h:Q u s)(hd:(x==("__debug__":Str))=false:=by decide):wpAny (model X.prog X.w) X.A (eval (.Name x pos) X.env) Q E s:=
 Calls.Name_function_global I.ok.kind hg (Calls.loadGlobal_global (by rw [I.ok.glob];exact I.mod.glob.keeps I.bk) hm h) hd
def iJ {Z:St}(I:Inv X U Z H s)(hg:Gl X x)(hm:X.mg x=none)(hv:BZ x=some u)(h:Q u s)(hn:x ≠ "__name__":=by decide)(hd:(x==("__debug__":Str))=false:=by decide):wpAny (model X.prog X.w) X.A (eval (.Name x pos) X.env) Q E s:=by
 obtain ⟨mb,h1,h2⟩:=I.mod.blt;exact Calls.Name_function_global I.ok.kind hg (Calls.loadGlobal_builtin (by rw [I.ok.glob];exact I.mod.glob.keeps I.bk) hm (by rw [I.ok.blt];exact h1.keeps I.bk) ((h2 x hn).trans hv) h) hd
def fD (hg:Gl X x)(hm:X.mg x=some u)(r:RelV v u)(hd:(x==("__debug__":Str))=false:=by decide):PE X (.Name x pos) (tC v):=
 λ_ _ _ H _ I h=>fV I hg hm ⟨v,H,I,r,h⟩ hd
def gF (hg:Gl X x)(hm:X.mg x=none)(hv:BZ x=some u)(r:RelV v u)(hn:x ≠ "__name__":=by decide)(hd:(x==("__debug__":Str))=false:=by decide):PE X (.Name x pos) (tC v):=
 λ_ _ _ H _ I h=>iJ I hg hm hv ⟨v,H,I,r,h⟩ hn hd
def t2I (ta tb:TE)(k:Int->Int->Hp->Prop):Gs:=λZ H=>ta Z H λx H1=>tb Z H1 λy H2=>∃ i j,x=.int i/\y=.int j/\k i j H2
def tAdd (ta tb:TE):TE:=λZ H Q=>t2I ta tb (λi j H2=>Q (.int (i+j)) H2) Z H
def tSub (ta tb:TE):TE:=λZ H Q=>t2I ta tb (λi j H2=>Q (.int (i-j)) H2) Z H
def tMul (ta tb:TE):TE:=λZ H Q=>t2I ta tb (λi j H2=>(-(2^64)<i/\i<2^64)/\Q (.int (i*j)) H2) Z H
variable {a b:Expr}{ta tb:TE}{pos:Pos}
def PC (X:Cx)(op:CmpOp)(a b:Expr)(t:TE):Prop:=
 ∀ (U:Ge) (s:Gm) (Z:St) (H:Hp) (Q:VK),Inv X U Z H s->t Z H Q ->
  wpAny (model X.prog X.w) X.A (eval a X.env) (λv s₁=>wpAny (model X.prog X.w) X.A (eval b X.env) (λu s₂=>wpAny (model X.prog X.w) X.A (BB op v u) (EP X U Z Q) X.xe s₂) X.xe s₁) X.xe s
def tCmp (p:Int->Int->Bool)(ta tb:TE):TE:=λZ H Q=>t2I ta tb (λi j H2=>Q (.bl (p i j)) H2) Z H
abbrev tLt:TE->TE->TE:=tCmp λi j=>decide (i<j)
abbrev tLe:TE->TE->TE:=tCmp λi j=>decide (i<=j)
abbrev tGt:TE->TE->TE:=tCmp λi j=>decide (j<i)
abbrev tGe:TE->TE->TE:=tCmp λi j=>decide (j<=i)
abbrev tEqI:TE->TE->TE:=tCmp λi j=>decide (i=j)
abbrev tNeI:TE->TE->TE:=tCmp λi j=>!decide (i=j)
def tIsN (ta:TE):TE:=λZ H Q=>ta Z H λx H1=>Q (.bl (decide (x=.non))) H1
def tNotN (ta:TE):TE:=λZ H Q=>ta Z H λx H1=>Q (.bl (!decide (x=.non))) H1
inductive RB (Q:Bool->Hp->Prop)(x:V)(H:Hp):Prop
 |mk (c:Bool) (e:x=.bl c) (h:Q c H)
def tB (t:TE):TT:=λZ H Q=>t Z H (RB Q)
def pt_cmp {op:CmpOp}{t:TE}(h:PC X op a b t)(h1:behindInMarks op b=false:=by first|exact nobehind _ (by decide) (by decide)|rfl):PT X (.Compare a [op] [b] pos) (tB t):=by
 intro U s Z H Q I hw;refine wpAny_isTrue_Compare1 (thn (h U s Z H _ I hw) λv s1 h1=>thn h1 λu s2 h2=>thn h2 λc s3 ⟨x,H1,I1,r1,q1⟩=>?_) h1;obtain ⟨d,rfl,q⟩:=q1;cases r1;exact Du ⟨H1,I1,q⟩
def eA {e:Expr}{t:TE}(h:PE X e t)(he:∀ whole,isTrue e X.env whole=(do let v <- whole;standAt e.pos;holding [v] (truthy v)):=by intro _;rfl):PT X e (tB t):=by
 intro U s Z H Q I hw;refine isTrue_plain (thn (h U s Z H _ I hw) λv s1 ⟨x,H1,I1,r1,q1⟩=>?_) (he _);obtain ⟨d,rfl,q⟩:=q1;cases r1;exact Du ⟨H1,I1,q⟩
variable {tA tB':TT}{rest:List Expr}
def tAnd (t u:TT):TT:=λZ H Q=>t Z H λc H1=>if c=true then u Z H1 Q else Q false H1
def tOr (t u:TT):TT:=λZ H Q=>t Z H λc H1=>if c=true then Q true H1 else u Z H1 Q
def tNot (t:TT):TT:=λZ H Q=>t Z H λc H1=>Q (!c) H1
def gD (ha:PT X a tA):PW X (.BoolOp .And [a] pos) tA:=by
 intro wh U s Z H Q I h;refine isTrue_and (thn (ha U s Z H Q I h) λc s1 e=>?_);cases c with
 |true=>exact isTrue_and_nil e
 |false=>exact e
def iH (ha:PT X a tA):PW X (.BoolOp .Or [a] pos) tA:=by
 intro wh U s Z H Q I h;refine isTrue_or (thn (ha U s Z H Q I h) λc s1 e=>?_);cases c with
 |false=>exact isTrue_or_nil e
 |true=>exact e
def jQ (ha:PT X a tA)(hb:PW X (.BoolOp .And (b::rest) pos) tB'):PW X (.BoolOp .And (a::b::rest) pos) (tAnd tA tB'):=by
 intro wh U s Z H Q I h;refine isTrue_and (thn (ha U s Z H _ I h) λc s1 ⟨H1,I1,q1⟩=>?_);cases c with
 |true=>exact hb wh U s1 Z H1 Q I1 q1
 |false=>exact ⟨H1,I1,q1⟩
def mB (ha:PT X a tA)(hb:PW X (.BoolOp .Or (b::rest) pos) tB'):PW X (.BoolOp .Or (a::b::rest) pos) (tOr tA tB'):=by
 intro wh U s Z H Q I h;refine isTrue_or (thn (ha U s Z H _ I h) λc s1 ⟨H1,I1,q1⟩=>?_);cases c with
 |true=>exact ⟨H1,I1,q1⟩
 |false=>exact hb wh U s1 Z H1 Q I1 q1
def fJ (ha:PT X a tA):PT X (.UnaryOp .Not a pos) (tNot tA):=by
 intro U s Z H Q I h;exact isTrue_not (ha U s Z H (λc H1=>Q (!c) H1) I h)
inductive RIf (x:V)(A B:Prop):Prop
 |mk (c:Bool) (e:x=.bl c) (h:if c=true then A else B)
def aIn (ta tb:TE):TE:=λZ H Q=>ta Z H λx H1=>RIf x (tb Z H1 Q) (Q (.bl false) H1)
def tOrV (ta tb:TE):TE:=λZ H Q=>ta Z H λx H1=>RIf x (Q (.bl true) H1) (tb Z H1 Q)
def aIi (ta:TE):TE:=λZ H Q=>ta Z H λx H1=>∃ c,x=.bl c/\Q (.bl (!c)) H1
def gQ {op}(h:PE X a t):PE X (.BoolOp op [a] pos) t:=λU s Z H Q I hw=>BoolOp_one (h U s Z H Q I hw)
def iI (ha:PE X a ta)(hb:PE X (.BoolOp .And (b::rest) pos) tb):PE X (.BoolOp .And (a::b::rest) pos) (aIn ta tb):=by
 intro U s Z H Q I h;refine BoolOp_and (thn (ha U s Z H _ I h) λv s1 ⟨x,H1,I1,r1,q1⟩=>?_);obtain ⟨c,rfl,q1⟩:=q1;cases r1;refine Du ?_;cases c with
 |true=>exact hb U s1 Z H1 Q I1 q1
 |false=>exact ⟨.bl false,H1,I1,rfl,q1⟩
def aG3 (ha:PE X a ta)(hb:PE X (.BoolOp .Or (b::rest) pos) tb):PE X (.BoolOp .Or (a::b::rest) pos) (tOrV ta tb):=by
 intro U s Z H Q I h;refine BoolOp_or (thn (ha U s Z H _ I h) λv s1 ⟨x,H1,I1,r1,q1⟩=>?_);obtain ⟨c,rfl,q1⟩:=q1;cases r1;refine Du ?_;cases c with
 |false=>exact hb U s1 Z H1 Q I1 q1
 |true=>exact ⟨.bl true,H1,I1,rfl,q1⟩
def aCt (ha:PE X a ta):PE X (.UnaryOp .Not a pos) (aIi ta):=by
 intro U s Z H Q I h;refine UnaryOp_ (thn (ha U s Z H _ I h) λv s1 ⟨x,H1,I1,r1,q1⟩=>?_);obtain ⟨c,rfl,q1⟩:=q1;cases r1;exact not_of (Du ⟨.bl (!c),H1,I1,rfl,q1⟩)
def tIf (t:TT)(ta tb:TE):TE:=λZ H Q=>t Z H λc H1=>if c=true then ta Z H1 Q else tb Z H1 Q
def aA6 {c:Expr}(hc:PT X c tA)(ha:PE X a ta)(hb:PE X b tb):PE X (.IfExp c a b pos) (tIf tA ta tb):=by
 intro U s Z H Q I h;refine wpAny_IfExp (thn (hc U s Z H _ I h) λd s1 ⟨H1,I1,q1⟩=>?_);cases d with
 |true=>exact ha U s1 Z H1 Q I1 q1
 |false=>exact hb U s1 Z H1 Q I1 q1
end
def SqL (K:Ab)(H:Hp)(a:Gj)(xs:Gq):Prop:=
 Rd H a (.lst xs) \/
  ∃ (o:Obj) (its:Array Gk) (n:Nat),K.lookup a=some o/\o.cls=.type "list" /\ o.dict=none/\o.data=.seq its n/\its.size<=Au/\Vals xs its.toList
def SqT (K:Ab)(H:Hp)(a:Gj)(xs:Gq):Prop:=
 Rd H a (.tup xs) \/
  ∃ (o:Obj) (its:Array Gk) (n:Nat),K.lookup a=some o/\o.cls=.type "tuple" /\ o.data=.seq its n/\its.size<=Au/\Vals xs its.toList
def absV:Gk->Gr
 |.none=>some .non
 |.bool b=>some (.bl b)
 |.int i _=>some (.int i)
 |.str x _=>some (.str x)
 |.bytes b _=>some (.byt b)
 |.float b _=>some (.flt b)
 |.ref a=>some (.ref a)
 |.type n=>some (.ty n)
 |_=>none
def RelV.abs (r:RelV x u):absV u=some x:=by
 cases x with
 |non=>cases r;rfl
 |bl _=>cases r;rfl
 |int _=>obtain ⟨t,rfl⟩:=r;rfl
 |str _=>obtain ⟨t,rfl⟩:=r;rfl
 |byt _=>obtain ⟨t,rfl⟩:=r;rfl
 |flt _=>obtain ⟨t,rfl⟩:=r;rfl
 |ref _=>cases r;rfl
 |ty _=>cases r;rfl
theorem RelV.inj (r:RelV x u)(q:RelV y u):x=y:=AF (r.abs.symm.trans q.abs)
theorem Vals.inj:∀ {xs ys:Gq} {us:Gi},Vals xs us->Vals ys us->xs=ys
 |_,_,_,.nil,.nil=>rfl
 |_,_,_,.cons r t,.cons r' t'=>by rw [r.inj r',Vals.inj t t']
section
variable {X:Cx}{U:Ge}{Z:St}{H:Hp}{s:Gm}{a:Gj}{xs ys:Gq}
def SqL.of {K:Ab}(h:H a=some (.lst xs)):SqL K H a xs:=.inl (.inl h)
def Gw {K:Ab}(h:H a=some (.lst xs)):SqL K H a xs:=SqL.of h
def SqT.of {K:Ab}(h:H a=some (.tup xs)):SqT K H a xs:=.inl (.inl h)
def Gv {K:Ab}(h:H a=some (.tup xs)):SqT K H a xs:=SqT.of h
def Inv.list (I:Inv X U Z H s)(h:SqL X.K H a xs):∃ its:Gi,Vals xs its/\PlainL s.heap a its.toArray/\xs.length<=Au:=by
 rcases h with h|⟨o,its,n,hk,hc,hd,hs,hz,r⟩
 ·obtain ⟨z,its,n,r,e⟩:=h.ok I.hok
  exact ⟨its,r,⟨_,n,e,rfl,rfl,rfl⟩,z⟩
 ·refine ⟨its.toList,r,⟨o,n,I.kIn a o hk,hc,hd,by simpa using hs⟩,?_⟩
  have e:=r.length;simp only [BE] at e;lia
def Inv.tuple (I:Inv X U Z H s)(h:SqT X.K H a xs):∃ its:Gi,Vals xs its/\IsTup s.heap a its.toArray/\xs.length<=Au:=by
 rcases h with h|⟨o,its,n,hk,hc,hs,hz,r⟩
 ·obtain ⟨z,its,r,p⟩:=h.ok I.hok
  exact ⟨its,r,p,z.1⟩
 ·refine ⟨its.toList,r,⟨o,I.kIn a o hk,hc,n,by simpa using hs⟩,?_⟩
  have e:=r.length;simp only [BE] at e;lia
theorem Inv.list_inj (I:Inv X U Z H s)(h:SqL X.K H a xs)(h':SqL X.K H a ys):xs=ys:=by
 obtain ⟨its,r,⟨o,n,e,_,_,d⟩,_⟩:=I.list h;obtain ⟨its',r',⟨o',n',e',_,_,d'⟩,_⟩:=I.list h';rw [e] at e';cases e';rw [d] at d';injection d' with d1 _;have:its=its':=by simpa using congrArg Array.toList d1
 subst this;exact r.inj r'
theorem Inv.tuple_inj (I:Inv X U Z H s)(h:SqT X.K H a xs)(h':SqT X.K H a ys):xs=ys:=by
 obtain ⟨its,r,⟨o,e,_,n,d⟩,_⟩:=I.tuple h;obtain ⟨its',r',⟨o',e',_,n',d'⟩,_⟩:=I.tuple h';rw [e] at e';cases e';rw [d] at d';injection d' with d1 _;have:its=its':=by simpa using congrArg Array.toList d1
 subst this;exact r.inj r'
end
abbrev Cx.wish (X:Cx)(E:Ga):Cx:={ X with xe:=E }
abbrev Cx.nox (X:Cx):Cx:=X.wish λ_ _=>False
def Cx.Ok.wish {X:Cx}(ok:X.Ok)(E:Ga):(X.wish E).Ok:=
 ⟨ok.mod,ok.kind,ok.glob,ok.blt,ok.above,ok.inj,ok.has,ok.cab,ok.hd,ok.frames,ok.stk,ok.exf,ok.bs,ok.bsz,ok.noex,ok.exfs,ok.funs,ok.frf⟩
def Cx.Ok.unwish {X:Cx}{E:Ga}(ok:(X.wish E).Ok):X.Ok:=
 ⟨ok.mod,ok.kind,ok.glob,ok.blt,ok.above,ok.inj,ok.has,ok.cab,ok.hd,ok.frames,ok.stk,ok.exf,ok.bs,ok.bsz,ok.noex,ok.exfs,ok.funs,ok.frf⟩
section
variable {X:Cx}{U:Ge}{Z:St}{H:Hp}{s:Gm}{E:Ga}
def Inv.wish (I:Inv X U Z H s)(E:Ga):Inv (X.wish E) U Z H s:=⟨I.ok.wish E,I.os,I.bare,I.base,I.loc,I.cell,I.free,I.freeC,I.pin,I.hok,I.len⟩
def Inv.unwish (I:Inv (X.wish E) U Z H s):Inv X U Z H s:=⟨I.ok.unwish,I.os,I.bare,I.base,I.loc,I.cell,I.free,I.freeC,I.pin,I.hok,I.len⟩
def SP.unwish (h:SP (X.wish E) U D f s'):SP X U D f s':=by
 cases f with
 |next=>obtain ⟨Z',H',I,q⟩:=h;exact ⟨Z',H',I.unwish,q⟩
 |brk=>obtain ⟨Z',H',I,q⟩:=h;exact ⟨Z',H',I.unwish,q⟩
 |cont=>obtain ⟨Z',H',I,q⟩:=h;exact ⟨Z',H',I.unwish,q⟩
 |ret u=>obtain ⟨v,Z',H',I,r,q⟩:=h;exact ⟨v,Z',H',I.unwish,r,q⟩
def PSs.nox {st:List Stmt}{t:TS}(h:PSs X.nox st t):PSs X st t:=λU s Z H D I hw=>
 BR (h U s Z H D (I.wish _) hw) (λ_ _ q=>q.unwish) λ_ _ z=>CA z
end
section
variable {X:Cx}{st:Stmt}{rest:List Stmt}{t u:TS}{e:Expr}{te:TE}{pos:Pos}
def aDo:TS:=λD Z H=>D.nx Z H
def tSeq (t u:TS):TS:=λD Z H=>t { D with nx:=u D } Z H
def aQ:PSs X [] aDo:=λ_ _ Z H _ I h=>Fs ⟨Z,H,I,h⟩
def aD (h1:PS X st t)(h2:PSs X rest u):PSs X (st::rest) (tSeq t u):=by
 intro U s Z H D I h;refine wpAny_execs_cons (thn (h1 U s Z H { D with nx:=u D } I h) λf s1 q=>?_);cases f with
 |next=>
  obtain ⟨Z',H',I',q⟩:=q;exact h2 U s1 Z' H' D I' q
 |ret v=>exact q
 |brk=>exact q
 |cont=>exact q
def aE (h1:PS X st t):PSs X [st] t:=by
 intro U s Z H D I h;refine wpAny_execs_cons (thn (h1 U s Z H D I h) λf s1 q=>?_);cases f with
 |next=>exact Fs q
 |ret v=>exact q
 |brk=>exact q
 |cont=>exact q
def tBreak:TS:=λD Z H=>D.bk Z H
def tCont:TS:=λD Z H=>D.ct Z H
def Inv.quiet {Z:St}(I:Inv X U Z H s):interactive X.env=false:=by simp [interactive,I.ok.kind]
def aF9 (te:TE):TS:=λD Z H=>te Z H λ_ H1=>D.nx Z H1
def dP (he:PE X e te)(hs:Fd e none pos.line X.env=pure false:=by rfl):PS X (.Expr e pos) (aF9 te):=by
 intro U s Z H D I h;exact wpAny_Expr_any (thn (he U s Z H _ I h) λv s1 ⟨x,H1,I1,r1,q1⟩=>⟨Z,H1,I1,q1⟩) I.quiet hs
def tRet (te:TE):TS:=λD Z H=>te Z H D.rt
def aM (he:PE X e te):PS X (.Return (some e) pos) (tRet te):=by
 intro U s Z H D I h;exact wpAny_Return_some (thn (he U s Z H _ I h) λv s1 ⟨x,H1,I1,r1,q1⟩=>⟨x,Z,H1,I1,r1,q1⟩)
def tRetN:TS:=λD _ H=>D.rt .non H
def tIfS (c:TT)(t u:TS):TS:=λD Z H=>c Z H λb H1=>if b=true then t D Z H1 else u D Z H1
def bH {c:Expr}{a b:List Stmt}{tc:TT}(hc:PT X c tc)(ha:PSs X a t)(hb:PSs X b u):PS X (.If c a b pos) (tIfS tc t u):=by
 intro U s Z H D I h;refine wpAny_If (thn (hc U s Z H _ I h) λd s1 ⟨H1,I1,q1⟩=>?_);cases d with
 |true=>exact ha U s1 Z H1 D I1 q1
 |false=>exact hb U s1 Z H1 D I1 q1
def aF5:TS:=λ_ _ _=>False
def aA3:PS X st aF5:=λ_ _ _ _ _ _ h=>h.elim
end
abbrev TG:=V->St->Hp->(Gs)->Prop
abbrev TGs:=Gq->St->Hp->(Gs)->Prop
def PG (X:Cx)(target:Expr)(t:TG):Prop:=
 ∀ (U:Ge) (s:Gm) (Z:St) (H:Hp) (v:V) (u:Gk) (Q:Gs),Inv X U Z H s->RelV v u->t v Z H Q ->
  wpAny (model X.prog X.w) X.A (assign target X.env u) (λ_ s'=>∃ Z' H',Inv X U Z' H' s'/\Q Z' H') X.xe s
def PGs (X:Cx)(ts:List Expr)(t:TGs):Prop:=
 ∀ (U:Ge) (s:Gm) (Z:St) (H:Hp) (vs:Gq) (us:Gi) (Q:Gs),Inv X U Z H s->Vals vs us->t vs Z H Q ->
  wpAny (model X.prog X.w) X.A (assignInOrder ((assignEach ts X.env).map (·.2)) us) (λ_ s'=>∃ Z' H',Inv X U Z' H' s'/\Q Z' H') X.xe s
abbrev TSet:=V->V->V->Hp->(Hp->Prop)->Prop
def PSet (X:Cx)(t:TSet):Prop:=
 ∀ (U:Ge) (s:Gm) (Z:St) (H:Hp) (o i v:V) (ov iv u:Gk) (Q:Hp->Prop),Inv X U Z H s->RelV o ov->RelV i iv->RelV v u->t o i v H Q ->
  wpAny (model X.prog X.w) X.A (setItem ov iv u) (λ_ s'=>∃ H',Inv X U Z H' s'/\Q H') X.xe s
abbrev TIp:=V->V->Hp->VK->Prop
def PIp (X:Cx)(op:Operator)(t:TIp):Prop:=
 ∀ (U:Ge) (s:Gm) (Z:St) (H:Hp) (x y:V) (v u:Gk) (Q:VK),Inv X U Z H s->RelV x v->RelV y u->t x y H Q ->
  wpAny (model X.prog X.w) X.A (inplaceOp op v u) (EP X U Z Q) X.xe s
section
variable {X:Cx}{pos:Pos}
def gName (i:Nat):TG:=λv Z H Q=>Q (Z.set i (some v)) H
def gE {i:Nat}(hN:X.N.Nodup)(hi:X.N[i]?=some x)(hx:Loc X.env.scope x)(hf:X.fn x=true\/X.env.scope.names.lookup x=some .local:=by first|exact .inl rfl|exact .inr rfl|assumption):PG X (.Name x pos) (gName i):=by
 intro U s Z H v u Q I r h;exact wpAny_assign_Name (iO I hN hi hx r (λs' I'=>⟨_,H,I',h⟩) hf)
def aR {i:Nat}(hN:X.N.Nodup)(hi:X.N[i]?=some x:=by rfl)(hx:Loc X.env.scope x:=by first|exact .inl rfl|exact .inr rfl)(hf:X.fn x=true\/X.env.scope.names.lookup x=some .local:=by first|exact .inl rfl|exact .inr rfl|assumption):PG X (.Name x pos) (gName i):=gE hN hi hx hf
def gNil:TGs:=λvs Z H Q=>vs=[]/\Q Z H
inductive RGc (t:TG)(u:TGs)(vs:Gq)(Z:St)(H:Hp)(Q:Gs):Prop
 |mk (v:V) (r:Gq) (e:vs=v::r) (h:t v Z H λZ' H'=>u r Z' H' Q)
def qG (t:TG)(u:TGs):TGs:=RGc t u
def eD:PGs X [] gNil:=by
 intro U s Z H vs us Q I r h;obtain ⟨e,h⟩:=h;subst e;cases r;exact assignInOrder_nil ⟨Z,H,I,h⟩
def bE {e:Expr}{es:List Expr}{t:TG}{u:TGs}(h1:PG X e t)(h2:PGs X es u)
  (hs:(assignEach (e::es) X.env).map (·.2)=assign e X.env::(assignEach es X.env).map (·.2):=by rfl):PGs X (e::es) (qG t u):=by
 intro U s Z H vs us Q I r h;obtain ⟨v,vr,e1,h⟩:=h;subst e1;cases r with
 |cons r rr=>
  rw [hs];refine assignInOrder_cons (thn (h1 U s Z H _ _ _ I r h) λ_ s1 ⟨Z1,H1,I1,q1⟩=>?_);exact h2 U s1 Z1 H1 _ _ Q I1 rr q1
inductive RGt (K:Ab)(n:Nat)(t:TGs)(v:V)(Z:St)(H:Hp)(Q:Gs):Prop
 |mk (a:Gj) (xs:Gq) (e:v=.ref a) (q:SqT K H a xs) (l:xs.length=n) (h:t xs Z H Q)
def gTup (K:Ab)(n:Nat)(t:TGs):TG:=RGt K n t
def fR {k:Nat}{n:Nat}(hc:X.calm=true)(h:PGs X es t)(hn:(assignEach es X.env).length=n:=by rfl)(hst:(assignEach es X.env).findIdx? (·.1)=none:=by rfl):PG X (.Tuple es k pos) (gTup X.K n t):=by
 intro U s Z H v u Q I r hw;obtain ⟨a,xs,e1,hq,hl,hw⟩:=hw;subst e1;cases r;obtain ⟨its,rv,ht,hz⟩:=I.tuple hq;refine assign_Tuple_tuple (I.ok.hd hc) ht (by simp [hn,<- hl,rv.length]) hst λh' hx=>?_;have I1:Inv X U Z H { s with heap:=h' }:=I.kept (t':=s.toks) λb o e=>hx b o (As (Ao e)) e;exact h U _ Z H xs _ Q I1 (by simpa using rv) hw
def gSub (to ti:TE)(t:TSet):TG:=λv Z H Q=>to Z H λo H1=>ti Z H1 λi H2=>t o i v H2 λH3=>Q Z H3
def jU {o i:Expr}{to ti:TE}{t:TSet}(ho:PE X o to)(hi:PE X i ti)(hs:PSet X t)
  (ha:∀ v,assign (.Subscript o i pos) X.env v=(do
   let ov <- holding [v] (eval o X.env)
   let iv <- holding [v,ov] (eval i X.env)
   standAt pos
   holding [v,ov,iv] (setItem ov iv v)
   release [v,ov,iv] []):=by intro _;rfl):PG X (.Subscript o i pos) (gSub to ti t):=by
 intro U s Z H v u Q I r h;rw [ha];refine Aa (Br (thn (ho U s Z H _ I h) λov s1 ⟨x,H1,I1,r1,q1⟩=>?_));refine Aa (Br (thn (hi U s1 Z H1 _ I1 q1) λiv s2 ⟨y,H2,I2,r2,q2⟩=>?_));refine Aa (Fn (Aa (Br (thn (hs U s2 Z H2 x y v ov iv u _ I2 r1 r2 r q2) λ_ s3 ⟨H3,I3,q3⟩=>?_))));exact wpAny_release ⟨Z,H3,I3,q3⟩
def tAsg (te:TE)(g:TG):TS:=λD Z H=>te Z H λx H1=>g x Z H1 D.nx
def fQ {tg e:Expr}{te:TE}{g:TG}(he:PE X e te)(hg:PG X tg g)(hs:swapsWithSole [tg] e pos.line X.env=pure false:=by rfl)(hw:swappedStores [tg] e X.env=pure none:=by rfl)
  (h1:(assignEach [tg] X.env).map (·.2)=[assign tg X.env]:=by rfl):PS X (.Assign [tg] e pos) (tAsg te g):=by
 intro U s Z H D I h;refine wpAny_Assign_stores (thn (he U s Z H _ I h) λv s1 ⟨x,H1,I1,r1,q1⟩=>?_) hs hw;rw [h1];exact thn (hg U s1 Z H1 x v _ I1 r1 q1) λ_ s2 q=>q
def aCp {i:Nat}{x:Str}{e:Expr}{te:TE}{pos':Pos}(hN:X.N.Nodup)(hi:X.N[i]?=some x)(hx:Loc X.env.scope x)(he:PE X e te)(hs:Fd e (some (.Name x pos')) pos.line X.env=pure false:=by rfl)(hf:X.fn x=true\/X.env.scope.names.lookup x=some .local:=by first|exact .inl rfl|exact .inr rfl|assumption) :
  PS X (.Assign [.Name x pos'] e pos) (tAsg te (gName i)):=by
 intro U s Z H D I h;refine wpAny_Assign_Name (thn (he U s Z H _ I h) λv s1 ⟨y,H1,I1,r1,q1⟩=>?_) hs;exact iO I1 hN hi hx r1 (λs2 I2=>⟨_,H1,I2,q1⟩) hf
def aJ {i:Nat}(hN:X.N.Nodup)(he:PE X e te)(hi:X.N[i]?=some x:=by rfl)(hx:Loc X.env.scope x:=by first|exact .inl rfl|exact .inr rfl)(hs:Fd e (some (.Name x pos')) pos.line X.env=pure false:=by rfl)(hf:X.fn x=true\/X.env.scope.names.lookup x=some .local:=by first|exact .inl rfl|exact .inr rfl|assumption):PS X (.Assign [.Name x pos'] e pos) (tAsg te (gName i)):=aCp hN hi hx he hs hf
def tPar (i j:Nat)(ta:TA):TS:=λD Z H=>ta Z H λvs H1=>∃ v w,vs=[v,w]/\D.nx ((Z.set i (some v)).set j (some w)) H1
def aG1 {i j:Nat}{x y:Str}{a b:Expr}{ta:TA}{px py pt:Pos}{kt k2 pt2}(hc:X.calm=true)(hN:X.N.Nodup)(hi:X.N[i]?=some x)(hj:X.N[j]?=some y)(hij:i≠j)
  (hx:X.env.scope.names.lookup x=some .local) (hy:X.env.scope.names.lookup y=some .local) (ha:PA X [a,b] ta)
  (hw:swappedStores [.Tuple [.Name x px,.Name y py] kt pt] (.Tuple [a,b] k2 pt2) X.env=pure (some [x,y]))
  (hs:swapsWithSole [.Tuple [.Name x px,.Name y py] kt pt] (.Tuple [a,b] k2 pt2) pos.line X.env=pure false:=by rfl) :
  PS X (.Assign [.Tuple [.Name x px,.Name y py] kt pt] (.Tuple [a,b] k2 pt2) pos) (tPar i j ta):=by
 intro U s Z H D I h;rw [exec_Assign_arm];refine Aa (Fn ?_);rw [hs];refine Aa (Ag ?_);rw [if_neg (by decide)];refine Aa (Tuple_ (thn (ha _ U s Z H _ I h) λus s1 ⟨vs,H1,I1,r1,q1⟩=>?_));obtain ⟨v,w,e1,q1⟩:=q1;subst e1;obtain ⟨u1,u2,rfl,rv,rw'⟩:∃ u1 u2,us=[u1,u2]/\RelV v u1/\RelV w u2:=by
  cases r1 with
  |cons p q=>
   cases q with
   |cons p' q'=>
    cases q';exact ⟨_,_,rfl,p,p'⟩
 refine Bc ?_ zLn2;have I2:Inv X U Z H1 { s1 with heap:=s1.heap.push { cls:=.type "tuple",data:=.seq [u1,u2].toArray } }:=I1.kept (t':=s1.toks) λb o e=>Ac _ e;rw [hw];refine Aa (Ag ?_);show wpAny (model X.prog X.w) X.A (do rule "assign.swapped-stores";let items <- unpackItems (.ref s1.heap.objs.size) 2 none;assignInOrder [λv=>bindName X.env y v,λv=>bindName X.env x v] items.reverse;pure Flow.next) _ _ _;refine Aa (Dw (Aa (unpackItems_tuple (items:=#[u1,u2]) (I.ok.hd hc) (IsTup.new s1.heap _) λh' hx'=>?_)));have I3:=I2.kept (h':=h') (t':=s1.toks) λb o e=>hx' b o (As (Ao e)) e;show wpAny _ _ (assignInOrder [λv=>bindName X.env y v,λv=>bindName X.env x v] [u2,u1] >>= λ_=>pure Flow.next) _ _ _;refine Aa (assignInOrder_cons (wpAny_bindName (iO I3 hN hj (.inl hy) rw' (λs2 I4=>?_) (.inr hy))));refine assignInOrder_cons (wpAny_bindName (iO I4 hN hi (.inl hx) rv (λs3 I5=>assignInOrder_nil (Ag ?_)) (.inr hx)));rw [List.set_comm _ _ (Bi hij)] at I5;exact ⟨_,H1,I5,q1⟩
def tAug (i:Nat)(te:TE)(ti:TIp):TS:=λD Z H=>∃ x,Z[i]?=some (some x)/\te Z H λy H1=>ti x y H1 λz H2=>D.nx (Z.set i (some z)) H2
def tAugS (to ti te:TE)(tget:V->V->Hp->VK->Prop)(tip:TIp)(tset:TSet):TS:=λD Z H=>to Z H λo H1=>ti Z H1 λi H2=>tget o i H2 λx H3=>te Z H3 λy H4=>tip x y H4 λz H5=>tset o i z H5 λH6=>D.nx Z H6
def PGet (X:Cx)(t:V->V->Hp->VK->Prop):Prop:=
 ∀ (U:Ge) (s:Gm) (Z:St) (H:Hp) (o i:V) (ov iv:Gk) (Q:VK),Inv X U Z H s->RelV o ov->RelV i iv->t o i H Q ->
  wpAny (model X.prog X.w) X.A (getItem ov iv) (EP X U Z Q) X.xe s
def ipI (f:Int->Int->Int):TIp:=λx y H Q=>∃ i j,x=.int i/\y=.int j/\Q (.int (f i j)) H
end
section
variable {X:Cx}{pos:Pos}
def aCb (c:TT)(tb:TS):TS:=λD Z H=>∃ W:Nat->Gs,(∃ m,W m Z H)/\∀ m Z H,W m Z H ->
 c Z H λb H1=>if b=true then ∃ N:Gs,(∀ Z' H',N Z' H'->∃ m',m'<m/\W m' Z' H')/\tb { D with nx:=N,ct:=N,bk:=D.nx } Z H1 else D.nx Z H1
def rM {c:Expr}{body:List Stmt}{tc:TT}{tb:TS}(hp:BP (model X.prog X.w) X.A X.env X.xe)(hc:PT X c tc)(hb:PSs X body tb):PS X (.While c body [] pos) (aCb tc tb):=by
 intro U s Z H D I h;obtain ⟨W,⟨m0,w0⟩,turn⟩:=h;refine wpAny_While (codeAny_whileLoop (λn s'=>∃ Z' H',Inv X U Z' H' s'/\W n Z' H') ?_ m0 ⟨Z,H,I,w0⟩)
 rintro n s1 ⟨Z1,H1,I1,w1⟩
 refine DY hp (thn (hc U s1 Z1 H1 _ I1 (turn n Z1 H1 w1)) λb s2 ⟨H2,I2,q2⟩=>?_);cases b with
 |true=>
  obtain ⟨N,hN,q2⟩:=q2;rw [if_pos rfl];refine DY hp (thn (hb U s2 Z1 H2 _ I2 q2) λf s3 q3=>?_);cases f with
  |next=>
   obtain ⟨Z3,H3,I3,n3⟩:=q3;obtain ⟨m',hm,w3⟩:=hN Z3 H3 n3;exact ⟨m',hm,Z3,H3,I3,w3⟩
  |cont=>
   obtain ⟨Z3,H3,I3,n3⟩:=q3;obtain ⟨m',hm,w3⟩:=hN Z3 H3 n3;exact ⟨m',hm,Z3,H3,I3,w3⟩
  |brk=>exact q3
  |ret v=>exact q3
 |false=>
  rw [if_neg AB];exact Fs ⟨Z1,H2,I2,q2⟩
end
structure It where
 go:Nat->Hp->Prop
 yld:Nat->Hp->V->Hp->Prop
 stop:Nat->Hp->Prop
def FpOk (X:Cx)(U:Ge)(H:Hp)(b:Gj):Prop:=
 H b=none/\b≠X.env.locals/\b∉X.fs/\(b∈X.ex\/X.s₀.heap.objs.size<=b)/\(∀ x c,X.env.cells.lookup x=some c->c≠b)/\∀ p∈X.pn++U,p.1≠b
def Inv.fpOk {Z:St}(I:Inv X U Z H s)(hb:s.heap.objs.size<=b)(hn:H' b=none):FpOk X U H' b:=by
 refine ⟨hn,Dr (AU I.lt hb),I.nofs hb,.inr (AR I.sz hb),λx c e z=>?_,λp hp z=>?_⟩
 ·obtain ⟨v,q⟩:=I.cell x c e
  exact absurd (AU q.lt (by rw [z];exact hb)) (Cw _)
 ·exact absurd (AU (Ao (I.pin p hp).1) (by rw [z];exact hb)) (Cw _)
structure Turn (P:Aw)(w:World)(K:Ab)(tg:Expr)(J:It)(fp:List Gj)(it:Gj)(tn:Nat->Heap->Prop):Prop where
 mem:it∈fp
 obj:∀ i h,tn i h->∀ b∈fp,∃ o,h.get? b=some o/\∀ v,o.data≠.cell v
 keep:∀ i h h',tn i h->(∀ b∈fp,∀ o,h.get? b=some o->h'.get? b=some o)->tn i h'
 item:∀ (X:Cx),X.prog=P->X.w=w->X.K=K->X.calm=true->∀ (i:Nat) (U:Ge) (s:Gm) (Z:St) (H:Hp) (E:Ga),Inv X U Z H s->(∀ b∈fp,FpOk X U H b)->tn i s.heap->J.go i H ->
  wpAny (model P w) X.A (pyNext (.ref it)) (λr s1=>∃ u,r=some u /\
   wpAny (model P w) X.A (Ft tg (.ref it) u) (λ_ s2=>∃ x H',Inv X U Z H' s2/\RelV x u/\J.yld i H x H'/\tn (i+1) s2.heap/\∀ b∈fp,H' b=none) E s1) E s
 done:∀ (X:Cx),X.prog=P->X.w=w->X.K=K->X.calm=true->∀ (i:Nat) (U:Ge) (s:Gm) (Z:St) (H:Hp) (E:Ga),Inv X U Z H s->(∀ b∈fp,FpOk X U H b)->tn i s.heap->J.stop i H ->
  wpAny (model P w) X.A (pyNext (.ref it)) (λr s1=>r=none/\Inv X U Z H s1) E s
 self:∀ (A:Around) (i:Nat) (s:Gm) (Q:Ga) (E:Ga),tn i s.heap->Q (.ref it) s->wpAny (model P w) A (pyIter (.ref it)) Q E s
abbrev TI:=St->Hp->(It->Hp->Prop)->Prop
def PIE (X:Cx)(U:Ge)(Z:St)(tg:Expr)(R:It->Hp->Prop)(itv:Gk)(s2:Gm):Prop:=
 ∃ (it:Gj) (fp:List Gj) (tn:Nat->Heap->Prop) (J:It) (H':Hp),itv=.ref it/\Inv X U Z H' s2/\Turn X.prog X.w X.K tg J fp it tn/\tn 0 s2.heap/\(∀ b∈fp,FpOk X U H' b)/\R J H'
def PI (X:Cx)(tg iter:Expr)(wi:TI):Prop:=
 ∀ (U:Ge) (s:Gm) (Z:St) (H:Hp) (R:It->Hp->Prop),Inv X U Z H s->wi Z H R ->
  wpAny (model X.prog X.w) X.A (eval iter X.env) (λv s1=>wpAny (model X.prog X.w) X.A (pyIter v) (PIE X U Z tg R) X.xe s1) X.xe s
def yY (ho:s.heap.get? it=some o)(hc:o.cls=.type n)(hd:o.data=.fields vs)(hn:["enumerate","zip","dict_itemiterator","dict_reverseitemiterator","odict_iterator","itertools.zip_longest","itertools.pairwise"].contains n=false)(hQ:Q () s):wpAny M A (Ft tg (.ref it) u) Q E s:=by
  unfold Ft;cases tg<;>first
    |exact Ag hQ
    | (cases u <;> first
        |exact Ag hQ
        | (refine Aa (wpAny_load ho ?_)
           rw [hc,hd];show wpAny M A (if (["enumerate","zip","dict_itemiterator","dict_reverseitemiterator","odict_iterator","itertools.zip_longest","itertools.pairwise"].contains n&&vs[0]?==some (rawInt _))=true then _ else _) Q E s;rw [if_neg (by intro h;rw [hn,Bool.false_and] at h;cases h)];exact Ag hQ))
def Itl (K:Ab)(a:Gj):It:=
 ⟨λi H=>∃ xs x,SqL K H a xs/\xs[i]?=some x,λi H x H'=>H'=H/\∀ xs,SqL K H a xs->xs[i]?=some x,λi H=>∃ xs,SqL K H a xs/\xs.length<=i⟩
def Itt (K:Ab)(a:Gj):It:=
 ⟨λi H=>∃ xs x,SqT K H a xs/\xs[i]?=some x,λi H x H'=>H'=H/\∀ xs,SqT K H a xs->xs[i]?=some x,λi H=>∃ xs,SqT K H a xs/\xs.length<=i⟩
def Itr (lo:Int)(n:Nat):It:=⟨λi _=>i<n,λi H x H'=>H'=H/\x=.int (lo+i),λi _=>n<=i⟩
def vE {P:Aw}{w:World}{K:Ab}{tg:Expr}(a it:Gj):Turn P w K tg (Itl K a) [it] it (λi h=>h.IsListIter it a i) where
 mem:=by simp
 obj:=λi h st b hb=>by
  have e:b=it:=by simpa using hb
  subst e;obtain ⟨o,e,c,d⟩:=st;exact ⟨o,e,λv z=>by rw [d] at z;cases z⟩
 keep:=λi h h' st k=>st.at λo e=>k it (by simp) o e
 item:=by
  intro X hP hw hK hc i U s Z H E I hf st hg;subst hP hw hK;obtain ⟨xs,x,hq,hx⟩:=hg;obtain ⟨its,rv,p,hz⟩:=I.list hq;obtain ⟨u,hu,ru⟩:=rv.get hx;obtain ⟨f0,f1,f2,f3,f4,f5⟩:=hf it (by simp);refine wpAny_pyNext_list_item st p.isList (x:=u) (by simpa using hu) λh' st' sb=>?_;have I1:Inv X U Z H { s with heap:=h' }:=I.turned (t':=s.toks) (λb o hb e=>(sb.2 b hb).trans e) f0 f1 f3 f4 f5;obtain ⟨o,e,c,d⟩:=id st';exact ⟨u,rfl,yY (s:={ s with heap:=h' }) e c d (by decide) ⟨x,H,I1,ru,⟨rfl,λys hy=>by rw [I.list_inj hy hq];exact hx⟩,st',λb hb=>(hf b hb).1⟩⟩
 done:=by
  intro X hP hw hK hc i U s Z H E I hf st hg;subst hP hw hK;obtain ⟨xs,hq,hx⟩:=hg;obtain ⟨its,rv,p,hz⟩:=I.list hq;obtain ⟨f0,f1,f2,f3,f4,f5⟩:=hf it (by simp);have hl:=rv.length;exact wpAny_pyNext_list_end (I.ok.hd hc) st p.isList (by simp;lia) λh' eb=>⟨rfl,I.turned (t':=s.toks) (λb o hb e=>eb b o hb e) f0 f1 f3 f4 f5⟩
 self:=λ_ _ _ _ _ st h=>wpAny_pyIter_listiter st h
def tU {P:Aw}{w:World}{K:Ab}{tg:Expr}(a it:Gj):Turn P w K tg (Itt K a) [it] it (λi h=>h.IsTupleIter it a i) where
 mem:=by simp
 obj:=λi h st b hb=>by
  have e:b=it:=by simpa using hb
  subst e;obtain ⟨o,e,c,d⟩:=st;exact ⟨o,e,λv z=>by rw [d] at z;cases z⟩
 keep:=λi h h' st k=>st.at λo e=>k it (by simp) o e
 item:=by
  intro X hP hw hK hc i U s Z H E I hf st hg;subst hP hw hK;obtain ⟨xs,x,hq,hx⟩:=hg;obtain ⟨its,rv,p,hz⟩:=I.tuple hq;obtain ⟨u,hu,ru⟩:=rv.get hx;obtain ⟨f0,f1,f2,f3,f4,f5⟩:=hf it (by simp);refine wpAny_pyNext_tuple_item st (show s.heap.IsTuple a its.toArray from p) (x:=u) (by simpa using hu) λh' st' sb=>?_;have I1:Inv X U Z H { s with heap:=h' }:=I.turned (t':=s.toks) (λb o hb e=>(sb.2 b hb).trans e) f0 f1 f3 f4 f5;obtain ⟨o,e,c,d⟩:=id st';exact ⟨u,rfl,yY (s:={ s with heap:=h' }) e c d (by decide) ⟨x,H,I1,ru,⟨rfl,λys hy=>by rw [I.tuple_inj hy hq];exact hx⟩,st',λb hb=>(hf b hb).1⟩⟩
 done:=by
  intro X hP hw hK hc i U s Z H E I hf st hg;subst hP hw hK;obtain ⟨xs,hq,hx⟩:=hg;obtain ⟨its,rv,p,hz⟩:=I.tuple hq;obtain ⟨f0,f1,f2,f3,f4,f5⟩:=hf it (by simp);have hl:=rv.length;exact wpAny_pyNext_tuple_end (I.ok.hd hc) st (show s.heap.IsTuple a its.toArray from p) (by simp;lia) λh' eb=>⟨rfl,I.turned (t':=s.toks) (λb o hb e=>eb b o hb e) f0 f1 f3 f4 f5⟩
 self:=λ_ _ _ _ _ st h=>wpAny_pyIter_tupleiter st h
def tV {P:Aw}{w:World}{K:Ab}{tg:Expr}(it:Gj)(lo:Int)(n:Nat):Turn P w K tg (Itr lo n) [it] it (λi h=>IsRangeIter h it (lo+(i:Nat)*1) ((n:Int)-(i:Nat)) 1) where
 mem:=by simp
 obj:=λi h st b hb=>by
  have e:b=it:=by simpa using hb
  subst e;exact ⟨_,st,λv z=>by
   have z':Data.fields _=Data.cell v:=z;cases z'⟩
 keep:=λi h h' st k=>k it (by simp) _ st
 item:=by
  intro X hP hw hK hc i U s Z H E I hf st hg;subst hP hw hK;obtain ⟨f0,f1,f2,f3,f4,f5⟩:=hf it (by simp);have W:=Walks.range (prog:=X.prog) (w:=X.w) (I.ok.hd hc) it lo 1 n;refine W.item i s _ _ hg st λv h' tk hv st' kk=>?_;obtain ⟨t,rfl⟩:=hv;have I1:Inv X U Z H { s with heap:=h',toks:=tk }:=I.turned (λb o hb e=>kk b o (by simpa using hb) e) f0 f1 f3 f4 f5;refine ⟨_,rfl,yY (s:={ s with heap:=h',toks:=tk }) (n:="range_iterator") st' rfl rfl (by decide) ⟨.int (lo+i),H,I1,⟨t,?_⟩,⟨rfl,rfl⟩,st',λb hb=>(hf b hb).1⟩⟩;rw [Int.mul_one]
 done:=by
  intro X hP hw hK hc i U s Z H E I hf st hg;subst hP hw hK;obtain ⟨f0,f1,f2,f3,f4,f5⟩:=hf it (by simp);exact wpAny_pyNext_range_end (I.ok.hd hc) st (by have:n<=i:=hg;lia) λh' eb=>⟨rfl,I.turned (t':=s.toks) (λb o hb e=>eb b o hb e) f0 f1 f3 f4 f5⟩
 self:=λ_ _ _ _ _ st h=>wpAny_pyIter_rangeiter st h
section
variable {X:Cx}{tg:Expr}
def aJd (K:Ab)(tl:TE):TI:=λZ H R=>tl Z H λx H1=>∃ a,x=.ref a/\(∃ xs,SqL K H1 a xs)/\R (Itl K a) H1
inductive RTup (K:Ab)(R:It->Hp->Prop)(x:V)(H1:Hp):Prop
 |mk (a:Gj) (e:x=.ref a) (q:∃ xs,SqT K H1 a xs) (h:R (Itt K a) H1)
def iTup (K:Ab)(tl:TE):TI:=λZ H R=>tl Z H (RTup K R)
def pU {l:Expr}{tl:TE}(hl:PE X l tl):PI X tg l (aJd X.K tl):=by
 intro U s Z H R I h;refine thn (hl U s Z H _ I h) λv s1 ⟨x,H1,I1,r1,q1⟩=>?_;obtain ⟨a,e,⟨xs,hq⟩,q⟩:=q1;subst e;cases r1;obtain ⟨its,rv,p,hz⟩:=I1.list hq;refine wpAny_pyIter_list p.isList ?_;refine ⟨s1.heap.objs.size,[s1.heap.objs.size],_,_,H1,rfl,I1.kept (t':=s1.toks) λb o e=>Ac _ e,vE a _,⟨_,Ai _ rfl,rfl,rfl⟩,λb hb=>?_,q⟩;have e:b=s1.heap.objs.size:=by simpa using hb
 subst e;exact I1.fpOk (Aj _) (I1.hok.fresh (Aj _))
def gC {l:Expr}{tl:TE}(hl:PE X l tl):PI X tg l (iTup X.K tl):=by
 intro U s Z H R I h;refine thn (hl U s Z H _ I h) λv s1 ⟨x,H1,I1,r1,q1⟩=>?_;obtain ⟨a,e,⟨xs,hq⟩,q⟩:=q1;subst e;cases r1;obtain ⟨its,rv,p,hz⟩:=I1.tuple hq;refine EG (show s1.heap.IsTuple a its.toArray from p) ?_;refine ⟨s1.heap.objs.size,[s1.heap.objs.size],_,_,H1,rfl,I1.kept (t':=s1.toks) λb o e=>Ac _ e,tU a _,⟨_,Ai _ rfl,rfl,rfl⟩,λb hb=>?_,q⟩;have e:b=s1.heap.objs.size:=by simpa using hb
 subst e;exact I1.fpOk (Aj _) (I1.hok.fresh (Aj _))
def rL {Z:St}{lo hi:Int}{t u v:Tok}{tk:Nat}(I:Inv X U Z H s)(h1:-(2^62)<=lo)(h2:lo<2^62)(h3:-(2^62)<=hi)(h4:hi<2^62)(q:R (Itr lo (hi-lo).toNat) H):wpAny (model X.prog X.w) X.A (pyIter (.ref s.heap.objs.size)) (PIE X U Z tg R) E { s with heap:=s.heap.push { cls:=.type "range",data:=.fields #[.int lo t,.int hi u,.int 1 v] },toks:=tk }:=by
 refine wpAny_pyIter_range (IsRange.new ..) (small_one h1 h2 h3 h4) ?_;have I1:Inv X U Z H { s with heap:=s.heap.push { cls:=.type "range",data:=.fields #[.int lo t,.int hi u,.int 1 v] },toks:=tk }:=I.kept λb o e=>Ac _ e;refine ⟨(s.heap.push { cls:=.type "range",data:=.fields #[.int lo t,.int hi u,.int 1 v] }).objs.size,[(s.heap.push { cls:=.type "range",data:=.fields #[.int lo t,.int hi u,.int 1 v] }).objs.size],_,_,H,rfl,
  I1.kept (t':=tk) λb o e=>Ac _ e,tV _ lo (hi-lo).toNat,?_,λb hb=>?_,q⟩
 ·have e1:lo+((0:Nat):Int)*1=lo:=by simp
  have e2:(((hi-lo).toNat:Nat):Int)-((0:Nat):Int)=AG.Range.rangeSize lo hi 1:=by rw [rangeSize_one];split<;>lia
  show IsRangeIter _ _ (lo+((0:Nat):Int)*1) ((((hi-lo).toNat:Nat):Int)-((0:Nat):Int)) 1;rw [e1,e2];exact Ai _ rfl
 ·have e:b=(s.heap.push { cls:=.type "range",data:=.fields #[.int lo t,.int hi u,.int 1 v] }).objs.size:=by simpa using hb
  subst e;exact I1.fpOk (Aj _) (I1.hok.fresh (Aj _))
def aJc (ta:TA):TI:=λZ H R=>ta Z H λvs H1=>∃ j:Int,vs=[.int j]/\-(2^62)<=j/\j<2^62/\R (Itr 0 j.toNat) H1
def aJb (ta:TA):TI:=λZ H R=>ta Z H λvs H1=>∃ i j:Int,vs=[.int i,.int j]/\(-(2^62)<=i/\i<2^62/\-(2^62)<=j/\j<2^62)/\R (Itr i (j-i).toNat) H1
def cQ {a:Expr}{ta:TA}{p pos:Pos}(hg:Gl X "range")(hm:X.mg "range" = none)(ha:PA X [a] ta)(hs:AL [a] X.env=[(false,eval a X.env)]:=by rfl):PI X tg (.Call (.Name "range" p) [a] [] pos) (aJc ta):=by
 intro U s Z H R I h;refine Call_ (iJ I hg hm boot_range (CB (thn (ha pos U s Z H _ I h) λus s1 ⟨vs,H1,I1,r1,q1⟩=>?_) hs rfl));obtain ⟨j,e,q1,q2,q⟩:=q1;subst e;cases r1 with
 |cons r rr=>
  cases rr;obtain ⟨t,rfl⟩:=r;exact call_range_1 (rL I1 (by lia) (by lia) q1 q2 (by simpa using q))
def jT {p pos:Pos}(hg:Gl X "range")(hm:X.mg "range" = none)(ha:PA X [a,b] ta)(hs:AL [a,b] X.env=[(false,eval a X.env),(false,eval b X.env)]:=by rfl)(hs2:AL [b] X.env=[(false,eval b X.env)]:=by rfl) :
  PI X tg (.Call (.Name "range" p) [a,b] [] pos) (aJb ta):=by
 intro U s Z H R I h;refine Call_ (iJ I hg hm boot_range (CB (thn (ha pos U s Z H _ I h) λus s1 ⟨vs,H1,I1,r1,q1⟩=>?_) (by rw [hs,hs2]) (by rw [hs2];rfl)));obtain ⟨i,j,e,⟨q1,q2,q3,q4⟩,q⟩:=q1;subst e;cases r1 with
 |cons r rr=>
  cases rr with
  |cons r' rr=>
   cases rr;obtain ⟨t,rfl⟩:=r;obtain ⟨t',rfl⟩:=r';exact call_range_2 (rL I1 q1 q2 q3 q4 q)
def tFor (wi:TI)(g:TG)(tb:TS):TS:=λD Z H=>wi Z H λJ H1=>∃ W:Nat->Nat->Gs,(∃ m,W 0 m Z H1)/\∀ i m Z H,W i m Z H ->
 (J.stop i H/\D.nx Z H)\/(J.go i H/\∃ N:Gs,(∀ Z' H',N Z' H'->∃ m',m'<m/\W (i+1) m' Z' H')/\∀ x H',J.yld i H x H'->g x Z H' λZ2 H2=>tb { D with nx:=N,ct:=N,bk:=D.nx } Z2 H2)
def lE (fp:List Gj)(h:Heap):Ge:=fp.filterMap λb=>(h.get? b).map λo=>(b,o)
def dQ (hb:b∈fp)(e:h.get? b=some o):(b,o)∈lE fp h:=List.mem_filterMap.mpr ⟨b,hb,by rw [e];rfl⟩
def yC {p:Gj×Obj}(hp:p∈lE fp h):p.1∈fp/\h.get? p.1=some p.2:=by
 obtain ⟨b,hb,e⟩:=List.mem_filterMap.mp hp;cases q:h.get? b with
 |none=>rw [q] at e;cases e
 |some o=>
  rw [q] at e;have e':(b,o)=p:=AF e;subst e';exact ⟨hb,q⟩
def Inv.pinned {Z:St}(I:Inv X U Z H s)(hf:∀ b∈fp,FpOk X U H b)(ho:∀ b∈fp,∃ o,s.heap.get? b=some o/\∀ v,o.data≠.cell v):Inv X (U++lE fp s.heap) Z H s:=
 I.pins_of λp hp=>(AS.mp hp).elim (λz=>I.pin p (AI _ z)) λz=>by
  obtain ⟨hb,e⟩:=yC z;obtain ⟨f0,f1,f2,_⟩:=hf p.1 hb;obtain ⟨o,e',d⟩:=ho p.1 hb;rw [e] at e';cases e';exact ⟨e,f0,f1,f2,d⟩
def Inv.unpinned {Z:St}(I:Inv X (U++pl) Z H s):Inv X U Z H s:=I.pins_of λp hp=>I.pin p (AI _ (List.mem_append_left _ hp))
def dA (hp:BP (model X.prog X.w) X.A X.env X.xe)(hc:X.calm=true)(hi:PI X tg iter wi)(hg:PG X tg g)(hb:PSs X body tb)(hs:∀ x,EV iter X.env x=pure x:=by intro _;rfl):PS X (.For tg iter body [] pos) (tFor wi g tb):=by
 intro U s Z H D I h;refine wpAny_For (thn (hi U s Z H _ I h) λv s1 h1=>thn h1 λitv s2 h2=>?_) hs;obtain ⟨it,fp,tn,J,H2,e,I2,T,st2,f2,W,⟨m0,w0⟩,turn⟩:=h2;subst e;have stat:∀ {H':Hp},(∀ b∈fp,H' b=none)->∀ b∈fp,FpOk X U H' b:=λhn b hb=>⟨hn b hb,(f2 b hb).2⟩;refine codeAny_forLoop_any (λn s'=>∃ i Z' H',Inv X U Z' H' s'/\tn i s'.heap/\(∀ b∈fp,H' b=none)/\W i n Z' H') ?_ m0 ⟨0,Z,H2,I2,st2,λb hb=>(f2 b hb).1,w0⟩
 rintro n s3 ⟨i,Z3,H3,I3,st3,fr3,w3⟩
 rcases turn i n Z3 H3 w3 with ⟨stop,qn⟩|⟨go,N,hN,step⟩
 ·refine DY hp (thn (T.done X rfl rfl rfl hc i U s3 Z3 H3 X.xe I3 (stat fr3) st3 stop) λr s4 ⟨hr,I4⟩=>?_)
  subst hr;exact Fs ⟨Z3,H3,I4,qn⟩
 ·refine DY hp (thn (T.item X rfl rfl rfl hc i U s3 Z3 H3 X.xe I3 (stat fr3) st3 go) λr s4 ⟨u,hr,h4⟩=>?_)
  subst hr;refine DY hp (thn h4 λ_ s5 ⟨x,H5,I5,r5,y5,st5,fr5⟩=>?_);have I5':=I5.pinned (stat fr5) (T.obj _ _ st5);refine DY hp (thn (hg _ s5 Z3 H5 x u _ I5' r5 (step x H5 y5)) λ_ s6 ⟨Z6,H6,I6,q6⟩=>?_);refine DY hp (thn (hb _ s6 Z6 H6 _ I6 q6) λf s7 q7=>?_);have again:∀ {Z7:St} {H7:Hp},Inv X (U++lE fp s5.heap) Z7 H7 s7->N Z7 H7->∃ m,m<n/\∃ i Z' H',Inv X U Z' H' s7/\tn i s7.heap/\(∀ b∈fp,H' b=none)/\W i m Z' H':=λ{Z7 H7} I7 n7=>by
   obtain ⟨m',hm,w7⟩:=hN Z7 H7 n7;refine ⟨m',hm,i+1,Z7,H7,I7.unpinned,T.keep _ _ _ st5 λb hb o e=>(I7.pin (b,o) (AI _ (AI _ (dQ hb e)))).1,λb hb=>?_,w7⟩;obtain ⟨o,e,d⟩:=T.obj _ _ st5 b hb;exact (I7.pin (b,o) (AI _ (AI _ (dQ hb e)))).2.1
  cases f with
  |next=>obtain ⟨Z7,H7,I7,n7⟩:=q7;exact again I7 n7
  |cont=>obtain ⟨Z7,H7,I7,n7⟩:=q7;exact again I7 n7
  |brk=>obtain ⟨Z7,H7,I7,q7⟩:=q7;exact ⟨Z7,H7,I7.unpinned,q7⟩
  |ret v=>obtain ⟨x7,Z7,H7,I7,r7,q7⟩:=q7;exact ⟨x7,Z7,H7,I7.unpinned,r7,q7⟩
end
def sX {K:Ab}{a:Gj}{xs:Gq}{g:TG}{tb:TS}{D:Ends}{Z:St}{H:Hp}(Pv:Nat->Gs)(h0:Pv 0 Z H)(hl:∀ i Z H,i<=xs.length->Pv i Z H->SqL K H a xs)
  (hs:∀ i x Z H,xs[i]?=some x->Pv i Z H->g x Z H λZ2 H2=>tb { D with nx:=Pv (i+1),ct:=Pv (i+1),bk:=D.nx } Z2 H2) (hd:∀ Z H,Pv xs.length Z H->D.nx Z H) :
  ∃ W:Nat->Nat->Gs,(∃ m,W 0 m Z H)/\∀ i m Z H,W i m Z H ->
   ((Itl K a).stop i H/\D.nx Z H)\/((Itl K a).go i H/\∃ N:Gs,(∀ Z' H',N Z' H'->∃ m',m'<m/\W (i+1) m' Z' H')/\∀ x H',(Itl K a).yld i H x H'->g x Z H' λZ2 H2=>tb { D with nx:=N,ct:=N,bk:=D.nx } Z2 H2):=by
 refine ⟨λi m Z H=>m=xs.length-i/\i<=xs.length/\Pv i Z H,⟨xs.length,by simp,Bu _,h0⟩,?_⟩
 rintro i m Z H ⟨rfl,hi,p⟩
 have q:=hl i Z H hi p
 by_cases hlt:i<xs.length
 ·refine .inr ⟨⟨xs,xs[i],q,by simp [hlt]⟩,Pv (i+1),λZ' H' p'=>⟨xs.length-(i+1),by lia,rfl,hlt,p'⟩,λx H' y=>?_⟩
  obtain ⟨e,y⟩:=y;subst e;exact hs i x Z _ (y xs q) p
 ·have e:i=xs.length:=by lia
  subst e;exact .inl ⟨⟨xs,q,Aj _⟩,hd Z H p⟩
def mG {K:Ab}{a:Gj}{xs:Gq}{g:TG}{tb:TS}{D:Ends}{Z:St}{H:Hp}(Pv:Nat->Gs)(h0:Pv 0 Z H)(hl:∀ i Z H,i<=xs.length->Pv i Z H->SqT K H a xs)
  (hs:∀ i x Z H,xs[i]?=some x->Pv i Z H->g x Z H λZ2 H2=>tb { D with nx:=Pv (i+1),ct:=Pv (i+1),bk:=D.nx } Z2 H2) (hd:∀ Z H,Pv xs.length Z H->D.nx Z H) :
  ∃ W:Nat->Nat->Gs,(∃ m,W 0 m Z H)/\∀ i m Z H,W i m Z H ->
   ((Itt K a).stop i H/\D.nx Z H)\/((Itt K a).go i H/\∃ N:Gs,(∀ Z' H',N Z' H'->∃ m',m'<m/\W (i+1) m' Z' H')/\∀ x H',(Itt K a).yld i H x H'->g x Z H' λZ2 H2=>tb { D with nx:=N,ct:=N,bk:=D.nx } Z2 H2):=by
 refine ⟨λi m Z H=>m=xs.length-i/\i<=xs.length/\Pv i Z H,⟨xs.length,by simp,Bu _,h0⟩,?_⟩
 rintro i m Z H ⟨rfl,hi,p⟩
 have q:=hl i Z H hi p
 by_cases hlt:i<xs.length
 ·refine .inr ⟨⟨xs,xs[i],q,by simp [hlt]⟩,Pv (i+1),λZ' H' p'=>⟨xs.length-(i+1),by lia,rfl,hlt,p'⟩,λx H' y=>?_⟩
  obtain ⟨e,y⟩:=y;subst e;exact hs i x Z _ (y xs q) p
 ·have e:i=xs.length:=by lia
  subst e;exact .inl ⟨⟨xs,q,Aj _⟩,hd Z H p⟩
def eF {lo:Int}{n:Nat}{g:TG}{tb:TS}{D:Ends}{Z:St}{H:Hp}(Pv:Nat->Gs)(h0:Pv 0 Z H)
  (hs:∀ i Z H,i<n->Pv i Z H->g (.int (lo+i)) Z H λZ2 H2=>tb { D with nx:=Pv (i+1),ct:=Pv (i+1),bk:=D.nx } Z2 H2) (hd:∀ Z H,Pv n Z H->D.nx Z H) :
  ∃ W:Nat->Nat->Gs,(∃ m,W 0 m Z H)/\∀ i m Z H,W i m Z H ->
   ((Itr lo n).stop i H/\D.nx Z H)\/((Itr lo n).go i H/\∃ N:Gs,(∀ Z' H',N Z' H'->∃ m',m'<m/\W (i+1) m' Z' H')/\∀ x H',(Itr lo n).yld i H x H'->g x Z H' λZ2 H2=>tb { D with nx:=N,ct:=N,bk:=D.nx } Z2 H2):=by
 refine ⟨λi m Z H=>m=n-i/\i<=n/\Pv i Z H,⟨n,by simp,Bu _,h0⟩,?_⟩
 rintro i m Z H ⟨rfl,hi,p⟩
 by_cases hlt:i<n
 ·refine .inr ⟨hlt,Pv (i+1),λZ' H' p'=>⟨n-(i+1),by lia,rfl,hlt,p'⟩,λx H' y=>?_⟩
  obtain ⟨e,y⟩:=y;subst e y;exact hs i Z _ hlt p
 ·have e:i=n:=by lia
  subst e;exact .inl ⟨Aj _,hd Z H p⟩
def qU {Z:St}(Pv:Gs)(μ:St->Hp->Nat)(h0:Pv Z H)(hs:∀ Z H,Pv Z H->c Z H λb H1=>if b=true then tb { D with nx:=λZ' H'=>Pv Z' H'/\μ Z' H'<μ Z H,ct:=λZ' H'=>Pv Z' H'/\μ Z' H'<μ Z H,bk:=D.nx } Z H1 else D.nx Z H1)(mono:∀ Z H Q Q',(∀ b H1,Q b H1->Q' b H1)->c Z H Q->c Z H Q'):aCb c tb D Z H:=by
 refine ⟨λm Z H=>m=μ Z H/\Pv Z H,⟨_,rfl,h0⟩,?_⟩
 rintro m Z H ⟨rfl,p⟩
 refine mono Z H _ _ (λb H1 q=>?_) (hs Z H p);cases b with
 |true=>exact ⟨_,λZ' H' ⟨p',l⟩=>⟨_,l,rfl,p'⟩,q⟩
 |false=>exact q
abbrev R2:=V->V->Hp->VK->Prop
def OpR (X:Cx)(f:Gk->Gk->Sem Gk)(r:R2):Prop:=
 ∀ (U:Ge) (s:Gm) (Z:St) (H:Hp) (x y:V) (v u:Gk) (Q:VK),Inv X U Z H s->RelV x v->RelV y u->r x y H Q ->
  wpAny (model X.prog X.w) X.A (f v u) (EP X U Z Q) X.xe s
def UnR (X:Cx)(f:Gk->Sem Gk)(r:V->Hp->VK->Prop):Prop:=
 ∀ (U:Ge) (s:Gm) (Z:St) (H:Hp) (x:V) (v:Gk) (Q:VK),Inv X U Z H s->RelV x v->r x H Q ->
  wpAny (model X.prog X.w) X.A (f v) (EP X U Z Q) X.xe s
def fH (X:Cx)(f:Gk)(r:Gq->Hp->VK->Prop):Prop:=
 ∀ (U:Ge) (s:Gm) (Z:St) (H:Hp) (xs:Gq) (us:Gi) (Q:VK),Inv X U Z H s->Vals xs us->r xs H Q ->
  wpAny (model X.prog X.w) X.A (call f us) (EP X U Z Q) X.xe s
def TruR (X:Cx)(r:V->Hp->(Bool->Hp->Prop)->Prop):Prop:=
 ∀ (U:Ge) (s:Gm) (Z:St) (H:Hp) (x:V) (v:Gk) (Q:Bool->Hp->Prop),Inv X U Z H s->RelV x v->r x H Q ->
  wpAny (model X.prog X.w) X.A (truthy v) (TP X U Z Q) X.xe s
def tOp (r:R2)(ta tb:TE):TE:=λZ H Q=>ta Z H λx H1=>tb Z H1 λy H2=>r x y H2 Q
def tUn (r:V->Hp->VK->Prop)(ta:TE):TE:=λZ H Q=>ta Z H λx H1=>r x H1 Q
inductive rI (C:Int->Int->Prop)(g:Int->Int->V)(x y:V)(H:Hp)(Q:VK):Prop
 |mk (i j:Int) (e:x=.int i) (e':y=.int j) (c:C i j) (h:Q (g i j) H)
inductive rI0 (g:Int->Int->V)(x y:V)(H:Hp)(Q:VK):Prop
 |mk (i j:Int) (e:x=.int i) (e':y=.int j) (h:Q (g i j) H)
def rU (g:Int->V):V->Hp->VK->Prop:=λx H Q=>∃ i,x=.int i/\Q (g i) H
section
variable {X:Cx}{a b c:Expr}{ta tb tc:TE}{pos:Pos}
def binT (ha:PE X a ta)(hb:PE X b tb){U:Ge}{s:Gm}{Z:St}{H:Hp}{R:V->V->Hp->Prop}(I:Inv X U Z H s)
  (h:ta Z H λx H1=>tb Z H1 λy H2=>R x y H2) {Q:Ga} {f:Gk->Gk->Sem Gk}
  (hf:∀ v u s2 x y H2,Inv X U Z H2 s2->RelV x v->RelV y u->R x y H2->wpAny (model X.prog X.w) X.A (f v u) Q X.xe s2) :
  wpAny (model X.prog X.w) X.A (eval a X.env) (λv s₁=>wpAny (model X.prog X.w) X.A (eval b X.env) (λu s₂=>wpAny (model X.prog X.w) X.A (f v u) Q X.xe s₂) X.xe s₁) X.xe s:=by
 refine thn (ha U s Z H _ I h) λv s1 ⟨x,H1,I1,r1,q1⟩=>?_;refine thn (hb U s1 Z H1 _ I1 q1) λu s2 ⟨y,H2,I2,r2,q2⟩=>?_;exact hf v u s2 x y H2 I2 r1 r2 q2
def aP {op:Operator}{r:R2}(ho:OpR X (Eg op) r)(ha:PE X a ta)(hb:PE X b tb):PE X (.BinOp a op b pos) (tOp r ta tb):=by
 intro U s Z H Q I h;exact wpAny_BinOp (binT ha hb I h λv u s2 x y H2 I2 rx ry q=>ho U s2 Z H2 x y v u Q I2 rx ry q)
def opI {C:Int->Int->Prop}{g:Int->Int->Int}(rule:∀ (i j:Int) (t u:Tok) (s:Gm) (Q:Ga) (E:Ga),C i j->Q (.int (g i j) s.toks) { s with toks:=s.toks+1 }->wpAny (model X.prog X.w) X.A (f (.int i t) (.int j u)) Q E s) :
  OpR X f (rI C λi j=>.int (g i j)):=by
 intro U s Z H x y v u Q I rx ry h;obtain ⟨i,j,rfl,rfl,hc,q⟩:=h;obtain ⟨t,rfl⟩:=rx;obtain ⟨t',rfl⟩:=ry;exact rule i j t t' s _ _ hc ⟨.int (g i j),H,I.tok _,⟨_,rfl⟩,q⟩
def opI0 {g:Int->Int->Int}(rule:∀ (i j:Int) (t u:Tok) (s:Gm) (Q:Ga) (E:Ga),Q (.int (g i j) s.toks) { s with toks:=s.toks+1 }->wpAny (model X.prog X.w) X.A (f (.int i t) (.int j u)) Q E s) :
  OpR X f (rI0 λi j=>.int (g i j)):=by
 intro U s Z H x y v u Q I rx ry h;obtain ⟨i,j,rfl,rfl,q⟩:=h;obtain ⟨t,rfl⟩:=rx;obtain ⟨t',rfl⟩:=ry;exact rule i j t t' s _ _ ⟨.int (g i j),H,I.tok _,⟨_,rfl⟩,q⟩
def opB0 {g:Int->Int->Bool}(rule:∀ (i j:Int) (t u:Tok) (s:Gm) (Q:Ga) (E:Ga),Q (.bool (g i j)) s->wpAny (model X.prog X.w) X.A (f (.int i t) (.int j u)) Q E s) :
  OpR X f (rI0 λi j=>.bl (g i j)):=by
 intro U s Z H x y v u Q I rx ry h;obtain ⟨i,j,rfl,rfl,q⟩:=h;obtain ⟨t,rfl⟩:=rx;obtain ⟨t',rfl⟩:=ry;exact rule i j t t' s _ _ ⟨.bl (g i j),H,I,rfl,q⟩
def CDiv (i j:Int):Prop:=0<j/\j<1073741824
def CDivN (i j:Int):Prop:=j≠0/\j.natAbs<1073741824
def CPow (i j:Int):Prop:=0<=j/\j<=1000000/\i.natAbs<2^64
def CMul (i j:Int):Prop:=(-(2^64)<i/\i<2^64)\/(-(2^64)<j/\j<2^64)
def bJ:OpR X (Eg .Add) (rI0 λi j=>.int (i+j)):=opI0 λ_ _ _ _ _ _ _ q=>add_int q
def rV:OpR X (Eg .Sub) (rI0 λi j=>.int (i-j)):=opI0 λ_ _ _ _ _ _ _ q=>sub_int q
def bQ:OpR X (Eg .Mod) (rI (λ_ j=>0<j) λi j=>.int (i%j)):=opI λi j _ _ _ _ _ hc q=>by
 have h1:(0:Int)<j:=hc;exact mod_int' (by lia) (by rw [Int.fmod_eq_emod_of_nonneg i (by lia)];exact q)
end
def scal:V->V->Bool
 |.non,.non=>true|.non,.int _=>true|.int _,.non=>true|.non,.bl _=>true|.bl _,.non=>true|.non,.str _=>true|.str _,.non=>true
 |.int _,.int _=>true|.bl _,.bl _=>true|.str _,.str _=>true|.byt _,.byt _=>true
 |.int _,.str _=>true|.str _,.int _=>true|.bl _,.str _=>true|.str _,.bl _=>true
 |_,_=>false
def rEq:R2:=λx y H Q=>scal x y=true/\Q (.bl (decide (x=y))) H
def rNe:R2:=λx y H Q=>scal x y=true/\Q (.bl (!decide (x=y))) H
def zM {i j:Int}:decide (V.int i=V.int j)=(i==j):=by
 rw [Cy];simp
def aC8 {i j:Bool}:decide (V.bl i=V.bl j)=(i==j):=by
 rw [Cy];simp
def zK :decide (V.str i=V.str j)=(i==j):=by
 rw [Cy];simp
def zN :decide (V.byt i=V.byt j)=(i.toList==j.toList):=by
 rw [Cy];cases i;cases j;simp
section
variable {X:Cx}{a b c:Expr}{ta tb tc:TE}{pos:Pos}
def bK {Z:St}{k k':Bool}(I:Inv X U Z H s)(q:Q (.bl k) H)(e:k=k'):EP X U Z Q (.bool k') s:=by
 subst e;exact ⟨.bl k,H,I,rfl,q⟩
def bW:OpR X (BB .Eq) rEq:=by
 intro U s Z H x y v u Q I rx ry h;obtain ⟨hs,q⟩:=h;cases x with
 |non=>
  cases rx;cases y with
  |non=>cases ry;exact PySem.EqNone.eq_none_none (bK I q (by simp))
  |bl j=>cases ry;exact PySem.EqNone.eq_none_bool (bK I q (by simp))
  |int j=>obtain ⟨t',rfl⟩:=ry;exact PySem.EqNone.eq_none_int (bK I q (by simp))
  |str j=>obtain ⟨t',rfl⟩:=ry;exact PySem.EqNone.eq_none_str (bK I q (by simp))
  |_=>exact absurd (show false=true from hs) AB
 |bl i=>
  cases rx;cases y with
  |non=>cases ry;exact PySem.EqNone.eq_bool_none (bK I q (by simp))
  |bl j=>cases ry;exact eq_bool (bK I q aC8)
  |str j=>obtain ⟨t',rfl⟩:=ry;exact PySem.EqMixed.eq_bool_str (bK I q (by simp))
  |_=>exact absurd (show false=true from hs) AB
 |int i=>
  obtain ⟨t,rfl⟩:=rx;cases y with
  |non=>cases ry;exact PySem.EqNone.eq_int_none (bK I q (by simp))
  |int j=>obtain ⟨t',rfl⟩:=ry;exact eq_int (bK I q zM)
  |str j=>obtain ⟨t',rfl⟩:=ry;exact PySem.EqMixed.eq_int_str (bK I q (by simp))
  |_=>exact absurd (show false=true from hs) AB
 |str i=>
  obtain ⟨t,rfl⟩:=rx;cases y with
  |non=>cases ry;exact PySem.EqNone.eq_str_none (bK I q (by simp))
  |bl j=>cases ry;exact PySem.EqMixed.eq_str_bool (bK I q (by simp))
  |int j=>obtain ⟨t',rfl⟩:=ry;exact PySem.EqMixed.eq_str_int (bK I q (by simp))
  |str j=>obtain ⟨t',rfl⟩:=ry;exact eq_str (bK I q zK)
  |_=>exact absurd (show false=true from hs) AB
 |byt i=>
  obtain ⟨t,rfl⟩:=rx;cases y with
  |byt j=>obtain ⟨t',rfl⟩:=ry;exact PySem.W.eq_bytes (bK I q zN)
  |_=>exact absurd (show false=true from hs) AB
 |_=>cases y<;>exact absurd (show false=true from hs) AB
def mE:OpR X (BB .NotEq) rNe:=by
 intro U s Z H x y v u Q I rx ry h;obtain ⟨hs,q⟩:=h;cases x with
 |non=>
  cases rx;cases y with
  |non=>cases ry;exact PySem.EqNone.ne_none_none (bK I q (by simp))
  |bl j=>cases ry;exact PySem.EqNone.ne_none_bool (bK I q (by simp))
  |int j=>obtain ⟨t',rfl⟩:=ry;exact PySem.EqNone.ne_none_int (bK I q (by simp))
  |str j=>obtain ⟨t',rfl⟩:=ry;exact PySem.EqNone.ne_none_str (bK I q (by simp))
  |_=>exact absurd (show false=true from hs) AB
 |bl i=>
  cases rx;cases y with
  |non=>cases ry;exact PySem.EqNone.ne_bool_none (bK I q (by simp))
  |bl j=>cases ry;exact ne_bool (bK I q (congrArg not aC8))
  |str j=>obtain ⟨t',rfl⟩:=ry;exact PySem.EqMixed.ne_bool_str (bK I q (by simp))
  |_=>exact absurd (show false=true from hs) AB
 |int i=>
  obtain ⟨t,rfl⟩:=rx;cases y with
  |non=>cases ry;exact PySem.EqNone.ne_int_none (bK I q (by simp))
  |int j=>obtain ⟨t',rfl⟩:=ry;exact ne_int (bK I q (congrArg not zM))
  |str j=>obtain ⟨t',rfl⟩:=ry;exact PySem.EqMixed.ne_int_str (bK I q (by simp))
  |_=>exact absurd (show false=true from hs) AB
 |str i=>
  obtain ⟨t,rfl⟩:=rx;cases y with
  |non=>cases ry;exact PySem.EqNone.ne_str_none (bK I q (by simp))
  |bl j=>cases ry;exact PySem.EqMixed.ne_str_bool (bK I q (by simp))
  |int j=>obtain ⟨t',rfl⟩:=ry;exact PySem.EqMixed.ne_str_int (bK I q (by simp))
  |str j=>obtain ⟨t',rfl⟩:=ry;exact ne_str (bK I q (congrArg not zK))
  |_=>exact absurd (show false=true from hs) AB
 |byt i=>
  obtain ⟨t,rfl⟩:=rx;cases y with
  |byt j=>obtain ⟨t',rfl⟩:=ry;exact PySem.W.ne_bytes (bK I q (congrArg not zN))
  |_=>exact absurd (show false=true from hs) AB
 |_=>cases y<;>exact absurd (show false=true from hs) AB
def xF:OpR X (BB .Lt) (rI0 λi j=>.bl (decide (i<j))):=opB0 λ_ _ _ _ _ _ _ q=>lt_int q
def aEt:OpR X (BB .LtE) (rI0 λi j=>.bl (decide (i<=j))):=opB0 λ_ _ _ _ _ _ _ q=>le_int q
def aG8:OpR X (BB .Gt) (rI0 λi j=>.bl (decide (j<i))):=opB0 λ_ _ _ _ _ _ _ q=>gt_int q
def aG9:OpR X (BB .GtE) (rI0 λi j=>.bl (decide (j<=i))):=opB0 λ_ _ _ _ _ _ _ q=>ge_int q
def xH:OpR X (BB .In) (λx y H Q=>∃ i j,x=.str i/\y=.str j/\Q (.bl (!(AG.Str.occurrences j i 0 j.length 1).isEmpty)) H):=by
 intro U s Z H x y v u Q I rx ry h;obtain ⟨i,j,rfl,rfl,q⟩:=h;obtain ⟨t,rfl⟩:=rx;obtain ⟨t',rfl⟩:=ry;exact in_str (bK I q rfl)
def xG:OpR X (BB .Is) (λx y H Q=>y=.non/\Q (.bl (decide (x=.non))) H):=by
 intro U s Z H x y v u Q I rx ry h;obtain ⟨rfl,q⟩:=h;cases ry;refine is_none_gen (bK I q ?_);cases x<;>first
  |(cases rx;rfl)
  |(obtain ⟨t,rfl⟩:=rx;rfl)
def xA:OpR X (BB .IsNot) (λx y H Q=>y=.non/\Q (.bl (!decide (x=.non))) H):=by
 intro U s Z H x y v u Q I rx ry h;obtain ⟨rfl,q⟩:=h;cases ry;refine isnot_none_gen (bK I q ?_);cases x<;>first
  |(cases rx;rfl)
  |(obtain ⟨t,rfl⟩:=rx;rfl)
def isObj:HO->Bool
 |.lst _=>true
 |.ins _ _ _=>true
 |_=>false
def aCw (b:Expr)(h:op≠.In:=by decide)(h2:op≠.NotIn:=by decide):behindInMarks op b=false:=by
 have e1:(op==CmpOp.In)=false:=by cases op<;>first|rfl|exact absurd rfl h
 have e2:(op==CmpOp.NotIn)=false:=by cases op<;>first|rfl|exact absurd rfl h2
 cases b<;>simp [behindInMarks,e1,e2]
def dD {op:CmpOp}{r:R2}(ho:OpR X (BB op) r)(ha:PE X a ta)(hb:PE X b tb)(hm:behindInMarks op b=false:=by exact aCw _):PE X (.Compare a [op] [b] pos) (tOp r ta tb):=by
 intro U s Z H Q I h;exact wpAny_Compare1 (binT ha hb I h λv u s2 x y H2 I2 rx ry q=>ho U s2 Z H2 x y v u Q I2 rx ry q) hm
def aF3 (t:TE):TT:=λZ H Q=>t Z H (RB Q)
def aL {r:R2}(ho:OpR X (BB op) r)(ha:PE X a ta)(hb:PE X b tb)(hm:behindInMarks op b=false:=by exact aCw _):PT X (.Compare a [op] [b] pos) (aF3 (tOp r ta tb)):=by
 intro U s Z H Q I h;refine wpAny_isTrue_Compare1 (thn (ha U s Z H _ I h) λv s1 ⟨x,H1,I1,r1,q1⟩=>thn (hb U s1 Z H1 _ I1 q1) λu s2 ⟨y,H2,I2,r2,q2⟩=>
  thn (ho U s2 Z H2 x y v u _ I2 r1 r2 q2) λc s3 ⟨z,H3,I3,r3,k,e,q3⟩=>?_) hm
 subst e;cases r3;exact Du ⟨H3,I3,q3⟩
def aGc (r r':R2)(ta tb tc:TE):TE:=λZ H Q=>ta Z H λx H1=>tb Z H1 λy H2=>r x y H2 λz H3=>RIf z (tc Z H3 λw' H4=>r' y w' H4 Q) (Q (.bl false) H3)
def rR {r r':R2}(ho:OpR X (BB op) r)(ho':OpR X (BB op') r')(ha:PE X a ta)(hb:PE X b tb)(hc:PE X c tc)(hm:lastMarks [op,op'] [b,c]=false:=by with_unfolding_all rfl):PE X (.Compare a [op,op'] [b,c] pos) (aGc r r' ta tb tc):=by
 intro U s Z H Q I h;refine Compare_chain (thn (ha U s Z H _ I h) λv s1 ⟨x,H1,I1,r1,q1⟩=>chain_link (thn (hb U s1 Z H1 _ I1 q1) λu s2 ⟨y,H2,I2,r2,q2⟩=>
  thn (ho U s2 Z H2 x y v u _ I2 r1 r2 q2) λd s3 ⟨z,H3,I3,r3,k,e,q3⟩=>?_)) hm
 subst e;cases r3;refine Du ?_;cases k with
 |false=>exact ite_ff ⟨.bl false,H3,I3,rfl,q3⟩
 |true=>exact ite_tt (chain_last (thn (hc U s3 Z H3 _ I3 q3) λw' s4 ⟨z',H4,I4,r4,q4⟩=>ho' U s4 Z H4 y z' u w' Q I4 r2 r4 q4))
def TruV (K:Ab)(x:V)(H:Hp)(k:Bool):Prop:=
 match x with
 |.non=>k=false
 |.bl b=>k=b
 |.int i=>k=(i != 0)
 |.str y=>y.length<=Au/\k=((y.length:Int) != 0)
 |.byt y=>y.size<=Au/\k=((y.size:Int) != 0)
 |.ref p=>(∃ xs,SqL K H p xs/\k=!xs.isEmpty)\/(∃ xs,SqT K H p xs/\k=!xs.isEmpty)\/∃ kvs,H p=some (.dK kvs)/\k=!kvs.isEmpty
 |_=>False
def lK:(Au:Nat)<2^63:=by rw [sizeLine_eq];decide
def fX:OpR X (Eg .Add) (λx y H Q=>∃ i j,x=.str i/\y=.str j/\i.length+j.length<=Au/\Q (.str (i++j)) H):=by
 intro U s Z H x y v u Q I rx ry h;obtain ⟨i,j,rfl,rfl,hz,q⟩:=h;obtain ⟨t,rfl⟩:=rx;obtain ⟨t',rfl⟩:=ry;exact add_str (λt' tk=>⟨.str (i++j),H,I.tok _,⟨_,rfl⟩,q⟩) hz
def PlainIxT (b:Expr):Prop:=∀ o i,subscripted b false o i=operate [o,i] (getItem o i)
def vals1 (r:Vals [x] us):∃ u,us=[u]/\RelV x u:=by
 cases r with
 |cons r1 r2=>cases r2;exact ⟨_,rfl,r1⟩
def vals2 (r:Vals [x,y] us):∃ u w',us=[u,w']/\RelV x u/\RelV y w':=by
 cases r with
 |cons r1 r2=>
  cases r2 with
  |cons r3 r4=>cases r4;exact ⟨_,_,rfl,r1,r3⟩
def gZ:fH X (.builtin "abs") (λxs H Q=>∃ i,xs=[.int i]/\Q (.int (if i<0 then -i else i)) H):=by
 intro U s Z H xs us Q I r h;obtain ⟨i,rfl,q⟩:=h;obtain ⟨u,rfl,t,rfl⟩:=vals1 r;exact call_abs_int λu tk=>⟨.int (if i<0 then -i else i),H,I.tok _,⟨_,rfl⟩,q⟩
def zY (hc:X.calm=true):fH X (.builtin "max") (λxs H Q=>∃ i j,xs=[.int i,.int j]/\Q (.int (if j > i then j else i)) H):=by
 intro U s Z H xs us Q I r h;obtain ⟨i,j,rfl,q⟩:=h;obtain ⟨u,w',rfl,⟨t,rfl⟩,⟨t',rfl⟩⟩:=vals2 r;refine max_two_ints (I.ok.hd hc) λh' tk k=>⟨_,H,I.kept k,?_,q⟩
 by_cases hj:j > i
 ·rw [if_pos hj,if_pos hj];exact ⟨_,rfl⟩
 ·rw [if_neg hj,if_neg hj];exact ⟨_,rfl⟩
def oG (hc:X.calm=true):fH X (.builtin "min") (λxs H Q=>∃ i j,xs=[.int i,.int j]/\Q (.int (if j<i then j else i)) H):=by
 intro U s Z H xs us Q I r h;obtain ⟨i,j,rfl,q⟩:=h;obtain ⟨u,w',rfl,⟨t,rfl⟩,⟨t',rfl⟩⟩:=vals2 r;refine min_two_ints (I.ok.hd hc) λh' tk k=>⟨_,H,I.kept k,?_,q⟩
 by_cases hj:j<i
 ·rw [if_pos hj,if_pos hj];exact ⟨_,rfl⟩
 ·rw [if_neg hj,if_neg hj];exact ⟨_,rfl⟩
def aAa:fH X (.type "int") (λxs H Q=>(∃ i,xs=[.int i]/\Q (.int i) H)\/∃ k,xs=[.bl k]/\Q (.int (if k then 1 else 0)) H):=by
 intro U s Z H xs us Q I r h
 rcases h with ⟨i,rfl,q⟩|⟨k,rfl,q⟩
 ·obtain ⟨u,rfl,t,rfl⟩:=vals1 r
  exact call_int_int ⟨.int i,H,I,⟨_,rfl⟩,q⟩
 ·obtain ⟨u,rfl,r1⟩:=vals1 r
  cases r1;exact call_int_bool ⟨.int (if k then 1 else 0),H,I.tok _,⟨_,rfl⟩,q⟩
def LenV (K:Ab)(x:V)(H:Hp)(n:Nat):Prop:=
 match x with
 |.str y=>y.length<=Au/\n=y.length
 |.byt y=>y.size<=Au/\n=y.size
 |.ref p=>(∃ xs,SqL K H p xs/\n=xs.length)\/∃ xs,SqT K H p xs/\n=xs.length
 |_=>False
end
structure ObjM (h:Heap)(x dx C:Gj)(mA:Gb):Prop where
 obj:h.get? x=some (Di C dx)
 ns:h.Ns1 dx mA
 ne:dx≠x
def yJ {h:Heap}{dx:Gj}{mA:Gb}(n:h.Ns1 dx mA):∃ od,h.get? dx=some od/\∀ name,PySem.W.lookIn name od=some (mA name):=by
 obtain ⟨o,es,ep,ho,hd,hk,_,hm⟩:=n;refine ⟨o,ho,λname=>?_⟩;have e:=hm name;unfold nsFind findBy at e;rw [<- Array.find?_toList] at e;unfold PySem.W.lookIn;rw [hd];dsimp only;split
 ·rename_i y q
  rw [q] at e;exact congrArg some e
 ·rename_i q
  rw [q] at e;have a:es.toList.any (·.refKey)=false:=by
   rw [List.any_eq_false];intro y hy;obtain ⟨z,t,hkey⟩:=hk y (Array.mem_toList_iff.mp hy);simp [DictEntry.refKey,hkey]
  have a':¬ es.toList.any (·.refKey)=true:=by rw [a];exact AB
  rw [if_neg a'];exact congrArg some e
def ObjM.look (I:ObjM h x dx C mA):∃ od,PySem.W.InstAt h x (Di C dx) C (some od)/\∀ name,PySem.W.lookIn name od=some (mA name):=
 let ⟨od,ho,hl⟩:=yJ I.ns
 ⟨od,⟨I.obj,rfl,rfl,ho⟩,hl⟩
section
variable {prog:Aw}{w:World}{A:Around}{E:Ga}{s:Gm}{K:Ab}{x dx C f:Gj}{mA:Gb}{name:Str}{v:Gk}
def get_map {expr:Bool}(X:K.In s.heap)(I:ObjM s.heap x dx C mA)(hg:PySem.W.plainGet K C name=true)(hh:PySem.W.hasDictIn K C=true)(ha:BL K (.ref C) name=some none)(hv:mA name=some v)(hv':PySem.W.handedIn v=true)(h:Q v { s with toks:=s.toks+1 }) :
  wpAny (model prog w) A (getAttr (.ref x) name expr) Q E s:=by
 obtain ⟨od,J,hl⟩:=I.look;exact PySem.W.get_value X J (PySem.W.plainGet_of hg).1 (PySem.W.findObj_own hh ha rfl (by rw [hl,hv])) hv' h
def aBx (X:K.In s.heap)(I:ObjM s.heap x dx C mA)(hg:PySem.W.plainGet K C name=true)(hf:BL K (.ref C) name=some (some (.ref f)))(ht:PySem.W.isFn K (.ref f)=true)(hv:mA name=none)(h:Q (.ref f,[.ref x]) s) :
  wpAny (model prog w) A (getMethod (.ref x) name pl) Q E s:=by
 obtain ⟨od,J,hl⟩:=I.look;exact PySem.W.method_fn X J (PySem.W.plainGet_of hg).1 (PySem.W.plainGet_of hg).2 hf (beq_iff_eq.mp ht) (by show (PySem.W.lookIn name od).map (·.isSome)=some false;rw [hl,hv];rfl) h
def aDv (X:K.In s.heap)(I:ObjM s.heap x dx C mA)(hs:BL K (.ref C) "__setattr__" = some (some (.builtin "object.__setattr__")))(hp:PySem.W.plainOver K C=true)(ht:PySem.W.takerIn K C name=some none)(hh:PySem.W.hasDictIn K C=true)(hw:PySem.Within mA ns)(hsz:ns.length<=Au)(h:∀ h',ObjM h' x dx C (λy=>if y=name then some v else mA y)->Cf dx s.heap h'->Q () { s with heap:=h',toks:=s.toks+2 }) :
  wpAny (model prog w) A (setAttr (.ref x) name v) Q E s:=by
 obtain ⟨od,J,hl⟩:=I.look;refine PySem.W.set_plain X J hs (PySem.W.osa_open (s:={ s with toks:=s.toks+1 }) (r:=none) X J hp ht λb=>?_);obtain ⟨cd,hc,hd'⟩:=PySem.W.any_some hh;have hx:s.heap.get? x=some ⟨.ref C,some dx,.plain,#[]⟩:=I.obj;refine Aa (Ag (Aa (Aa (wpAny_loadPart hx (Aa (PySem.W.Looks.here (s:={ s with toks:=s.toks+1 }) (PySem.W.looks_clsIn X hc) ?_))))));rw [hd'];refine Ag (a:=some dx) (Aa (Ag (Aa ?_)));refine wpAny_nsSet1 (s:={ s with toks:=s.toks+1 }) I.ns λh' hn2 hs2=>?_;obtain ⟨oD,esD,epD,hoD,hdD,hcD⟩:=hn2.count (PySem.Within.cons name v hw);refine Aa (wpAny_lookBehind hoD (by rw [hdD];exact pastItsLine_dict (AR hcD (by rw [AX];lia))) ?_);exact Ag (h _ ⟨(hs2.2 _ (Bi I.ne)).trans I.obj,hn2,I.ne⟩ hs2)
def aBr (X:K.In s.heap)(hm:PySem.W.makesIn K C=true)(hi:BL K (.ref C) "__init__" = some (some (.ref f)))(hf:PySem.W.typeIn K (.ref f)=some (.type "function"))(h:Ey (model prog w) (A.under (.builtin "type.__call__" ⟨.ref C::vs,kw⟩)) (.call (.ref f) ⟨.ref (s.heap.objs.size+1)::vs,kw⟩) (PySem.W.InitBack (s.heap.objs.size+1) R)
   { s with heap:=(s.heap.push Ct).push (Di C s.heap.objs.size) }) :
  Ey (model prog w) A (.call (.ref C) ⟨vs,kw⟩) R s:=by
 obtain ⟨hh,g,d,t,os⟩:=s;exact PySem.W.make_core (PySem.W.makes_of X hm) (PySem.W.looks_findIn X hi) (λself=>PySem.W.bind_fn X self hf) (.inl rfl) h
end
def putF (f:Str)(v:V):Gn->Gn
  |[]=>[(f,v)]
  |(g,x)::r=>if g=f then (g,v)::r else (g,x)::putF f v r
theorem bF (f g:Str)(v:V):∀ fs:Gn,(putF f v fs).lookup g=if g=f then some v else fs.lookup g
  |[]=>by
    show Ds g [(f,v)]=_
    by_cases h:g=f
    . have hb:(g==f)=true:=beq_iff_eq.mpr h;simp only [Ds,hb,if_pos h]
    . have hb:(g==f)=false:=beq_eq_false_iff_ne.mpr h;simp only [Ds,hb,if_neg h]
  |(k,x)::r=>by
    have ih:=bF f g v r;rw [show putF f v ((k,x)::r)=(if k=f then (k,v)::r else (k,x)::putF f v r) from rfl]
    by_cases hk:k=f
    . rw [if_pos hk]
      by_cases h:g=k
      . have hb:(g==k)=true:=beq_iff_eq.mpr h;simp only [Ds,hb,if_pos (h.trans hk)]
      . have hb:(g==k)=false:=beq_eq_false_iff_ne.mpr h;simp only [Ds,hb,if_neg (λe:g=f=>h (e.trans hk.symm))]
    . rw [if_neg hk]
      by_cases h:g=k
      . have hb:(g==k)=true:=beq_iff_eq.mpr h;simp only [Ds,hb,if_neg (λe:g=f=>hk (h.symm.trans e))]
      . have hb:(g==k)=false:=beq_eq_false_iff_ne.mpr h;simp only [Ds,hb];exact ih
theorem kH (f:Str)(v:V):∀ fs:Gn,f∈(putF f v fs).map (·.1)/\∀ g,g∈fs.map (·.1)->g∈(putF f v fs).map (·.1)
  |[]=>⟨by simp [putF],λg h=>by simp at h⟩
  |(k,x)::r=>by
    obtain ⟨i1,i2⟩:=kH f v r;rw [show putF f v ((k,x)::r)=(if k=f then (k,v)::r else (k,x)::putF f v r) from rfl]
    by_cases hk:k=f
    . rw [if_pos hk];subst hk;exact ⟨by simp,λg h=>by simpa using h⟩
    . rw [if_neg hk];refine ⟨?_,λg h=>?_⟩
      . rw [Ak];exact Ah _ i1
      . rw [Ak] at h ⊢
        rcases Ay.mp h with e|e
        . exact Ay.mpr (.inl e)
        . exact Ah _ (i2 g e)
theorem kE (f:Str)(v:V):∀ fs:Gn,(putF f v fs).length<=fs.length+1
  |[]=>by simp [putF]
  |(k,x)::r=>by
    have ih:=kE f v r;rw [show putF f v ((k,x)::r)=(if k=f then (k,v)::r else (k,x)::putF f v r) from rfl]
    by_cases hk:k=f
    . rw [if_pos hk,AX,AX];lia
    . rw [if_neg hk,AX,AX];lia
def RelO.some_of (r:RelO (some v) o):∃ u,o=some u/\RelV v u:=by
 cases o with
 |none=>exact (show False from r).elim
 |some u=>exact ⟨u,rfl,r⟩
def RelO.none_of (r:RelO none o):o=none:=by
 cases o with
 |none=>rfl
 |some u=>exact (show False from r).elim
def yX (r:RelV v u):PySem.W.handedIn u=true:=by
 cases v with
 |non=>cases (show u=BO from r);rfl
 |bl b=>cases (show u=Value.bool b from r);rfl
 |int i=>obtain ⟨t,e⟩:=(show ∃ t,u=Value.int i t from r);cases e;rfl
 |str x=>obtain ⟨t,e⟩:=(show ∃ t,u=Value.str x t from r);cases e;rfl
 |byt b=>obtain ⟨t,e⟩:=(show ∃ t,u=Value.bytes b t from r);cases e;rfl
 |flt b=>obtain ⟨t,e⟩:=(show ∃ t,u=Value.float b t from r);cases e;rfl
 |ref a=>cases (show u=AC a from r);rfl
 |ty n=>cases (show u=CW n from r);rfl
section
variable {P:Aw}{w:World}{H H':Hp}{h h':Heap}{a C dx:Gj}{fs fs':Gn}
def qF (hok:HOk P w H h)(e:H a=some (.ins C dx fs)):∃ mA,ObjM h a dx C mA/\(∀ f,RelO (fs.lookup f) (mA f))/\PySem.Within mA (fs.map (·.1))/\fs.length<=1000/\H dx=some (.own a):=by
 obtain ⟨d,z,ne,ob,mA,n,r,q⟩:=(show ObjOk P w H h a (.ins C dx fs) from hok a _ e);exact ⟨mA,⟨ob,n,ne⟩,r,q,z,d⟩
end
structure Cls (K:Ab)(C:Gj):Prop where
 pg:PySem.W.plainGet K C Str.empty=true
 hd:PySem.W.hasDictIn K C=true
 po:PySem.W.plainOver K C=true
 sa:BL K (.ref C) "__setattr__" = some (some (.builtin "object.__setattr__"))
theorem Cls.get {K:Ab}{C:Gj}(c:Cls K C)(f:Str):PySem.W.plainGet K C f=true:=c.pg
def NoAttr (K:Ab)(C:Gj)(f:Str):Prop:=BL K (.ref C) f=some none
def NoAttr.taker {K:Ab}{C:Gj}{f:Str}(n:NoAttr K C f):PySem.W.takerIn K C f=some none:=by
 unfold PySem.W.takerIn;rw [show BL K (.ref C) f=some none from n];rfl
structure Con (K:Ab)(C:Gj)(f:Str)(v:V)(u:Gk):Prop where
 at_:BL K (.ref C) f=some (some u)
 rel:RelV v u
 get:PySem.W.specialIn K u "__get__" = some none
 cp:PySem.W.copiedNames.contains f=false
structure Meth (K:Ab)(C:Gj)(m:Str)(f:Gj):Prop where
 at_:BL K (.ref C) m=some (some (.ref f))
 fn:PySem.W.isFn K (.ref f)=true
 kp:CK K (.ref f)=true
section
variable {X:Cx}{U:Ge}{Z:St}{H:Hp}{s:Gm}{a C dx:Gj}{fs:Gn}{f:Str}{v:V}{A:Around}{E:Ga}
def uQ {b:Bool}(I:Inv X U Z H s)(e:H a=some (.ins C dx fs))(c:Cls X.K C)(n:NoAttr X.K C f)(l:fs.lookup f=some v)(h:∀ u s',Inv X U Z H s'->RelV v u->Q u s'):wpAny (model X.prog X.w) A (getAttr (.ref a) f b) Q E s:=by
 obtain ⟨mA,O,r,_,_,_⟩:=qF I.hok e;obtain ⟨u,hu,ru⟩:=RelO.some_of (v:=v) (o:=mA f) (by rw [<- l];exact r f);exact get_map I.kIn O (c.get f) c.hd n hu (yX ru) (h u _ (I.tok _) ru)
def uP (I:Inv X U Z H s)(e:H a=some (.ins C dx fs))(c:Cls X.K C)(k:Meth X.K C m g)(l:fs.lookup m=none)(h:Q (.ref g,[.ref a]) s):wpAny (model X.prog X.w) A (getMethod (.ref a) m pl) Q E s:=by
 obtain ⟨mA,O,r,_,_,_⟩:=qF I.hok e;have hn:mA m=none:=RelO.none_of (by rw [<- l];exact r m);exact aBx I.kIn O (c.get m) k.at_ k.fn hn h
def tY (I:Inv X U Z H s)(e:H a=some (.ins C dx fs))(c:Cls X.K C)(n:NoAttr X.K C f)(hl:fs.length<1000)(ry:RelV y u)(h:∀ s',Inv X U Z (upd H a (.ins C dx (putF f y fs))) s'->Q () s'):wpAny (model X.prog X.w) A (setAttr (.ref a) f u) Q E s:=by
 obtain ⟨mA,O,r,wi,_,ho⟩:=qF I.hok e;have hz:(fs.map (·.1)).length<=Au:=by rw [Af,sizeLine_eq];lia
 refine aDv I.kIn O c.sa c.po n.taker c.hd wi hz λh' O' sb=>h _ ?_;have hd:∃ o,h'.get? dx=some o:=let ⟨o,_,_,e',_⟩:=O'.ns;⟨o,e'⟩;refine I.write (x:=a) (e:=dx) (by rw [e];exact Dp) (.inr ho) (λb q hb z=>(sb.2 b hb).trans z) hd ?_;refine ⟨by rw [aK O.ne];exact ho,?_,O.ne,O'.obj,_,O'.ns,λg=>?_,λg hg=>?_⟩
 ·have:=kE f y fs;lia
 ·show RelO ((putF f y fs).lookup g) (if g=f then some u else mA g)
  rw [bF]
  by_cases q:g=f
  ·rw [if_pos q,if_pos q];exact ry
  ·rw [if_neg q,if_neg q];exact r g
 ·by_cases q:g=f
  ·rw [q];exact (kH f y fs).1
  ·refine (kH f y fs).2 g (wi g λz=>hg ?_)
   show (if g=f then some u else mA g)=none;rw [if_neg q];exact z
def Inv.made (I:Inv X U Z H s):Inv X U Z (upd (upd H s.heap.objs.size (.own (s.heap.objs.size+1))) (s.heap.objs.size+1) (.ins C s.heap.objs.size []))
  { s with heap:=(s.heap.push Ct).push (Di C s.heap.objs.size) }:=by
 have e1:(s.heap.push Ct).get? s.heap.objs.size=some Ct:=Ai s.heap rfl;have e2:((s.heap.push Ct).push (Di C s.heap.objs.size)).get? (s.heap.objs.size+1)=some (Di C s.heap.objs.size):=by
  have:=Ai (s.heap.push Ct) (o:=Di C s.heap.objs.size) rfl;rwa [BH] at this
 have e3:(s.heap.push Ct).Ns s.heap.objs.size (λ_=>none):=⟨Ct,#[],_,e1,rfl,(λe he=>absurd he (by simp)),λ_=>rfl⟩;have I1:=I.laid (a:=s.heap.objs.size) (o:=.own (s.heap.objs.size+1)) (h':=s.heap.push Ct) (t':=s.toks) (λb u q=>Ac _ q) (Aj _) ⟨_,e1⟩;refine I1.laid (a:=s.heap.objs.size+1) (o:=.ins C s.heap.objs.size []) (t':=s.toks) (λb u q=>Ac _ q) (Nat.le_of_eq (BH _ _)) ?_;have ne:s.heap.objs.size≠s.heap.objs.size+1:=As (Cd _);refine ⟨by rw [aK ne,aB],Bu _,ne,e2,λ_=>none,(Heap.Ns1.of_empty e3).at λo q=>Ac _ q,λ_=>Dp,λy hy=>absurd rfl hy⟩
def aFp {w:World}(hb:EJ e f env (eval e env)=eval e env)(h:wpAny (model prog w) A (eval e env) (λo s₁=>wpAny (model prog w) A (getAttr o f true) Q E s₁) E s):wpAny (model prog w) A (eval (.Attribute e f pos) env) Q E s:=
 Attribute_any_ h (by rw [arm_eval_Attribute,hb])
end
inductive RFld (K:Ab)(f:Str)(Q:VK)(x:V)(H1:Hp):Prop
 |mk (a C dx:Gj) (fs:Gn) (v:V) (e:x=.ref a) (i:H1 a=some (.ins C dx fs)) (c:Cls K C) (n:NoAttr K C f) (l:fs.lookup f=some v) (h:Q v H1)
def tFld (K:Ab)(ta:TE)(f:Str):TE:=λZ H Q=>ta Z H (RFld K f Q)
def tCon (K:Ab)(ta:TE)(f:Str):TE:=λZ H Q=>ta Z H λx H1=>∃ a C dx fs v u,x=.ref a/\H1 a=some (.ins C dx fs)/\Cls K C/\Con K C f v u/\fs.lookup f=none/\Q v H1
def sFld (K:Ab)(ta tv:TE)(f:Str):TS:=λD Z H=>tv Z H λy H1=>ta Z H1 λx H2=>∃ a C dx fs,x=.ref a/\H2 a=some (.ins C dx fs)/\Cls K C/\NoAttr K C f/\fs.length<1000 /\
 D.nx Z (upd H2 a (.ins C dx (putF f y fs)))
def InOp (X:Cx)(op:Operator)(rd:V->V->Hp->VK->Prop):Prop:=
 ∀ (U:Ge) (s:Gm) (Z:St) (H:Hp) (x y:V) (u v:Gk) (Q:VK),Inv X U Z H s->RelV x u->RelV y v->rd x y H Q->wpAny (model X.prog X.w) X.A (inplaceOp op u v) (EP X U Z Q) X.xe s
def sFldAug (K:Ab)(ta tv:TE)(rd:V->V->Hp->VK->Prop)(f:Str):TS:=λD Z H=>ta Z H λx H1=>∃ a C dx fs v,x=.ref a/\H1 a=some (.ins C dx fs)/\Cls K C/\NoAttr K C f/\fs.lookup f=some v /\
 tv Z H1 λy H2=>rd v y H2 λz H3=>∃ dx' fs',H3 a=some (.ins C dx' fs')/\fs'.length<1000/\D.nx Z (upd H3 a (.ins C dx' (putF f z fs')))
section
variable {X:Cx}{o e value:Expr}{f:Str}{pos pos' tpos:Pos}{ta tv:TE}
def cZ (he:PE X e ta)(hb:EJ e f X.env (eval e X.env)=eval e X.env):PE X (.Attribute e f pos) (tFld X.K ta f):=by
 intro U s Z H Q I h;refine aFp hb (thn (he U s Z H _ I h) λu s1 ⟨x,H1,I1,rx,a,C,dx,fs,v,ex,ea,c,n,l,q⟩=>?_);subst ex;obtain rfl:u=AC a:=rx;exact uQ I1 ea c n l λu' s2 I2 ru=>⟨v,H1,I2,ru,q⟩
def fP (ha:PE X o ta)(hv:PE X value tv)(hs:Fd value (some (.Attribute o f pos')) pos.line X.env=pure false):PS X (.Assign [.Attribute o f pos'] value pos) (sFld X.K ta tv f):=by
 intro U s Z H D I h;refine EU (thn (hv U s Z H _ I h) λu s1 ⟨y,H1,I1,ry,q⟩=>thn (ha U s1 Z H1 _ I1 q) λov s2 ⟨x,H2,I2,rx,a,C,dx,fs,ex,ea,c,n,l,q2⟩=>?_) hs;subst ex;obtain rfl:ov=AC a:=rx;exact tY I2 ea c n l ry λs3 I3=>⟨Z,_,I3,q2⟩
def rAdd:V->V->Hp->VK->Prop:=λx y H Q=>∃ i j,x=.int i/\y=.int j/\Q (.int (i+j)) H
def rSub:V->V->Hp->VK->Prop:=λx y H Q=>∃ i j,x=.int i/\y=.int j/\Q (.int (i-j)) H
end
section
variable {X:Cx}{U:Ge}{Z:St}{H:Hp}{s:Gm}{A:Around}{E:Ga}{Q:Ga}{c:Gk}{b:Bool}
inductive TyOf (K:Ab)(H:Hp):V->Gk->Prop where
 |non:TyOf K H .non (.type "NoneType")
 |bl (x:Bool):TyOf K H (.bl x) (.type "bool")
 |int (i:Int):TyOf K H (.int i) (.type "int")
 |str (x:Str):TyOf K H (.str x) (.type "str")
 |flt (x:UInt64):TyOf K H (.flt x) (.type "float")
 |lst {a:Gj} {xs:Gq} (e:H a=some (.lst xs)):TyOf K H (.ref a) (.type "list")
 |frz {a:Gj} {o:Obj} {xs:Gq} (e:H a=some (.frz o (.lst xs))):TyOf K H (.ref a) (.type "list")
 |tup {a:Gj} {xs:Gq} (e:H a=some (.tup xs)):TyOf K H (.ref a) (.type "tuple")
 |dK {a:Gj} {kvs:Gp} (e:H a=some (.dK kvs)):TyOf K H (.ref a) (.type "dict")
 |dT {a:Gj} {kvs:List (List Key×V)} (e:H a=some (.dT kvs)):TyOf K H (.ref a) (.type "dict")
 |ins {a C dx:Gj} {fs:Gn} (e:H a=some (.ins C dx fs)) (cl:Cls K C) (ha:BL K (.ref C) "__class__" = some (some (.builtin "object.__class__")))
   (hn:PySem.W.specialIn K (.builtin "object.__class__") "__get__" = some (some (.builtin "getset_descriptor.__get__"))) (htk:PySem.W.takesIn K (.builtin "object.__class__")=some true)
   (hm:PySem.W.mroIn K C (.type "object")=some true):TyOf K H (.ref a) (.ref C)
end
structure Room (k:Nat)(A:Around):Prop where
 hd:A.handled=none
 dp:A.depth+3*k+5<recursionLimit
 un:A.units+16*k+200<cLine
 gd:A.guards=some []
def Room.mono {j k:Nat}(r:Room k A)(h:j<=k):Room j A:=⟨r.hd,by have:=r.dp;lia,by have:=r.un;lia,r.gd⟩
def Room.deeper {k:Nat}(r:Room (k+1) A)(env:Env):Room k (A.deeper env):=
 ⟨r.hd,by have:=r.dp;show A.depth+1+3*k+5<_;lia,by have:=r.un;show A.units+3+16*k+200<_;lia,r.gd⟩
theorem uK {A:Around}{C:Gj}{us:Gi}{kw:List (Str×Gk)}:(A.under (.builtin "type.__call__" ⟨.ref C::us,kw⟩)).depth=A.depth+1:=by
 first|rfl|simp [Around.under,Code.weight,Code.isCreation,Code.isGuard,Code.isCaller,Code.frames,Code.isFrame,guardIds]
theorem uJ {A:Around}{C:Gj}{us:Gi}{kw:List (Str×Gk)}:(A.under (.builtin "type.__call__" ⟨.ref C::us,kw⟩)).units=A.units+1:=by
 first|rfl|simp [Around.under,Code.cUnits,Code.frames,Code.isFrame]
theorem qC {A:Around}{C:Gj}{us:Gi}{kw:List (Str×Gk)}:(A.under (.builtin "type.__call__" ⟨.ref C::us,kw⟩)).guards=A.guards:=by
 first|rfl|(cases h:A.guards<;>simp [Around.under,Code.guards,Code.isGuard,guardIds,pushGuards,h])
def Room.make {k:Nat}{A:Around}(r:Room (k+1) A)(C:Gj)(us:Gi)(kw:List (Str×Gk)):Room k (A.under (.builtin "type.__call__" ⟨.ref C::us,kw⟩)):=
 ⟨r.hd,by have:=r.dp;rw [uK];lia,by have:=r.un;rw [uJ];lia,by rw [qC];exact r.gd⟩
theorem Room.depth {k:Nat}(r:Room k A):A.depth<recursionLimit:=by have:=r.dp;lia
def Room.units {k:Nat}(r:Room k A):A.units+64<cLine:=by have:=r.un;lia
def tNil:TA:=λ_ H Q=>Q [] H
def vL (ta:TE)(tr:TA):TA:=λZ H Q=>ta Z H λx H1=>tr Z H1 λxs H2=>Q (x::xs) H2
section
variable {X:Cx}{e:Expr}{es:List Expr}{te:TE}{t:TA}{pos:Pos}
def aC:PA X [] tNil:=λ_ _ _ _ H Q I h=>Calls.spliced_nil ⟨[],H,I,.nil,h⟩
def aA (ha:PE X e te)(hr:PA X es t)(hs:AL (e::es) X.env=(false,eval e X.env)::AL es X.env:=by rfl):PA X (e::es) (vL te t):=by
 intro pos U s Z H Q I h;rw [hs];show wpAny _ _ (spliced ((false,eval e X.env)::backTo pos (AL es X.env))) _ _ s;refine En (thn (ha U s Z H _ I h) λu s1 ⟨x,H1,I1,r1,q1⟩=>?_);exact thn (hr pos U s1 Z H1 _ I1 q1) λus s2 ⟨xs,H2,I2,r2,q2⟩=>⟨x::xs,H2,I2,.cons r1 r2,q2⟩
def tTup (t:TA):TE:=λZ H Q=>t Z H λxs H1=>xs.length<=Au/\∀ p,H1 p=none->Q (.ref p) (upd H1 p (.tup xs))
def tLst (t:TA):TE:=λZ H Q=>t Z H λxs H1=>xs.length<=Au/\∀ p,H1 p=none->Q (.ref p) (upd H1 p (.lst xs))
def aU {x1}(h:PA X es t):PE X (.Tuple es x1 pos) (tTup t):=by
 intro U s Z H Q I hq;refine wpAny_Tuple_spliced (thn (h pos U s Z H _ I hq) λus s1 ⟨xs,H1,I1,r,z,q⟩=>⟨by rw [<- r.length];exact z,?_⟩);have hf:H1 s1.heap.objs.size=none:=I1.hok.fresh (Aj _);refine ⟨.ref s1.heap.objs.size,upd H1 s1.heap.objs.size (.tup xs),I1.laid (t':=s1.toks) (λb u e=>Ac _ e) (Aj _) ?_,rfl,q _ hf⟩;exact ⟨⟨z,_,Ai _ rfl,rfl⟩,us,r,⟨_,Ai _ rfl,rfl,_,rfl⟩⟩
def cV (h:PA X es t):PE X (.List es pos) (tLst t):=by
 intro U s Z H Q I hq;refine wpAny_List_spliced (thn (h pos U s Z H _ I hq) λus s1 ⟨xs,H1,I1,r,z,q⟩=>⟨by rw [<- r.length];exact z,?_⟩);have hf:H1 s1.heap.objs.size=none:=I1.hok.fresh (Aj _);refine ⟨.ref s1.heap.objs.size,upd H1 s1.heap.objs.size (.lst xs),I1.laid (t':=s1.toks) (λb u e=>Ac _ e) (Aj _) ?_,rfl,q _ hf⟩;exact ⟨z,us,0,r,Ai _ rfl⟩
end
abbrev Sp:=Gq->Hp->VK->XK->Prop
abbrev CXT:=List Env->Hp->Gm->XK->Ga
structure Env0 (P:Aw)(w:World)(K:Ab)(mg:Gb)(base:Heap)(A:Around)(outer:List Env)(s:Gm)(H:Hp):Prop where
 frames:A.frames=some outer
 mod:Mod K mg base
 bs:∀ b o,base.get? b=some o->s.heap.get? b=some o/\H b=none
 bsz:base.objs.size<=s.heap.objs.size
 funs:s.heap.FunFrames base outer
 frf:∀ b∈frs outer,H b=none
 hok:HOk P w H s.heap
 bare:AllBare s.gens
def CE (outer:List Env)(P:Aw)(w:World)(H:Hp)(s:Gm)(Q:VK)(u:Gk)(s':Gm):Prop:=
 ∃ v H',s'.os=s.os/\AllBare s'.gens/\Un (frs outer) [] H H' s.heap s'.heap/\HOk P w H' s'.heap/\RelV v u/\Q v H'
def CR (CX:CXT)(outer:List Env)(P:Aw)(w:World)(H:Hp)(s:Gm)(Q:VK)(E:XK)(r:Result)(s':Gm):Prop:=
 match r with
 |.ok (.ret u)=>CE outer P w H s Q u s'
 |.ok _=>False
 |.error e=>CX outer H s E e s'
structure FnOk (P:Aw)(w:World)(K:Ab)(mg:Gb)(base:Heap)(CX:CXT)(k:Nat)(f:Gj)(fd:Az)(ps:Gh)(sp:Sp):Prop where
 len:∀ vs H Q E,sp vs H Q E->vs.length=ps.length
 run:∀ (A:Around) (outer:List Env) (s:Gm) (H:Hp) (args:Args) (us:Gi) (vs:Gq) (Q:VK) (E:XK),Room k A->Env0 P w K mg base A outer s H->BindsTo s fd args (ps.zip us)->Vals vs us->sp vs H Q E ->
  Ey (model P w) A (.call (.ref f) args) (CR CX outer P w H s Q E) s
def FnOk.mono {P:Aw}{w:World}{K:Ab}{mg:Gb}{base:Heap}{CX:CXT}{j k:Nat}{f:Gj}{fd:Az}{ps:Gh}{sp:Sp}(F:FnOk P w K mg base CX j f fd ps sp)(h:j<=k) :
  FnOk P w K mg base CX k f fd ps sp:=⟨F.len,λA outer s H args us vs Q E hr=>F.run A outer s H args us vs Q E (hr.mono h)⟩
def Env0.make {P:Aw}{w:World}{K:Ab}{mg:Gb}{base:Heap}{A:Around}{outer:List Env}{s:Gm}{H:Hp}(e:Env0 P w K mg base A outer s H)(C:Gj)(us:Gi)(kw:List (Str×Gk)) :
    Env0 P w K mg base (A.under (.builtin "type.__call__" ⟨.ref C::us,kw⟩)) outer s H:=⟨by first|exact e.frames|(simpa [Around.under,Code.envs,Code.isFrame,pushEnvs] using e.frames),e.mod,e.bs,e.bsz,e.funs,e.frf,e.hok,e.bare⟩
section
variable {X:Cx}{U:Ge}{Z:St}{H:Hp}{s s':Gm}
def Inv.env0 (I:Inv X U Z H s):Env0 X.prog X.w X.K X.mg X.base X.A X.stack s H:=
 ⟨I.ok.frames,I.ok.mod,I.bs,AR I.ok.bsz I.sz,I.stack,I.stkFree,I.hok,I.bare⟩
def Inv.after (I:Inv X U Z H s)(h:CE X.stack X.prog X.w H s Q u s'):EP X U Z Q u s':=by
 obtain ⟨v,H',os,bare,un,hok,r,q⟩:=h;obtain ⟨hh,g,d,t,os'⟩:=s';obtain rfl:os'=s.os:=os;exact ⟨v,H',I.call (h':=hh) (g':=g) (d':=d) (t':=t) (ch:=[]) un hok bare (λb z=>absurd z (by simp)),r,q⟩
end
def aAp (sp:Sp)(dvs:Gq)(E:XK)(t:TA):TE:=λZ H Q=>t Z H λvs H1=>sp (vs++dvs) H1 Q E
def tMeth (C:Gj)(m:Str)(sp:Sp)(dvs:Gq)(E:XK)(ta:TE)(t:TA):TE:=λZ H Q=>ta Z H λx H1=>∃ a dx fs,x=.ref a/\H1 a=some (.ins C dx fs)/\fs.lookup m=none /\
 t Z H1 λvs H2=>sp (x::(vs++dvs)) H2 Q E
def aIj (C:Gj)(sp:Sp)(dvs:Gq)(E:XK)(t:TA):TE:=λZ H Q=>t Z H λvs H1=>∀ x dx,H1 x=none->H1 dx=none->dx≠x ->
 sp (.ref x::(vs++dvs)) (upd (upd H1 dx (.own x)) x (.ins C dx [])) (λv H2=>v=.non/\Q (.ref x) H2) E
def Binds (K:Ab)(fd:Az)(ps:Gh)(ds:Gi):Prop:=
 ∀ (s:Gm) (us:Gi),K.In s.heap->(us++ds).length=ps.length->BindsTo s fd ⟨us,[]⟩ (ps.zip (us++ds))
theorem Binds.all {K:Ab}{fd:Az}{ps:Gh}(h:∀ us:Gi,us.length=ps.length->bindArgs fd ⟨us,[]⟩=pure (ps.zip us)):Binds K fd ps []:=λs us _ hl=>by
 rw [BX] at hl ⊢;exact .of_eq (h us hl)
def hJ (CX:CXT)(X:Cx)(E:XK):Prop:=∀ (U:Ge) (Z:St) (H:Hp) (s:Gm) (e:Gk) (s':Gm),Inv X U Z H s->CX X.stack H s E e s'->X.xe e s'
section
variable {X:Cx}{CX:CXT}{k:Nat}{f C:Gj}{fd:Az}{ps:Gh}{sp:Sp}{dvs:Gq}{ds:Gi}{E:XK}{x m:Str}{p pos apos:Pos}{e o:Expr}{es:List Expr}{ta:TE}{t:TA}
def aCl {Z:St}(F:FnOk X.prog X.w X.K X.mg X.base CX k f fd ps sp)(hr:Room k X.A)(hb:Binds X.K fd ps ds)(hd:Vals dvs ds)(hx:hJ CX X E)(I:Inv X U Z H s)(r:Vals vs us)(h:sp (vs++dvs) H Q E):wpAny (model X.prog X.w) X.A (call (.ref f) us) (EP X U Z Q) X.xe s:=by
 have r2:Vals (vs++dvs) (us++ds):=r.append hd;have hl:(us++ds).length=ps.length:=by rw [<- r2.length];exact F.len _ _ _ _ h
 refine EA (Ck (F.run X.A X.stack s H ⟨us,[]⟩ (us++ds) (vs++dvs) Q E hr I.env0 (hb s us I.kIn hl) r2 h) λr s' hq=>?_);cases r with
 |error e=>exact hx U Z H s e s' I hq
 |ok fl=>
  cases fl with
  |ret u=>exact I.after hq
  |next=>exact CA hq
  |brk=>exact CA hq
  |cont=>exact CA hq
def aEp (F:FnOk X.prog X.w X.K X.mg X.base CX k f fd ps sp)(hr:Room k X.A)(hg:Gl X x)(hm:X.mg x=some (.ref f))(hk:CK X.K (.ref f)=true)(hb:Binds X.K fd ps ds)(hd:Vals dvs ds)(hx:hJ CX X E)
  (ha:PA X (e::es) t) (hdb:(x==("__debug__":Str))=false:=by decide) (he:AL (e::es) X.env=(false,eval e X.env)::AL es X.env:=by rfl) (hpl:(backTo pos (AL es X.env)).any (·.1)=false:=by rfl) :
  PE X (.Call (.Name x p) (e::es) [] pos) (aAp sp dvs E t):=by
 intro U s Z H Q I h;refine Dm (fV I hg hm ?_ hdb);refine Ek (h₀:=X.base) I.ok.mod.kin hk (thn (ha pos U s Z H _ I h) λus s1 ⟨vs,H1,I1,r,q⟩=>⟨I1.kIn,?_⟩) he hpl;exact aCl F hr hb hd hx I1 r q
structure Mk (K:Ab)(C f:Gj):Prop where
 makes:PySem.W.makesIn K C=true
 init:BL K (.ref C) "__init__" = some (some (.ref f))
 fn:PySem.W.isFn K (.ref f)=true
 kp:CK K (.ref C)=true
def aA0 {Z:St}(M:Mk X.K C f)(F:FnOk X.prog X.w X.K X.mg X.base CX k f fd ps sp)(hr:Room (k+1) X.A)(hb:Binds X.K fd ps ds)(hd:Vals dvs ds)(hx:hJ CX X E)(I:Inv X U Z H s)(r:Vals vs us)(h:∀ x dx,H x=none->H dx=none->dx≠x->sp (.ref x::(vs++dvs)) (upd (upd H dx (.own x)) x (.ins C dx [])) (λv H2=>v=.non/\Q (.ref x) H2) E) :
  wpAny (model X.prog X.w) X.A (call (.ref C) us) (EP X U Z Q) X.xe s:=by
 have hq:=h (s.heap.objs.size+1) s.heap.objs.size (I.hok.fresh (Dj _)) (I.hok.fresh (Aj _)) (As (Cd _));have I2:=Inv.made (C:=C) I;have r2:Vals (V.ref (s.heap.objs.size+1)::(vs++dvs)) (AC (s.heap.objs.size+1)::(us++ds)):=.cons rfl (r.append hd);have hl:(AC (s.heap.objs.size+1)::us++ds).length=ps.length:=by
  have e:=r2.length;rw [F.len _ _ _ _ hq] at e;exact e.symm
 refine EA (aBr (f:=f) I.kIn M.makes M.init (beq_iff_eq.mp M.fn) (Ck (F.run _ X.stack _ _ ⟨AC (s.heap.objs.size+1)::us,[]⟩ (AC (s.heap.objs.size+1)::(us++ds)) _ _ E (hr.make C us [])
  (I2.env0.make C us []) (hb _ (AC (s.heap.objs.size+1)::us) I2.kIn hl) r2 hq) λr s' hq'=>?_))
 cases r with
 |error e=>exact hx U Z _ _ e s' I2 hq'
 |ok fl=>
  cases fl with
  |ret u=>
   obtain ⟨v,H',I3,rv,ev,q3⟩:=I2.after hq';subst ev;exact ⟨rv,⟨V.ref (s.heap.objs.size+1),H',I3,rfl,q3⟩⟩
  |next=>exact CA hq'
  |brk=>exact CA hq'
  |cont=>exact CA hq'
def jV (M:Mk X.K C f)(F:FnOk X.prog X.w X.K X.mg X.base CX k f fd ps sp)(hr:Room (k+1) X.A)(hg:Gl X x)(hm:X.mg x=some (.ref C))(hb:Binds X.K fd ps ds)(hd:Vals dvs ds)(hx:hJ CX X E)
  (ha:PA X (e::es) t) (hdb:(x==("__debug__":Str))=false:=by decide) (he:AL (e::es) X.env=(false,eval e X.env)::AL es X.env:=by rfl) (hpl:(backTo pos (AL es X.env)).any (·.1)=false:=by rfl) :
  PE X (.Call (.Name x p) (e::es) [] pos) (aIj C sp dvs E t):=by
 intro U s Z H Q I h;refine Dm (fV I hg hm ?_ hdb);refine Ek (h₀:=X.base) I.ok.mod.kin M.kp (thn (ha pos U s Z H _ I h) λus s1 ⟨vs,H1,I1,r,q⟩=>⟨I1.kIn,?_⟩) he hpl;exact aA0 M F hr hb hd hx I1 r q
end
def PK (X:Cx)(kws:List Keyword)(t:TA):Prop:=
 ∀ (pos:Pos) (U:Ge) (s:Gm) (Z:St) (H:Hp) (Q:Gq->Hp->Prop),Inv X U Z H s->t Z H Q->wpAny (model X.prog X.w) X.A (evalAll ((backToKw pos (keywordEach kws X.env)).map (·.2))) (AP X U Z Q) X.xe s
section
variable {X:Cx}{CX:CXT}{k:Nat}{f C:Gj}{fd:Az}{ps ks:Gh}{sp:Sp}{E:XK}{x m:Str}{p pos apos kpos:Pos}{e o:Expr}{es:List Expr}{kws:List Keyword}{te ta:TE}{t tk:TA}{nm:Option Str}
structure KBinds (K:Ab)(fd:Az)(ps ks:Gh)(g:Gi->Gi->Gi)(gV:Gq->Gq->Gq):Prop where
 to:∀ (s:Gm) (us ws:Gi),K.In s.heap->(g us ws).length=ps.length->BindsTo s fd ⟨us,ks.zip ws⟩ (ps.zip (g us ws))
 rel:∀ {vs:Gq} {us:Gi} {zs:Gq} {ws:Gi},Vals vs us->Vals zs ws->Vals (gV vs zs) (g us ws)
def tCallK (sp:Sp)(gV:Gq->Gq->Gq)(E:XK)(t tk:TA):TE:=λZ H Q=>t Z H λvs H1=>tk Z H1 λzs H2=>sp (gV vs zs) H2 Q E
variable {g:Gi->Gi->Gi}{gV:Gq->Gq->Gq}
end
structure FnScope (N P:Gh)(sc:Scope):Prop where
 kind:sc.kind=.function
 co:sc.isCoroutine=false
 gen:sc.isGenerator=false
 nd:N.Nodup
 pre:N.take P.length=P
 par:∀ x∈P,sc.names.lookup x=some .local\/sc.names.lookup x=some .cell
 nofree:∀ y∈sc.names,y.2≠.free
def fnScOk {N P:Gh}{sc:Scope}(h:(sc.kind==.function&&!sc.isCoroutine&&!sc.isGenerator&&decide N.Nodup&&decide (N.take P.length=P)&&P.all (λx=>sc.names.lookup x==some .local||sc.names.lookup x==some .cell)&&sc.names.all λy=>y.2!=.free)=true):FnScope N P sc:=by
 simp only [BG,decide_eq_true_eq,CG,Bool.or_eq_true,beq_iff_eq,bne_iff_ne,Bool.not_eq_true'] at h
 exact ⟨h.1.1.1.1.1.1,h.1.1.1.1.1.2,h.1.1.1.1.2,h.1.1.1.2,h.1.1.2,h.1.2,h.2⟩
theorem oN {kindOf:Str->Option Bf}{x:Str}:∀ {binds:List (Str×Gk)} {m:Gb},(∀ v,(x,v)∉binds)->bindL kindOf binds m x=m x
  |[],_,_=>rfl
  |(n,v)::r,m,h=>by
    unfold bindL;rw [oN λw hw=>h w (Ah _ hw)];split
    . have:x≠n:=by rintro rfl;exact h v Ar
      simp [this]
    . rfl
theorem oP {kindOf:Str->Option Bf}{x:Str}:∀ {binds:List (Str×Gk)} {m:Gb},(∀ v,(x,v)∉binds)->bindC kindOf binds m x=m x
  |[],_,_=>rfl
  |(n,v)::r,m,h=>by
    unfold bindC;rw [oP λw hw=>h w (Ah _ hw)];split
    . rfl
    . have:x≠n:=by rintro rfl;exact h v Ar
      simp [this]
theorem oO {kindOf:Str->Option Bf}{x:Str}{v:Gk}:∀ {P:Gh} {vs:Gi} {i:Nat} {m:Gb},P.Nodup->P[i]?=some x->vs[i]?=some v->kindOf x=some .local ->
  bindL kindOf (P.zip vs) m x=some v
 |[],_,_,_,_,h,_,_=>by simp at h
 |_::_,[],_,_,_,_,h,_=>by simp at h
 |p::P,w::vs,0,m,nd,h1,h2,hk=>by
  simp at h1 h2;subst h1;subst h2;show bindL kindOf ((p,w)::P.zip vs) m p=_;unfold bindL;rw [oN λv hv=>(BF.mp nd).1 (Ep hv).1,if_pos hk];simp
 |p::P,w::vs,i+1,m,nd,h1,h2,hk=>by
  show bindL kindOf ((p,w)::P.zip vs) m x=_;unfold bindL;exact oO (i:=i) (BF.mp nd).2 (by simpa using h1) (by simpa using h2) hk
theorem oQ {kindOf:Str->Option Bf}{x:Str}{v:Gk}:∀ {P:Gh} {vs:Gi} {i:Nat} {m:Gb},P.Nodup->P[i]?=some x->vs[i]?=some v->kindOf x≠some .local ->
  bindC kindOf (P.zip vs) m x=some v
 |[],_,_,_,_,h,_,_=>by simp at h
 |_::_,[],_,_,_,_,h,_=>by simp at h
 |p::P,w::vs,0,m,nd,h1,h2,hk=>by
  simp at h1 h2;subst h1;subst h2;show bindC kindOf ((p,w)::P.zip vs) m p=_;unfold bindC;rw [oP λv hv=>(BF.mp nd).1 (Ep hv).1,if_neg hk];simp
 |p::P,w::vs,i+1,m,nd,h1,h2,hk=>by
  show bindC kindOf ((p,w)::P.zip vs) m x=_;unfold bindC;exact oQ (i:=i) (BF.mp nd).2 (by simpa using h1) (by simpa using h2) hk
def start (N:Gh)(vs:Gq):St:=vs.map some++Cm (N.length-vs.length) none
def cxOf (CX:CXT)(P:Aw)(w:World)(K:Ab)(mg:Gb)(base:Heap)(N:Gh)(qual:Str)(scope:Scope)(f:Gj)(cd:Gk)(A:Around)(outer:List Env)(s:Gm)(H:Hp)(E:XK):Cx where
 prog:=P
 w:=w
 K:=K
 mg:=mg
 base:=base
 A:=A.deeper (envOfC qual scope s.heap.objs.size f cd)
 N:=N
 s₀:=s
 H₀:=H
 env:=envOfC qual scope s.heap.objs.size f cd
 outer:=outer
 stack:=envOfC qual scope s.heap.objs.size f cd::outer
 ex:=[]
 calm:=true
 fn:=λ_=>true
 pn:=[]
 xe:=λe s'=>wpAny (model P w) (A.deeper (envOfC qual scope s.heap.objs.size f cd)) (leaving (envOfC qual scope s.heap.objs.size f cd) e) (λ_ s''=>CX outer H s E e s'') (λe' s''=>CX outer H s E e' s'') s'
def tI {sc:Scope}{n:Nat}{x:Str}(h:sc.names.lookup x=some .cell):∃ c,(cellsFrom n sc.names []).lookup x=some c:=by
 have q:=PySem.W.cellsFrom_some sc.names n [] (.inl h);exact Option.isSome_iff_exists.mp q
def yT {CX:CXT}{P:Aw}{w:World}{K:Ab}{mg:Gb}{base:Heap}{N ps:Gh}{qual:Str}{scope:Scope}{f:Gj}{cd:Gk}{A:Around}{outer:List Env}{s s1:Gm}{H:Hp}{E:XK}{us:Gi}{vs:Gq}
  (S:FnScope N ps scope) (hd:A.handled=none) (e0:Env0 P w K mg base A outer s H) (hl:vs.length=ps.length) (r:Vals vs us)
  (x:InCallC s s.heap.objs.size (bindL (envOfC qual scope s.heap.objs.size f cd).kindOf (ps.zip us) λ_=>none) (cellsFrom (s.heap.objs.size+1) scope.names []) (bindC (envOfC qual scope s.heap.objs.size f cd).kindOf (ps.zip us) λ_=>none) s1) :
  Inv (cxOf CX P w K mg base N qual scope f cd A outer s H E) [] (start N vs) H s1:=by
 have hpl:ps.length<=N.length:=by have:=congrArg List.length S.pre;rw [Ca] at this;lia
 obtain ⟨h1,tk,rfl,hk⟩:=x.done;have noA:∀ b:Gj,b∉(cxOf CX P w K mg base N qual scope f cd A outer s H E).ex:=λb z=>absurd (show b∈([]:List Gj) from z) (by simp);refine ⟨⟨e0.mod,S.kind,rfl,rfl,Aj _,λy z c h1 h2=>?_,λy hy=>?_,λy c _ h=>?_,λ_=>hd,Around.frames_deeper e0.frames,.inr ⟨rfl,rfl⟩,λb z=>absurd z (noA b),e0.bs,e0.bsz,λb _ _=>noA b,λb z=>absurd z (noA b),e0.funs,e0.frf⟩,
  rfl,e0.bare,Un.kept hk,⟨_,x.toInCall.ns,λi y v h1 h2 h3=>?_⟩,λy c h=>⟨_,x.cell y c h⟩,e0.hok.fresh (Aj _),λy c h=>?_,λp hp=>absurd (show p∈([]:Ge) from hp) (by simp),e0.hok.kept hk,?_⟩
 ·exact name_of_addr x.apart (CQ h1) (CQ h2)
 ·have hy:scope.names.lookup y=some .cell\/scope.names.lookup y=some .free:=hy
  rcases hy with hy|hy
  ·exact tI hy
  ·exact absurd rfl (S.nofree _ (CQ hy))
 ·exact Nat.le_of_lt (x.above y c (CQ h))
 ·have hi:i<vs.length:=by
   unfold start at h2
   by_cases hi:i<vs.length
   ·exact hi
   ·rw [BC (by simpa using hi)] at h2
    rw [List.getElem?_replicate] at h2;split at h2<;>cases h2
  have ha:vs[i]?=some v:=by
   unfold start at h2;rw [BW (by simpa using hi),Aq] at h2;cases e:vs[i]? with
   |none=>rw [e] at h2;cases h2
   |some a=>rw [e] at h2;cases h2;rfl
  obtain ⟨u,hu,rv⟩:=r.get ha;have hp:ps[i]?=some y:=by
   rw [<- S.pre,List.getElem?_take_of_lt (by lia)];exact h1
  have ndP:ps.Nodup:=by rw [<- S.pre];exact S.nd.sublist (List.take_sublist _ _)
  refine ⟨u,rv,?_⟩
  rcases S.par y (Al hp) with k|k
  ·exact .inl ⟨k,oO ndP hp hu k⟩
  ·obtain ⟨c,e⟩:=tI (n:=s.heap.objs.size+1) k
   refine .inr ⟨.inl k,c,e,?_⟩;have q:=x.cell y c e;rw [oQ ndP hp hu (by show scope.names.lookup y≠_;rw [k];decide)] at q;exact q
 ·exact e0.hok.fresh (Nat.le_of_lt (x.above y c (CQ h)))
 ·unfold start
  show _=N.length;rw [Av,Af,List.length_replicate];lia
def aH2 {CX:CXT}{P:Aw}{w:World}{K:Ab}{mg:Gb}{base:Heap}{k:Nat}{f:Gj}{name qual:Str}{params:Arguments}{body:List Stmt}{scope:Scope}{dV kV doc pm cdv ct oc:Gk}{an od:Option Gj}
  {osl:Array (Option Gk)} {N ps:Gh} {sp:Sp} (lk:K.lookup f=some ⟨oc,od,.func (CV name qual params body scope dV kV doc pm an cdv ct),osl⟩) (hcd:EB K cdv qual=true) (S:FnScope N ps scope)
  (len:∀ vs H Q E,sp vs H Q E->vs.length=ps.length)
  (hbody:∀ (A:Around) (outer:List Env) (s:Gm) (H:Hp) (vs:Gq) (Q:VK) (E:XK),Room k (A.deeper (envOfC qual scope s.heap.objs.size f cdv))->sp vs H Q E ->
   ∃ t,PSs (cxOf CX P w K mg base N qual scope f cdv A outer s H E) body t/\t { nx:=λ_ H'=>Q .non H',rt:=Q } (start N vs) H) :
  FnOk P w K mg base CX (k+1) f (CV name qual params body scope dV kV doc pm an cdv ct) ps sp:=by
 refine ⟨len,λA outer s H args us vs Q E hr e0 hb r hsp=>?_⟩;have hl:=len _ _ _ _ hsp;have KX:K.In s.heap:=e0.mod.kin.keeps λb o e=>(e0.bs b o e).1;have lim:s.heap.NoLimit:=e0.mod.nolimit.keeps λb o e=>(e0.bs b o e).1;have hkind:∀ y∈ps.zip us,scope.names.lookup y.1=some .local\/(scope.names.lookup y.1=some .cell/\((cellsFrom (s.heap.objs.size+1) scope.names []).lookup y.1).isSome=true):=λ⟨n,v⟩ hy=>by
  rcases S.par n (Ep hy).1 with q|q
  ·exact .inl q
  ·exact .inr ⟨q,PySem.W.cellsFrom_some _ _ _ (.inl q)⟩
 refine codeAny_call_function hr.depth (KX _ _ lk) rfl S.co S.gen rfl (PySem.W.codeRec_of KX hcd) (hb _ _ _ _ ?_);refine wpAny_newFunctionEnv_cells S.kind hkind λenv he s1 x=>?_;subst he;refine ⟨lim.keeps x.toInCall.keep,codeAny_func ?_⟩;obtain ⟨t,ht,hq⟩:=hbody A outer s H vs Q E (hr.deeper _) hsp;have I:Inv (cxOf CX P w K mg base N qual scope f cdv A outer s H E) [] (start N vs) H s1:=yT S hr.hd e0 hl r x;refine BR (ht [] s1 (start N vs) H _ I hq) (λfl s' hs=>?_) λe s' hs=>hs;have fin:∀ {Z':St} {H':Hp} {v:V} {u:Gk},Inv (cxOf CX P w K mg base N qual scope f cdv A outer s H E) [] Z' H' s'->RelV v u->Q v H'->CE outer P w H s Q u s':=
  λ{Z' H' v u} J rv q=>⟨v,H',J.os,J.bare,J.base,J.hok,rv,q⟩
 cases fl with
 |ret u=>
  obtain ⟨v,Z',H',J,rv,q⟩:=hs;exact fin J rv q
 |next=>
  obtain ⟨Z',H',J,q⟩:=hs;exact fin (v:=V.non) (u:=BO) J rfl q
 |brk=>
  obtain ⟨_,_,_,q⟩:=hs;exact CA q
 |cont=>
  obtain ⟨_,_,_,q⟩:=hs;exact CA q
section
variable {X:Cx}{x:Str}{p pos:Pos}{e:Expr}{es:List Expr}{t:TA}{id T:String}{r:Gq->Hp->VK->Prop}
def tCB (r:Gq->Hp->VK->Prop)(t:TA):TE:=λZ H Q=>t Z H λvs H1=>r vs H1 Q
def aT (hc:fH X (.builtin id) r)(hg:Gl X x)(hm:X.mg x=none)(hv:BZ x=some (.builtin id))(ha:PA X (e::es) t)(hn:x ≠ "__name__":=by decide)(hdb:(x==("__debug__":Str))=false:=by decide)
  (he:AL (e::es) X.env=(false,eval e X.env)::AL es X.env:=by rfl) (hpl:(backTo pos (AL es X.env)).any (·.1)=false:=by rfl):PE X (.Call (.Name x p) (e::es) [] pos) (tCB r t):=by
 intro U s Z H Q I h;refine Dm (iJ I hg hm hv ?_ hn hdb);exact PyProof.Rows.callWith_builtin1 (thn (ha pos U s Z H _ I h) λus s1 ⟨vs,H1,I1,r1,q1⟩=>hc U s1 Z H1 vs us Q I1 r1 q1) he hpl
def aV (hc:fH X (.type T) r)(hg:Gl X x)(hm:X.mg x=none)(hv:BZ x=some (.type T))(ha:PA X (e::es) t)(hn:x ≠ "__name__":=by decide)(hdb:(x==("__debug__":Str))=false:=by decide)
  (he:AL (e::es) X.env=(false,eval e X.env)::AL es X.env:=by rfl) (hpl:(backTo pos (AL es X.env)).any (·.1)=false:=by rfl):PE X (.Call (.Name x p) (e::es) [] pos) (tCB r t):=by
 intro U s Z H Q I h;refine Dm (iJ I hg hm hv ?_ hn hdb);exact CB (thn (ha pos U s Z H _ I h) λus s1 ⟨vs,H1,I1,r1,q1⟩=>hc U s1 Z H1 vs us Q I1 r1 q1) he hpl
end
end L2
namespace HT
open PySem PyProof.Rows
def lexLt:List Int->List Int->Bool
 |[],[]=>false
 |[],_::_=>true
 |_::_,[]=>false
 |x::xs,y::ys=>if x=y then lexLt xs ys else decide (x<y)
section
open PySem.SeqAt
open PySem.AutoSeq1 (wpAny_loadPart')
open PySem.MeetsSeq PySem.MeetsSeq2 PySem.MeetsSeq3
end
section
variable {prog:Aw}{w:World}{A:Around}{E:Ga}{s:Gm}
def cat_tup (ht:IsTup s.heap t vs.toArray)(hb:IsTup s.heap b ws.toArray)(hv:vs≠[])(h1:ws=[]->Q (.ref t) s)(h2:ws≠[]->Q (.ref s.heap.objs.size) { s with heap:=s.heap.push { cls:=.type "tuple",data:=.seq (vs++ws).toArray } })(hsz:vs.length+ws.length<=Au):wpAny (model prog w) A (Eg .Add (.ref t) (.ref b)) Q E s:=by
 obtain ⟨⟨cls,dd,data,sl⟩,ho,hc,n,hd⟩:=id ht;obtain ⟨⟨cls2,dd2,data2,sl2⟩,ho2,hc2,n2,hd2⟩:=id hb;simp only at hc hd hc2 hd2;subst hc hd hc2 hd2;have e:vs.toArray++ws.toArray=(vs++ws).toArray:=by simp
 by_cases hw:ws=[]
 ·exact concat_meets ⟨_,ho,rfl⟩ ⟨_,ho2,rfl⟩ noFill_tuple_add seq_tuple_add PySem.F.slot_tuple_add Fw (Fo _ _)
   (tuple_addW1 t b vs.toArray ws.toArray n n2 dd dd2 sl sl2 (by simpa using hv) (by simp [hw])) ⟨ho,ho2,h1 hw⟩
 ·refine concat_meets ⟨_,ho,rfl⟩ ⟨_,ho2,rfl⟩ noFill_tuple_add seq_tuple_add PySem.F.slot_tuple_add Fw (Fo _ _)
   (tuple_addW2 t b vs.toArray ws.toArray n n2 dd dd2 sl sl2 (by simpa using hv) (by simpa using hw) (by rw [An,An];exact hsz)) ⟨ho,ho2,?_⟩
  rw [e];exact h2 hw
def sIx (n d:Nat):Option Int->Nat
 |none=>d
 |some v=>if v<0 then (v+(n:Int)).toNat else min v.toNat n
theorem sIx_none (n d:Nat):sIx n d none=d:=rfl
theorem sIx_nat (n d k:Nat):sIx n d (some (k:Int))=min k n:=by
 show (if (k:Int)<0 then ((k:Int)+(n:Int)).toNat else min (k:Int).toNat n)=min k n;rw [if_neg (by lia),Ci]
def aGr (n d:Nat)(hd:d<=n)(o:Option Int):sIx n d o<=n:=by
 cases o with
 |none=>exact hd
 |some v=>
  show (if v<0 then (v+(n:Int)).toNat else min v.toNat n)<=n
  by_cases hv:v<0
  ·rw [if_pos hv];lia
  ·rw [if_neg hv];exact Nat.min_le_right _ _
def zU (v:Int)(n d:Nat):(if v<0 then max (v+(n:Int)) 0 else min v (n:Int))=((sIx n d (some v):Nat):Int):=by
 show (if v<0 then max (v+(n:Int)) 0 else min v (n:Int))=(((if v<0 then (v+(n:Int)).toNat else min v.toNat n):Nat):Int)
 by_cases hv:v<0
 ·simp only [if_pos hv];lia
 ·simp only [if_neg hv];lia
theorem uY (lo hi:Option Int)(n:Nat):EO lo hi 1 (n:Int)=(((sIx n 0 lo:Nat):Int),((sIx n n hi:Nat):Int)):=by
 have h1:¬ ((1:Int)<0):=by lia
 unfold EO;simp only [h1,if_false];refine Prod.ext ?_ ?_
 ·cases lo with
  |none=>rfl
  |some v=>exact zU v n 0
 ·cases hi with
  |none=>rfl
  |some v=>exact zU v n n
theorem uC (i j:Nat):DH (i:Int) (j:Int) 1=j-i:=by
 unfold DH;have h1:(1:Int) > 0:=by lia
 simp only [h1,if_true,Int.ediv_one];split<;>lia
def kZ (p:IsPart v o)(h:Q o s):wpAny (model prog w) A (AG.Slice.slicePartIndex v) Q E s:=by
 cases p with
 |none=>exact slicePart_none h
 |int i t=>exact slicePart_int h
def fI {sl:Gj}{vl vu:Gk}{lo hi:Option Int}{n:Nat}{Q:Int×Int×Nat->Gm->Prop}(hs:s.heap.IsSliceOf sl vl vu .none)(pl:IsPart vl lo)(pu:IsPart vu hi)
    (h:Q (((sIx n 0 lo:Nat):Int),1,sIx n n hi-sIx n 0 lo) s):wpAny (model prog w) A (AG.Slice.sliceApplied (.ref sl) (pure (n:Int))) Q E s:=by
  obtain ⟨os,hos,hcs,hds⟩:=id hs;unfold AG.Slice.sliceApplied AG.Slice.sliceFields;refine Aa (Aa (BK hos hds (x:=vl) rfl (Aa (BK hos hds (x:=vu) rfl (Aa (BK hos hds (x:=.none) rfl (Ag ?_)))))));refine Aa (slicePart_none ?_);show wpAny _ _ (if ((1:Int)==0)=true then _ else _) _ _ s;rw [if_neg (by decide)];refine Aa (kZ pl (Aa (kZ pu (Aa (Ag ?_)))));show wpAny _ _ (match EO lo hi 1 (n:Int) with|(lo,hi)=>pure (lo,(1:Int),DH lo hi 1)) _ _ s;rw [uY lo hi n];show wpAny _ _ (pure (((sIx n 0 lo:Nat):Int),(1:Int),DH ((sIx n 0 lo:Nat):Int) ((sIx n n hi:Nat):Int) 1)) _ _ s;rw [uC];exact Ag h
theorem aA4 (xs:Array Gk)(i k:Nat):((AV k).filterMap λ(m:Nat)=>xs[((i:Int)+(m:Int)*1).toNat]?).toArray=((xs.toList.drop i).take k).toArray:=by
 have e:(λ(m:Nat)=>xs[((i:Int)+(m:Int)*1).toNat]?)=λm=>xs[i+m]?:=by
  funext m
  have:((i:Int)+(m:Int)*1).toNat=i+m:=by lia
  rw [this]
 rw [e];have:=pick_run xs i k;rw [List.filterMap_map] at this;have e2:((λx=>xs[x]?) ∘ λx=>i+x)=λm=>xs[i+m]?:=rfl;rw [e2] at this;rw [this]
def getItem_tuple_cut {t sl:Gj}{items:Array Gk}{vl vu:Gk}{lo hi:Option Int}{Q:Ga}(ht:IsTup s.heap t items)(hs:s.heap.IsSliceOf sl vl vu .none)(pl:IsPart vl lo)(pu:IsPart vu hi)
  (hw:¬ (sIx items.size 0 lo=0/\sIx items.size items.size hi=items.size))
  (h:Q (.ref s.heap.objs.size) { s with heap:=s.heap.push { cls:=.type "tuple",data:=.seq ((items.toList.drop (sIx items.size 0 lo)).take (sIx items.size items.size hi-sIx items.size 0 lo)).toArray } })
  (hsz:items.size<=Au):wpAny (model prog w) A (getItem (.ref t) (.ref sl)) Q E s:=by
 have htake:sizeOk (.seq ((items.toList.drop (sIx items.size 0 lo)).take (sIx items.size items.size hi-sIx items.size 0 lo)).toArray):=by
  show ((items.toList.drop (sIx items.size 0 lo)).take (sIx items.size items.size hi-sIx items.size 0 lo)).toArray.size<=Au;rw [An,Ca,Dz,BE];lia
 have hj:sIx items.size items.size hi<=items.size:=aGr _ _ (Aj _) hi;obtain ⟨os,hos,hcs,hds⟩:=id hs;have hTs:s.TypeIs (.ref sl) "slice":=⟨os,hos,hcs⟩;unfold getItem
 try with_reducible refine Br ?_
 first|refine Aa (Ag ?_)|skip
 refine Aa (wpAny_sequenceKey ht.typeIs (by decide) ?_);refine Aa (Bs (name:=CN "__getitem__") ht.typeIs BJ
  (Bp BJ ht.typeIs entry_tuple_getitem ?_ (args_tuple_getitem _ _)))
 show wpAny _ _ (AG.Tuple.tupleItemsOf (.ref t) >>= _) _ _ s;refine Aa (tupleItemsOf_ ht ?_);refine Aa (DW hTs ?_);rw [if_pos (by decide)];refine Aa (fI hs pl pu ?_);have hno:¬ ((((sIx items.size 0 lo:Nat):Int)==0&&(1:Int)==1&&(sIx items.size items.size hi-sIx items.size 0 lo)==items.size)=true):=by
  intro q;rw [BG,BG] at q;have q1:((sIx items.size 0 lo:Nat):Int)=0:=Em q.1.1;have q2:sIx items.size items.size hi-sIx items.size 0 lo=items.size:=Em q.2;exact hw ⟨by lia,by lia⟩
 show wpAny _ _ (if (((sIx items.size 0 lo:Nat):Int)==0&&(1:Int)==1&&(sIx items.size items.size hi-sIx items.size 0 lo)==items.size)=true then _ else _) _ _ s;rw [if_neg hno,aA4]
 first
  |exact Aa (m:=DO _) (Bc (Ag ⟨_,rfl,Ag h⟩) htake)
  |exact Aa (m:=DO _) (Bc (Aa (Ag (Ag ⟨_,rfl,Ag h⟩))) htake)
  |exact Aa (Aa (m:=DO _) (Bc (Ag (Ag ⟨_,rfl,Ag h⟩)) htake))
  |exact Aa (Aa (m:=DO _) (Bc (Ag ⟨_,rfl,Ag h⟩) htake))
end
end HT
namespace L2
open PySem PySem.Spec PyProof.Rows
abbrev TO:=St->Hp->(Option Int->Hp->Prop)->Prop
def PO (X:Cx)(e:Option Expr)(t:TO):Prop:=
 ∀ (U:Ge) (s:Gm) (Z:St) (H:Hp) (Q:Option Int->Hp->Prop),Inv X U Z H s->t Z H Q ->
  wpAny (model X.prog X.w) X.A (evalPart e X.env) (λu s'=>∃ o H',Inv X U Z H' s'/\IsPart u o/\Q o H') X.xe s
def vJ:TO:=λ_ H Q=>Q none H
def aF4 (t:TE):TO:=λZ H Q=>t Z H λx H1=>∃ i,x=.int i/\Q (some i) H1
section
variable {X:Cx}{e:Expr}{te:TE}{lo hi:Option Expr}{tl th:TO}{pos p2:Pos}
def eC:PO X none vJ:=by
 intro U s Z H Q I h;rw [evalPart_none];exact Ag ⟨none,H,I,.none,h⟩
def eB (h:PE X e te):PO X (some e) (aF4 te):=by
 intro U s Z H Q I hw;rw [evalPart_some];refine thn (h U s Z H _ I hw) λu s1 ⟨x,H1,I1,r1,q1⟩=>?_;obtain ⟨i,rfl,q⟩:=q1;obtain ⟨t,rfl⟩:=r1;exact ⟨some i,H1,I1,.int i t,q⟩
def SlR (X:Cx)(r:V->Option Int->Option Int->Hp->VK->Prop):Prop:=
 ∀ (U:Ge) (s:Gm) (Z:St) (H:Hp) (x:V) (v vl vu:Gk) (lo hi:Option Int) (sl:Gj) (Q:VK),Inv X U Z H s->RelV x v->s.heap.IsSliceOf sl vl vu .none->IsPart vl lo->IsPart vu hi->r x lo hi H Q ->
  ∃ T id,typeLookup (.type T) "__getitem__" = pure (some (.builtin id))/\s.TypeIs v T/\wpAny (model X.prog X.w) X.A (getItem v (.ref sl)) (EP X U Z Q) X.xe s
def tSl (r:V->Option Int->Option Int->Hp->VK->Prop)(te:TE)(tl th:TO):TE:=λZ H Q=>te Z H λx H1=>tl Z H1 λl H2=>th Z H2 λu H3=>r x l u H3 Q
def dJ {r:V->Option Int->Option Int->Hp->VK->Prop}(hr:SlR X r)(he:PE X e te)(hl:PO X lo tl)(hu:PO X hi th):PE X (.Subscript e (.Slice lo hi none p2) pos) (tSl r te tl th):=by
 intro U s Z H Q I h;refine Subscript_ (thn (he U s Z H _ I h) λv s1 ⟨x,H1,I1,r1,q1⟩=>?_);refine wpAny_Slice (thn (hl U s1 Z H1 _ I1 q1) λvl s2 ⟨l,H2,I2,pl,q2⟩=>thn (hu U s2 Z H2 _ I2 q2) λvu s3 ⟨u,H3,I3,pu,q3⟩=>?_);rw [evalPart_none];refine Ag ?_;have I4:Inv X U Z H3 { s3 with heap:=s3.heap.push { cls:=.type "slice",data:=.fields #[vl,vu,.none] } }:=I3.kept (t':=s3.toks) λb ob q=>Ac _ q;obtain ⟨T,id,hT,ht,hg⟩:=hr U { s3 with heap:=s3.heap.push { cls:=.type "slice",data:=.fields #[vl,vu,.none] } } Z H3 x v vl vu l u s3.heap.objs.size Q I4 r1 (Heap.IsSliceOf.new ..) pl pu q3;show wpAny (model X.prog X.w) X.A (subscriptTail e (.Slice lo hi none p2) v (.ref s3.heap.objs.size)) (EP X U Z Q) X.xe { s3 with heap:=s3.heap.push { cls:=.type "slice",data:=.fields #[vl,vu,.none] } };exact tail_any (ops:=[.ref s3.heap.objs.size,v]) ht hT hg (by with_unfolding_all rfl)
def cutV (xs:Gq)(lo hi:Option Int):Gq:=(xs.drop (HT.sIx xs.length 0 lo)).take (HT.sIx xs.length xs.length hi-HT.sIx xs.length 0 lo)
def kK (xs:Gq)(lo hi:Option Int):(cutV xs lo hi).length<=xs.length:=by
 unfold cutV;rw [Ca,Dz];lia
def rSlT (K:Ab):V->Option Int->Option Int->Hp->VK->Prop:=λx lo hi H Q=>∃ a xs,x=.ref a/\SqT K H a xs /\
 ¬ (HT.sIx xs.length 0 lo=0/\HT.sIx xs.length xs.length hi=xs.length)/\∀ p,H p=none->Q (.ref p) (upd H p (.tup (cutV xs lo hi)))
def aGh:SlR X (rSlT X.K):=by
 intro U s Z H x v vl vu lo hi sl Q I rx hs pl pu h;obtain ⟨a,xs,rfl,hx,hw,q⟩:=h;cases rx;obtain ⟨its,r,ht,hz⟩:=I.tuple hx;have hlen:its.toArray.size=xs.length:=by rw [An];exact r.length.symm
 refine ⟨"tuple",_,BJ.lookup,ht.typeIs,?_⟩;refine HT.getItem_tuple_cut ht hs pl pu (by rw [hlen];exact hw) ?_ (by rw [hlen];exact hz);rw [hlen];refine ⟨.ref s.heap.objs.size,_,I.laid (t':=s.toks) (o:=.tup (cutV xs lo hi)) (λb ob q=>Ac _ q) (Aj _) ?_,rfl,q _ (I.hok.fresh (Aj _))⟩;exact ⟨⟨AR (kK xs lo hi) hz,_,Ai _ rfl,rfl⟩,_,(r.drop (HT.sIx xs.length 0 lo)).take (HT.sIx xs.length xs.length hi-HT.sIx xs.length 0 lo),IsTup.new _ _⟩
def rLtT (K:Ab):R2:=λx y H Q=>∃ a b ns ms,x=.ref a/\y=.ref b/\SqT K H a (ns.map V.int)/\SqT K H b (ms.map V.int)/\Q (.bl (HT.lexLt ns ms)) H
def aG0 (K:Ab):R2:=λx y H Q=>∃ a b xs ys,x=.ref a/\y=.ref b/\SqT K H a xs/\SqT K H b ys/\xs≠[]/\xs.length+ys.length<=Au /\
 (ys=[]->Q (.ref a) H)/\(ys≠[]->∀ p,H p=none->Q (.ref p) (upd H p (.tup (xs++ys))))
def Vals.nil_iff (r:Vals xs us):us=[]↔xs=[]:=by
 cases r with
 |nil=>simp
 |cons _ _=>simp
def aEu:OpR X (Eg .Add) (aG0 X.K):=by
 intro U s Z H x y v u Q I rx ry h;obtain ⟨a,b,xs,ys,rfl,rfl,ha,hb,hx,hz,q1,q2⟩:=h;cases rx;cases ry;obtain ⟨its,r1,p1,_⟩:=I.tuple ha;obtain ⟨its2,r2,p2,_⟩:=I.tuple hb;refine HT.cat_tup p1 p2 (λz=>hx (r1.nil_iff.mp z)) (λz=>⟨.ref a,H,I,rfl,q1 (r2.nil_iff.mp z)⟩) (λz=>?_) (by rw [<- r1.length,<- r2.length];exact hz);refine ⟨.ref s.heap.objs.size,_,I.laid (t':=s.toks) (o:=.tup (xs++ys)) (λb ob q=>Ac _ q) (Aj _) ?_,rfl,q2 (λw=>z (r2.nil_iff.mpr w)) _ (I.hok.fresh (Aj _))⟩;exact ⟨⟨by rw [Av];exact hz,_,Ai _ rfl,rfl⟩,_,r1.append r2,IsTup.new _ _⟩
end
def ixN (n:Nat)(i:Int):Option Nat:=if 0<=i then (if i<n then some i.toNat else none) else if -(n:Int)<=i then some (i+n).toNat else none
def atI {α:Type}(xs:List α)(i:Int):Option α:=(ixN xs.length i).bind λj=>xs[j]?
def yR {n:Nat}{i:Int}{j:Nat}(h:ixN n i=some j):seqIndex? i n=some j/\j<n/\-(n:Int)<=i/\i<n:=by
 unfold ixN at h
 by_cases h0:0<=i
 ·rw [if_pos h0] at h
  by_cases h1:i<n
  ·rw [if_pos h1] at h
   have e:i.toNat=j:=AF h;exact ⟨by rw [seqIndex_of h0 h1,e],by lia,by lia,h1⟩
  ·rw [if_neg h1] at h;cases h
 ·rw [if_neg h0] at h
  by_cases h1:-(n:Int)<=i
  ·rw [if_pos h1] at h
   have e:(i+n).toNat=j:=AF h;exact ⟨by rw [seqIndex_neg (by lia) h1,e],by lia,h1,by lia⟩
  ·rw [if_neg h1] at h;cases h
def qQ {α:Type}{xs:List α}{i:Int}{v:α}(h:atI xs i=some v):∃ j,seqIndex? i xs.length=some j/\xs[j]?=some v/\j<xs.length/\-(xs.length:Int)<=i/\i<xs.length:=by
 unfold atI at h;cases e:ixN xs.length i with
 |none=>rw [e] at h;cases h
 |some j=>
  rw [e] at h;obtain ⟨h1,h2,h3,h4⟩:=yR e;exact ⟨j,h1,h,h2,h3,h4⟩
def aW {α:Type}{xs:List α}{j:Nat}{v:α}(h:xs[j]?=some v):atI xs (j:Int)=some v:=by
 have hj:j<xs.length:=(Ad.mp h).1;have e:ixN xs.length (j:Int)=some j:=by
  unfold ixN;rw [if_pos (by lia),if_pos (by lia)];simp
 unfold atI;rw [e];exact h
def aAf (b:Expr):Prop:=∀ o i,subscripted b false o i=operate [o,i] (getItem o i)
def IxR (X:Cx)(r:R2):Prop:=
 ∀ (value slice:Expr) (U:Ge) (s:Gm) (Z:St) (H:Hp) (x y:V) (v u:Gk) (Q:VK),Inv X U Z H s->RelV x v->RelV y u->r x y H Q ->
  subscripted slice false v u=operate [v,u] (getItem v u)->wpAny (model X.prog X.w) X.A (subscriptTail value slice v u) (EP X U Z Q) X.xe s
def MtR (X:Cx)(id:String)(r:V->Gq->Hp->VK->Prop):Prop:=
 ∀ (U:Ge) (s:Gm) (Z:St) (H:Hp) (x:V) (xs:Gq) (v:Gk) (us:Gi) (Q:VK),Inv X U Z H s->RelV x v->Vals xs us->r x xs H Q ->
  wpAny (model X.prog X.w) X.A (call (.builtin id) (v::us)) (EP X U Z Q) X.xe s
section
variable {X:Cx}{a b:Expr}{ta tb:TE}{pos:Pos}
def aZ {r:R2}(hr:IxR X r)(ha:PE X a ta)(hb:PE X b tb)(hs:aAf b):PE X (.Subscript a b pos) (tOp r ta tb):=by
 intro U s Z H Q I h;exact Subscript_ (binT ha hb I h λv u s2 x y H2 I2 rx ry q=>hr a b U s2 Z H2 x y v u Q I2 rx ry q (hs _ _))
inductive rIxL (K:Ab)(x y:V)(H:Hp)(Q:VK):Prop
 |mk (p:Gj) (xs:Gq) (i:Int) (v:V) (e:x=.ref p) (e':y=.int i) (q:SqL K H p xs) (a:atI xs i=some v) (h:Q v H)
inductive rIxT (K:Ab)(x y:V)(H:Hp)(Q:VK):Prop
 |mk (p:Gj) (xs:Gq) (i:Int) (v:V) (e:x=.ref p) (e':y=.int i) (q:SqT K H p xs) (a:atI xs i=some v) (h:Q v H)
def rIxS:R2:=λx y H Q=>∃ z i c,x=.str z/\y=.int i/\z.length<=Au/\atI z.cps.toList i=some c/\Q (.str ⟨#[c]⟩) H
def aX:IxR X (rIxL X.K):=by
 intro value slice U s Z H x y v u Q I rx ry h hs;obtain ⟨p,xs,i,z,rfl,rfl,hq,he,q⟩:=h;cases rx;obtain ⟨t,rfl⟩:=ry;obtain ⟨its,r,pl,hz⟩:=I.list hq;obtain ⟨j,h1,h2,h3,h4,h5⟩:=qQ he;obtain ⟨w,ew,rw'⟩:=r.get h2;have hl:=r.length;have hn:=lK;have fin:EP X U Z Q w s:=⟨z,H,I,rw',q⟩
 by_cases h0:0<=i
 ·have hj:i.toNat=j:=by
   rw [seqIndex_of h0 h5] at h1;exact AF h1
  exact item_listR pl.isList h0 (by lia) (by rw [hj];simpa using ew) fin hs
 ·have hj:(i+(its.toArray.size:Int)).toNat=j:=by
   rw [seqIndex_neg (by lia) h4] at h1;rw [An,<- hl];exact AF h1
  exact subscriptTail_builtinR (x:=w) pl.isList.typeIs slot_list_getitem.lookup
   (wpAny_getItem_list_neg (Q:=λr s'=>r=w/\EP X U Z Q r s') pl.isList (by lia) (by rw [An]<;>lia) (by lia) (by rw [hj];simpa using ew) ⟨rfl,fin⟩) hs
def cY:IxR X (rIxT X.K):=by
 intro value slice U s Z H x y v u Q I rx ry h hs;obtain ⟨p,xs,i,z,rfl,rfl,hq,he,q⟩:=h;cases rx;obtain ⟨t,rfl⟩:=ry;obtain ⟨its,r,pl,hz⟩:=I.tuple hq;obtain ⟨j,h1,h2,h3,h4,h5⟩:=qQ he;obtain ⟨w,ew,rw'⟩:=r.get h2;have hl:=r.length;have hn:=lK;have fin:EP X U Z Q w s:=⟨z,H,I,rw',q⟩;exact subscriptTail_builtinR (x:=w) pl.typeIs slot_tuple_getitem.lookup
  (getItem_tuple (j:=j) (Q:=λr s'=>r=w/\EP X U Z Q r s') pl (by lia) (by lia) (by rw [An,<- hl];exact h1) (by simpa using ew) ⟨rfl,fin⟩) hs
def yQ:IxR X rIxS:=by
 intro value slice U s Z H x y v u Q I rx ry h hs;obtain ⟨z,i,c,rfl,rfl,hz,he,q⟩:=h;obtain ⟨t,rfl⟩:=rx;obtain ⟨t',rfl⟩:=ry;obtain ⟨j,h1,h2,h3,h4,h5⟩:=qQ he;have hl:z.cps.toList.length=z.length:=by simp [Str.length]
 rw [hl] at h1 h4 h5;have hn:=lK;exact tail_any (typeIs_str s z t) slot_str_getitem.lookup (getItem_str (c:=c) (by
  have e1:decide (i < -(2^63:Int))=false:=decide_eq_false (by lia);have e2:decide (i ≥ 2^63)=false:=decide_eq_false (by lia);rw [e1,e2,Bool.or_false]) (by rw [h1];simpa using h2) ⟨.str ⟨#[c]⟩,H,I.tok _,⟨_,rfl⟩,q⟩) hs
def rIx (K:Ab):R2:=λx y H Q=>rIxL K x y H Q\/rIxT K x y H Q\/rIxS x y H Q
def uI (its:Gi)(n j:Nat)(u:Gk):DU (·.setIfInBounds j u) { cls:=.type "list",data:=.seq its.toArray n }={ cls:=.type "list",data:=.seq (its.set j u).toArray n }:=by
 simp [DU]
theorem Inv.lst {Z:St}{p:Gj}(I:Inv X U Z H s)(h:H p=some (.lst xs)) :
  ∃ (its:Gi) (n:Nat),Vals xs its/\s.heap.get? p=some { cls:=.type "list",data:=.seq its.toArray n }/\xs.length<=Au:=by
 obtain ⟨z,its,n,r,e⟩:=I.hok p _ h;exact ⟨its,n,r,e,z⟩
def Inv.lstUpd {U:Ge}{Z:St}{H:Hp}{s:Gm}{p:Gj}{xs ys:Gq}{its its':Gi}{n n':Nat}{f:Obj->Obj}(I:Inv X U Z H s)(h:H p=some (.lst xs))
  (ho:s.heap.get? p=some { cls:=.type "list",data:=.seq its.toArray n }) (hf:f { cls:=.type "list",data:=.seq its.toArray n }={ cls:=.type "list",data:=.seq its'.toArray n' }) (r:Vals ys its') (hz:ys.length<=Au) (t:Nat) :
  Inv X U Z (upd H p (.lst ys)) { s with heap:=s.heap.update p f,toks:=t }:=by
 have e:(s.heap.update p f).get? p=some { cls:=.type "list",data:=.seq its'.toArray n' }:=by
  rw [BN f ho (by rw [hf]<;>rfl),hf]
 refine I.write (x:=p) (e:=p) (by rw [h];trivial) (.inl rfl) (λb u hb q=>(Ba _ _ (Bi hb)).trans q) ⟨_,e⟩ ?_;exact ⟨hz,its',n',r,e⟩
def aIv:V->V->V->Hp->(Hp->Prop)->Prop:=λo i v H Q=>∃ p xs k j,o=.ref p/\i=.int k/\H p=some (.lst xs)/\ixN xs.length k=some j/\Q (upd H p (.lst (xs.set j v)))
def set_list:PSet X aIv:=by
 intro U s Z H o i v ov iv u Q I ro ri rv h;obtain ⟨p,xs,k,j,rfl,rfl,hp,hj,q⟩:=h;cases ro;obtain ⟨t,rfl⟩:=ri;obtain ⟨its,n,r,ho,hz⟩:=I.lst hp;obtain ⟨h1,h2,h3,h4⟩:=yR hj;have hl:=r.length;have hn:=lK;have I':Inv X U Z (upd H p (.lst (xs.set j v))) { s with heap:=s.heap.update p (DU (·.setIfInBounds j u)) }:=
  I.lstUpd hp ho (uI its n j u) (r.set rv j) (by rw [BM];exact hz) s.toks
 by_cases h0:0<=k
 ·have hk:k.toNat=j:=by
   rw [seqIndex_of h0 h4] at h1;exact AF h1
  exact PySem.W.ki_setAt ho h0 (by lia) (by rw [An,<- hl];exact h4) (by rw [hk];exact ⟨_,I',q⟩)
 ·have hk:(k+(its.toArray.size:Int)).toNat=j:=by
   rw [seqIndex_neg (by lia) h3] at h1;rw [An,<- hl];exact AF h1
  exact PySem.W.ki_setBack ho (by lia) (by rw [An,<- hl];exact h3) (by lia) (by rw [hk];exact ⟨_,I',q⟩)
def mZ (lo hi:Option Int)(n:Nat):(sliceBounds lo hi none n).1=((HT.sIx n 0 lo:Nat):Int)/\(sliceBounds lo hi none n).2.1=((HT.sIx n n hi:Nat):Int)/\(sliceBounds lo hi none n).2.2=1:=by
 refine ⟨?_,?_,rfl⟩
 ·cases lo with
  |none=>simp [sliceBounds,HT.sIx]
  |some i=>
   simp only [sliceBounds,HT.sIx,Option.getD_none,show (1:Int) > 0 by decide,if_true]
   by_cases h:i<0
   ·simp only [h,if_true]<;>lia
   ·simp only [h,if_false]<;>lia
 ·cases hi with
  |none=>simp [sliceBounds,HT.sIx]
  |some i=>
   simp only [sliceBounds,HT.sIx,Option.getD_none,show (1:Int) > 0 by decide,if_true]
   by_cases h:i<0
   ·simp only [h,if_true]<;>lia
   ·simp only [h,if_false]<;>lia
theorem lW (its:Gi)(lo hi:Option Int):slicePick its.toArray lo hi none=((its.drop (HT.sIx its.length 0 lo)).take (HT.sIx its.length its.length hi-HT.sIx its.length 0 lo)).toArray:=by
 obtain ⟨h1,h2,h3⟩:=mZ lo hi its.toArray.size;unfold slicePick;rw [h1,h2,h3];simp only [sliceRange_one,pick_run,An]<;>rfl
def rSlL (K:Ab):V->Option Int->Option Int->Hp->VK->Prop:=λx lo hi H Q=>∃ a xs,x=.ref a/\SqL K H a xs/\∀ p,H p=none->Q (.ref p) (upd H p (.lst (cutV xs lo hi)))
def eP:SlR X (rSlL X.K):=by
 intro U s Z H x v vl vu lo hi sl Q I rx hs pl pu h;obtain ⟨a,xs,rfl,hx,q⟩:=h;cases rx;obtain ⟨its,r,ht,hz⟩:=I.list hx;have hlen:=r.length;refine ⟨"list",_,slot_list_getitem.lookup,ht.isList.typeIs,?_⟩;refine wpAny_getItem_list_slice ht.isList hs pl pu .none (by simp) ?_ (by rw [An]<;>lia);rw [lW,<- hlen];refine ⟨.ref s.heap.objs.size,_,I.laid (t':=s.toks) (o:=.lst (cutV xs lo hi)) (λb ob q=>Ac _ q) (Aj _) ?_,rfl,q _ (I.hok.fresh (Aj _))⟩;exact ⟨AR (kK xs lo hi) hz,_,0,(r.drop (HT.sIx xs.length 0 lo)).take (HT.sIx xs.length xs.length hi-HT.sIx xs.length 0 lo),Ai _ rfl⟩
def eW:V->Bool
 |.non=>true
 |.bl _=>true
 |.int _=>true
 |.str _=>true
 |_=>false
def eqV:V->V->Bool
 |.non,.non=>true
 |.bl a,.bl b=>a==b
 |.bl a,.int b=>(if a then 1 else 0)==b
 |.int a,.bl b=>a==(if b then 1 else 0)
 |.int a,.int b=>a==b
 |.str a,.str b=>a==b
 |_,_=>false
def aC4 (ry:RelV y u)(rx:RelV x v)(fy:eW y=true)(fx:eW x=true):Bk A s u v (eqV y x):=by
 cases y with
 |non=>
  cases ry;cases x with
  |non=>cases rx;exact Bk.same _
  |bl b=>cases rx;exact Bk.none_bool b
  |int b=>obtain ⟨t,rfl⟩:=rx;exact Bk.none_int b t
  |str b=>obtain ⟨t,rfl⟩:=rx;exact Bk.none_str b t
  |_=>exact absurd (show false=true from fx) AB
 |bl a=>
  cases ry;cases x with
  |non=>cases rx;exact Bk.bool_none a
  |bl b=>cases rx;exact Bk.bool_bool a b
  |int b=>obtain ⟨t,rfl⟩:=rx;exact Bk.bool_int a b t
  |str b=>obtain ⟨t,rfl⟩:=rx;exact Bk.bool_str a b t
  |_=>exact absurd (show false=true from fx) AB
 |int a=>
  obtain ⟨t',rfl⟩:=ry;cases x with
  |non=>cases rx;exact Bk.int_none a t'
  |bl b=>cases rx;exact Bk.int_bool a t' b
  |int b=>obtain ⟨t,rfl⟩:=rx;exact Bk.int_int a t' b t
  |str b=>obtain ⟨t,rfl⟩:=rx;exact Bk.int_str a t' b t
  |_=>exact absurd (show false=true from fx) AB
 |str a=>
  obtain ⟨t',rfl⟩:=ry;cases x with
  |non=>cases rx;exact Bk.str_none a t'
  |bl b=>cases rx;exact Bk.str_bool a t' b
  |int b=>obtain ⟨t,rfl⟩:=rx;exact Bk.str_int a t' b t
  |str b=>obtain ⟨t,rfl⟩:=rx;exact Bk.str_str a t' b t
  |_=>exact absurd (show false=true from fx) AB
 |_=>exact absurd (show false=true from fy) AB
def eqU (x:V)(u:Gk):Bool:=match u with
 |.none=>eqV .non x
 |.bool b=>eqV (.bl b) x
 |.int i _=>eqV (.int i) x
 |.str z _=>eqV (.str z) x
 |_=>false
theorem aC3 (r:RelV y u)(f:eW y=true):eqU x u=eqV y x:=by
 cases y with
 |non=>cases r;rfl
 |bl b=>cases r;rfl
 |int i=>obtain ⟨t,rfl⟩:=r;rfl
 |str z=>obtain ⟨t,rfl⟩:=r;rfl
 |_=>exact absurd (show false=true from f) AB
theorem kP :∀ {xs:Gq} {us:Gi},Vals xs us->xs.all eW=true->us.any (eqU x)=xs.any λy=>eqV y x
 |_,_,.nil,_=>rfl
 |y::xs,u::us,.cons r t,f=>by
  rw [List.all_cons,BG] at f;rw [List.any_cons,List.any_cons,aC3 r f.1,kP t f.2]
theorem gU (rx:RelV x v)(fx:eW x=true):∀ {xs:Gq} {us:Gi},Vals xs us->xs.all eW=true->∀ u∈us,Bk A s u v (eqU x u)
 |_,_,.nil,_=>λu hu=>by cases hu
 |y::xs,u::us,.cons r t,f=>λu' hu=>by
  rw [List.all_cons,BG] at f
  rcases Ay.mp hu with rfl|hu
  ·rw [aC3 r f.1];exact aC4 r rx f.1 fx
  ·exact gU rx fx t f.2 u' hu
def inV (x:V)(xs:Gq):Bool:=xs.any λy=>eqV y x
inductive rIn (K:Ab)(neg:Bool)(x y:V)(H:Hp)(Q:VK):Prop
 |mk (p:Gj) (xs:Gq) (e:y=.ref p) (q:SqL K H p xs\/SqT K H p xs) (f:eW x=true) (g:xs.all eW=true) (h:Q (.bl (if neg then !inV x xs else inV x xs)) H)
def eT:OpR X (BB .In) (rIn X.K false):=by
 intro U s Z H x y v u Q I rx ry h;obtain ⟨p,xs,rfl,hq,fx,fs,q⟩:=h;cases ry
 rcases hq with hq|hq
 ·obtain ⟨its,r,pl,hz⟩:=I.list hq
  refine SeqAt.in_listAt (eqU x) pl.isList (λw hw=>gU rx fx r fs w (by simpa using hw)) ⟨.bl _,H,I,rfl,?_⟩;rw [show its.toArray.any (eqU x)=its.any (eqU x) by simp,kP r fs];exact q
 ·obtain ⟨its,r,pl,hz⟩:=I.tuple hq
  refine SeqAt.in_tupleAt (eqU x) pl (λw hw=>gU rx fx r fs w (by simpa using hw)) ⟨.bl _,H,I,rfl,?_⟩;rw [show its.toArray.any (eqU x)=its.any (eqU x) by simp,kP r fs];exact q
def nO:OpR X (BB .NotIn) (rIn X.K true):=by
 intro U s Z H x y v u Q I rx ry h;obtain ⟨p,xs,rfl,hq,fx,fs,q⟩:=h;cases ry
 rcases hq with hq|hq
 ·obtain ⟨its,r,pl,hz⟩:=I.list hq
  refine SeqAt.notIn_listAt (eqU x) pl.isList (λw hw=>gU rx fx r fs w (by simpa using hw)) ⟨.bl _,H,I,rfl,?_⟩;rw [show its.toArray.any (eqU x)=its.any (eqU x) by simp,kP r fs];exact q
 ·obtain ⟨its,r,pl,hz⟩:=I.tuple hq
  refine SeqAt.notIn_tupleAt (eqU x) pl (λw hw=>gU rx fx r fs w (by simpa using hw)) ⟨.bl _,H,I,rfl,?_⟩;rw [show its.toArray.any (eqU x)=its.any (eqU x) by simp,kP r fs];exact q
inductive rLen (K:Ab)(xs:Gq)(H:Hp)(Q:VK):Prop
 |mk (p:Gj) (ys:Gq) (e:xs=[.ref p]) (q:SqL K H p ys\/SqT K H p ys) (h:Q (.int ys.length) H)
def aY:fH X (.builtin "len") (rLen X.K):=by
 intro U s Z H xs us Q I r h;obtain ⟨p,ys,rfl,hq,q⟩:=h;obtain ⟨u,rfl,rx⟩:=vals1 r;cases rx;have hn:=lK
 rcases hq with hq|hq
 ·obtain ⟨its,r',pl,hz⟩:=I.list hq
  have hlen:=r'.length;exact Calls.call_len_list pl.isList (by simp only [An]<;>lia) ⟨.int ys.length,H,I.tok _,⟨s.toks+1,by rw [An,hlen]⟩,q⟩
 ·obtain ⟨its,r',pl,hz⟩:=I.tuple hq
  have hlen:=r'.length;exact len_tuple pl (by simp only [An]<;>lia) ⟨.int ys.length,H,I.tok _,⟨s.toks+1,by rw [An,hlen]⟩,q⟩
def oH:fH X (.builtin "len") (λxs H Q=>∃ z,xs=[.str z]/\z.length<=Au/\Q (.int z.length) H):=by
 intro U s Z H xs us Q I r h;obtain ⟨z,rfl,hz,q⟩:=h;obtain ⟨u,rfl,t,rfl⟩:=vals1 r;have hn:=lK;exact len_str (by lia) ⟨.int z.length,H,I.tok _,⟨_,rfl⟩,q⟩
inductive rLstOf (K:Ab)(xs:Gq)(H:Hp)(Q:VK):Prop
 |mk (p:Gj) (ys:Gq) (e:xs=[.ref p]) (q:SqL K H p ys\/SqT K H p ys) (h:∀ l,H l=none->Q (.ref l) (upd H l (.lst ys)))
def bA:fH X (.type "list") (rLstOf X.K):=by
 intro U s Z H xs us Q I r h;obtain ⟨p,ys,rfl,hq,q⟩:=h;obtain ⟨u,rfl,rx⟩:=vals1 r;cases rx;have fin:∀ (its:Gi),Vals ys its->ys.length<=Au->∀ (h':Heap) (c':Nat),(∀ b o',s.heap.get? b=some o'->h'.get? b=some o') ->
   h'.get? s.heap.objs.size=some { cls:=.type "list",dict:=none,data:=.seq its.toArray c',slots:=#[] }->EP X U Z Q (.ref s.heap.objs.size) { s with heap:=h' }:=λits r' hz h' c' kp e=>
  ⟨.ref s.heap.objs.size,_,I.laid (t':=s.toks) kp (Aj _) (show ObjOk X.prog X.w _ h' _ (.lst ys) from ⟨hz,its,c',r',e⟩),rfl,q _ (I.hok.fresh (Aj _))⟩
 rcases hq with hq|hq
 ·obtain ⟨its,r',pl,hz⟩:=I.list hq
  have hlen:=r'.length;obtain ⟨o,ho,hc,n,hd⟩:=pl.isList;exact call_list_seq p (.inl rfl) ho hc hd (λh' c' kp e=>fin its r' hz h' c' kp e) (by simp only [An]<;>lia)
 ·obtain ⟨its,r',pl,hz⟩:=I.tuple hq
  have hlen:=r'.length;obtain ⟨o,ho,hc,n,hd⟩:=pl;exact call_list_seq p (.inr rfl) ho hc hd (λh' c' kp e=>fin its r' hz h' c' kp e) (by simp only [An]<;>lia)
def bG:fH X (.type "tuple") (λxs H Q=>∃ p ys,xs=[.ref p]/\((SqL X.K H p ys/\∀ l,H l=none->Q (.ref l) (upd H l (.tup ys)))\/(SqT X.K H p ys/\Q (.ref p) H))):=by
 intro U s Z H xs us Q I r h;obtain ⟨p,ys,rfl,h⟩:=h;obtain ⟨u,rfl,rx⟩:=vals1 r;cases rx
 rcases h with ⟨hq,q⟩|⟨hq,q⟩
 ·obtain ⟨its,r',pl,hz⟩:=I.list hq
  have hlen:=r'.length;refine call_tuple_list pl.isList (λh' kp=>?_) (by simp only [An]<;>lia);have I1:Inv X U Z H { s with heap:=h' }:=I.kept (t':=s.toks) kp;have I2:Inv X U Z (upd H h'.objs.size (.tup ys)) { s with heap:=h'.push { cls:=.type "tuple",data:=.seq its.toArray } }:=
   I1.laid (t':=s.toks) (λb o e=>Ac _ e) (Aj _) (show ObjOk X.prog X.w _ _ _ (.tup ys) from ⟨⟨hz,_,Ai _ rfl,rfl⟩,its,r',IsTup.new _ _⟩)
  exact ⟨.ref h'.objs.size,_,I2,rfl,q _ (I1.hok.fresh (Aj _))⟩
 ·obtain ⟨its,r',pl,hz⟩:=I.tuple hq
  exact call_tuple_same pl ⟨.ref p,H,I,rfl,q⟩
def tyV (K:Ab)(T:String)(x:V)(H:Hp):Prop:=match x with
 |.str _=>T = "str"
 |.int _=>T = "int"
 |.ref p=>(T = "list" /\ ∃ xs,SqL K H p xs)\/(T = "tuple" /\ ∃ o,K.lookup p=some o/\o.cls=.type "tuple" /\ o.dict=none) \/
   (T = "dict" /\ ((∃ kvs,H p=some (.dK kvs))\/∃ kvs,H p=some (.dT kvs)))\/(T = "set" /\ ∃ S n,H p=some (.set S n))
 |_=>False
def aF0 {Z:St}(I:Inv X U Z H s)(r:RelV x v)(ty:tyV X.K T x H) :
  s.TypeIs v T/\∀ a,v=.ref a->∃ ob,s.heap.get? a=some ob/\ob.dict=none:=by
 cases x with
 |str z=>
  obtain ⟨t,rfl⟩:=r;cases (show T = "str" from ty);exact ⟨typeIs_str s z t,λ_ e=>nomatch e⟩
 |int i=>
  obtain ⟨t,rfl⟩:=r;cases (show T = "int" from ty);exact ⟨typeIs_int s i t,λ_ e=>nomatch e⟩
 |ref p=>
  cases r
  rcases ty with ⟨rfl,xs,hq⟩|⟨rfl,o,hk,hc,hd⟩|⟨rfl,hk⟩|⟨rfl,S,n,hk⟩
  ·obtain ⟨its,_,pl,_⟩:=I.list hq
   refine ⟨pl.isList.typeIs,λa e=>?_⟩;cases e;obtain ⟨o,n,e,c,hd,_⟩:=pl;exact ⟨o,e,hd⟩
  ·refine ⟨⟨o,I.kIn p o hk,hc⟩,λa e=>?_⟩
   cases e;exact ⟨o,I.kIn _ o hk,hd⟩
  ·have z:∃ o,s.heap.get? p=some o/\o.ExactDict:=by
    rcases hk with ⟨kvs,hk⟩|⟨kvs,hk⟩
    ·obtain ⟨_,_,_,_,o,_,_,e,ex,_⟩:=I.hok p _ hk
     exact ⟨o,e,ex⟩
    ·obtain ⟨_,_,_,_,o,_,_,e,ex,_⟩:=I.hok p _ hk
     exact ⟨o,e,ex⟩
   obtain ⟨o,e,ex⟩:=z;refine ⟨⟨o,e,ex.1⟩,λa e2=>?_⟩;cases e2;exact ⟨o,e,ex.2.1⟩
  ·obtain ⟨o,_,_,_,e,ex,_⟩:=I.hok p _ hk
   refine ⟨⟨o,e,ex.1⟩,λa e2=>?_⟩;cases e2;exact ⟨o,e,ex.2.1⟩
 |_=>exact CA ty
def tBM0 (K:Ab)(T:String)(r:V->Gq->Hp->VK->Prop)(to:TE):TE:=λZ H Q=>to Z H λx H1=>tyV K T x H1/\r x [] H1 Q
def tBM (K:Ab)(T:String)(r:V->Gq->Hp->VK->Prop)(to:TE)(t:TA):TE:=λZ H Q=>to Z H λx H1=>tyV K T x H1/\t Z H1 λxs H2=>r x xs H2 Q
variable {o e:Expr}{es:List Expr}{to:TE}{t:TA}{name:Str}{apos cpos:Pos}{T id:String}{r:V->Gq->Hp->VK->Prop}
def pW (pa:PlainAttrs T)(slot:Slot T name id)(hty:typeOf (.builtin id)=pure (.type "method_descriptor"))(hm:MtR X id r)(ho:PE X o to)(ha:PA X (e::es) t)
  (hbase:EJ o name X.env (eval o X.env)=eval o X.env:=by rfl)
  (hfew:((backTo cpos (AL (e::es) X.env)).all (λx=>!x.1)&&(backToKw cpos (keywordEach [] X.env)).all (λx=>x.1.isSome)
   && decide ((e::es).length+([]:List Keyword).length+(if ([]:List Keyword).isEmpty then 0 else 1)<30))=true:=by rfl)
  (hline:(apos.endLine==cpos.line)=true:=by rfl) (hs:AL (e::es) X.env=(false,eval e X.env)::AL es X.env:=by rfl) (hplain:(backTo cpos (AL es X.env)).any (·.1)=false:=by rfl) :
  PE X (.Call (.Attribute o name apos) (e::es) [] cpos) (tBM X.K T r to t):=by
 intro U s Z H Q I h;refine wpAny_Call_method_late hbase hfew hline rfl (thn (ho U s Z H _ I h) λv s1 ⟨x,H1,I1,r1,ty,q1⟩=>?_);obtain ⟨h1,h2⟩:=aF0 I1 r1 ty;refine ⟨T,id,pa,slot,hty,h1,h2,?_⟩;have hA:=ha cpos U s1 Z H1 _ I1 q1;rw [hs] at hA ⊢;refine DD (by show (false||(backTo cpos (AL es X.env)).any (·.1))=false;rw [hplain]<;>rfl) (ES ?_);exact thn hA λus s2 ⟨vs,H2,I2,r2,q2⟩=>hm U s2 Z H2 x vs v us Q I2 r1 r2 q2
end
def MtM (X:Cx)(id:String)(r:V->Gq->Hp->VK->Prop):Prop:=
 ∀ (U:Ge) (s:Gm) (Z:St) (H:Hp) (x:V) (xs:Gq) (v:Gk) (us:Gi) (Q:VK),Inv X U Z H s->RelV x v->Vals xs us->r x xs H Q ->
  wpAny (model X.prog X.w) X.A (call (.builtin id) (v::us)) (EP X U Z Q) X.xe s
def Vals.one:∀ {x:V} {us:Gi},Vals [x] us->∃ u,us=[u]/\RelV x u
 |_,_,.cons r .nil=>⟨_,rfl,r⟩
def Vals.two:∀ {x y:V} {us:Gi},Vals [x,y] us->∃ u v,us=[u,v]/\RelV x u/\RelV y v
 |_,_,_,.cons r (.cons q .nil)=>⟨_,_,rfl,r,q⟩
section
variable {X:Cx}{U:Ge}{Z:St}{H:Hp}{s:Gm}{l b:Gj}{xs ys zs:Gq}
def Inv.lset {its its':Gi}{n:Nat}{f:Array Gk->Array Gk}{t':Nat}(I:Inv X U Z H s)(hH:H l=some (.lst xs))
  (e:s.heap.get? l=some { cls:=.type "list",data:=.seq its.toArray n }) (hf:f its.toArray=its'.toArray) (hv:Vals ys its') (hz:ys.length<=Au) :
  Inv X U Z (upd H l (.lst ys)) { s with heap:=s.heap.update l (DU f),toks:=t' }:=by
 have q:=PySem.IsL.update e f;rw [hf] at q;refine I.write (x:=l) (e:=l) (by rw [hH];exact trivial) (.inl rfl) (λb' u hb hu=>(Ba s.heap (DU f) (Bi hb)).trans hu) ⟨_,q⟩ ?_;exact ⟨hz,its',_,hv,q⟩
def Inv.lnew {t':Nat}(I:Inv X U Z H s)(hv:Vals ys its)(hz:ys.length<=Au) :
  Inv X U Z (upd H s.heap.objs.size (.lst ys)) { s with heap:=s.heap.push { cls:=.type "list",data:=.seq its.toArray },toks:=t' }:=
 I.laid (λ_ _ q=>Ac _ q) (Aj _) ⟨hz,its,0,hv,Ai _ rfl⟩
theorem Inv.fresh (I:Inv X U Z H s):H s.heap.objs.size=none:=I.hok.fresh (Aj _)
def Inv.lstM (I:Inv X U Z H s)(hH:H l=some (.lst xs)):xs.length<=Au/\∃ (its:Gi) (n:Nat),Vals xs its/\xs.length=its.length/\s.heap.get? l=some { cls:=.type "list",data:=.seq its.toArray n }:=by
 obtain ⟨z,its,n,r,e⟩:=I.hok l _ hH;exact ⟨z,its,n,r,r.length,e⟩
end
section
variable {X:Cx}
inductive rAppend (x:V)(vs:Gq)(H:Hp)(Q:VK):Prop
 |mk (l:Gj) (xs:Gq) (y:V) (e:x=.ref l) (e':vs=[y]) (i:H l=some (.lst xs)) (z:xs.length<Au) (h:Q .non (upd H l (.lst (xs++[y]))))
def dM:MtM X "list.append" rAppend:=by
 intro U s Z H x vs v us Q I rx rv h;obtain ⟨l,xs,y,rfl,rfl,hH,hz,q⟩:=h;cases rx;obtain ⟨u,rfl,ru⟩:=rv.one;obtain ⟨z,its,n,r,hl,e⟩:=I.lstM hH;refine call_meets F.slot_list_append ⟨_,e,rfl⟩ F.entry_list_append (F.args_list_append_2 _ _) (PySem.list_append l its.toArray n u (by rw [An];lia)) ⟨e,?_⟩;refine ⟨.non,_,I.lset (its':=its++[u]) hH e (by simp) (r.append (.cons ru .nil)) ?_,rfl,q⟩;rw [Av,DJ];lia
def rExtend:V->Gq->Hp->VK->Prop:=λx vs H Q=>∃ l b xs zs,x=.ref l/\vs=[.ref b]/\H l=some (.lst xs)/\H b=some (.lst zs)/\xs.length+zs.length<=Au/\Q .non (upd H l (.lst (xs++zs)))
def rPop:V->Gq->Hp->VK->Prop:=λx vs H Q=>∃ l xs y,x=.ref l/\vs=[]/\H l=some (.lst xs)/\xs[xs.length-1]?=some y/\Q y (upd H l (.lst xs.dropLast))
def rPopAt:V->Gq->Hp->VK->Prop:=λx vs H Q=>∃ l xs i k y,x=.ref l/\vs=[.int i]/\H l=some (.lst xs)/\-(2^63)<=i/\i<2^63/\seqIndex? i xs.length=some k/\xs[k]?=some y/\Q y (upd H l (.lst (xs.eraseIdx k)))
def rReverse:V->Gq->Hp->VK->Prop:=λx vs H Q=>∃ l xs,x=.ref l/\vs=[]/\H l=some (.lst xs)/\Q .non (upd H l (.lst xs.reverse))
def rClear:V->Gq->Hp->VK->Prop:=λx vs H Q=>∃ l xs,x=.ref l/\vs=[]/\H l=some (.lst xs)/\Q .non (upd H l (.lst []))
def rCat:R2:=λx y H Q=>∃ l b xs zs,x=.ref l/\y=.ref b/\H l=some (.lst xs)/\H b=some (.lst zs)/\xs.length+zs.length<=Au/\∀ p,H p=none->Q (.ref p) (upd H p (.lst (xs++zs)))
def fT:OpR X (Eg .Add) rCat:=by
 intro U s Z H x y v u Q I rx ry h;obtain ⟨l,b,xs,zs,rfl,rfl,hH,hB,hz,q⟩:=h;cases rx;cases ry;obtain ⟨z,its,n,r,hl,e⟩:=I.lstM hH;obtain ⟨z2,its2,n2,r2,hl2,e2⟩:=I.lstM hB;refine PySem.P.add_list e e2 ?_ (by rw [An,An];lia);have ea:its.toArray++its2.toArray=(its++its2).toArray:=by simp
 rw [ea];exact ⟨.ref _,_,I.lnew (t':=s.toks) (r.append r2) (by rw [Av];lia),rfl,q _ I.fresh⟩
def rRep:R2:=λx y H Q=>∃ l k xs,x=.ref l/\y=.int k/\H l=some (.lst xs)/\-(2^63)<=k/\k<2^63/\xs.length*k.toNat<=Au /\
 ∀ p,H p=none->Q (.ref p) (upd H p (.lst (Cm k.toNat xs).flatten))
end
section
variable {prog:Aw}{w:World}{A:Around}{E:Ga}{s:Gm}
set_option maxRecDepth 100000 in
end
section
variable {X:Cx}
end
end L2
namespace Att
open PySem PySem.W PySem.Calls PyProof.Rows
def kJ :∀ (ns:List Int) (vs:Gi),WellAll P h vs (ns.map WData.int)->IntsAre vs ns:=by
 intro ns
 induction ns with
 |nil=>
  intro vs w;rw [List.map_nil] at w;cases w;exact .nil
 |cons n ns ih=>
  intro vs w;rw [Ak] at w;cases w with
  |cons a b=>
   cases a;exact .cons _ _ (ih _ b)
def vU {l:OpenLaw}{n:Nat}(hn:l.most=some n){P:Params}{h:Heap}{args:List WData}{vals:Gi}
  (hpre:l.row.toRowW.claim.pre args=true) (hwl:WellAll P h vals args) :
  ∃ a vs ns,vals=[AC a]/\args=[WData.list (ns.map WData.int)]/\h.get? a=some { cls:=.type "list",data:=.seq vs.toArray }/\IntsAre vs ns/\ns.length<=n:=by
 have hsh:WShape.hasAll [] args [.list .int]=true:=(pre_splitW hpre).1;have hc:l.pre.holds [] { args:=args }=true:=(pre_splitW hpre).2;obtain ⟨d,r,rfl,h1,h2⟩:=hasAllW_cons hsh;obtain rfl:=hasAllW_nil h2;obtain ⟨xs,rfl,h3⟩:=hasW_list h1;obtain ⟨ns,rfl⟩:=items_int h3;have hlen:ns.length<=n:=by
  unfold OpenLaw.pre at hc;have h4:(WTm.not (.lt (.lit (.int (n:Int))) (.len (.arg 0)))).holds [] { args:=[.list (ns.map .int)] }=true:=by
   have h4:=(holds_andW hc).1;rw [hn] at h4;exact h4
  have h5:=condW_of h4 (w_not (w_lt w_lit (w_len_list (w_arg rfl))));rw [Af] at h5;refine Nat.le_of_not_lt λq=>?_;have q':(n:Int)<((ns.length:Nat):Int):=by lia
  first
   |(rw [decide_eq_true q'] at h5;exact absurd h5 (by decide))
   |(simp at h5;lia)
 cases hwl with
 |cons w1 w2=>
  cases w2;cases w1 with
  |list ho hall=>exact ⟨_,_,ns,rfl,rfl,ho,kJ ns _ hall,hlen⟩
def wQ (l:OpenLaw)(args:List WData):l.row.toRowW.claim.post args (.bool true) args=true:=
 postW_of (r:=l.row.toRowW) (X:=(true==true))
  (show WShape.has [] (.bool true) .bool=true by first|rfl|decide|simp [WShape.has,WShape.arms,WShape.armsAll])
  (show (WTm.eq .res (.lit (.bool true))).value [] { args:=args,res:=some (.bool true),after:=args }=some (.bool (true==true)) from w_eq_bool (w_res rfl) w_lit) rfl
def attach_call {l:OpenLaw}{n:Nat}{q:Aw}{loose:Gh}{XP:(Gb)->Heap->Prop}{YP:World->Heap->Prop}{d:DefRec}
  (hn:l.most=some n) (hdf:d.params.defaults=[])
  (call:∀ (w:World) (s₀ s₁:Gm) (mg mb:Gb) (fa:Gj) (o:Obj) (pm cd doc:Gk) (a:Gj) (vs:Gi) (ns:List Int),
   Ground q loose [] XP w s₀ mg mb s₁.heap->YP w s₁.heap ->
   s₁.heap.get? fa=some o->o.data=.func (docDef d.name d.params d.body d.scope pm cd doc)->s₁.heap.CodeRec cd d.name->mg d.name=some (.ref fa) ->
   s₁.heap.get? a=some { cls:=.type "list",data:=.seq vs.toArray }->IntsAre vs ns->ns.length<=n->s₁.gens=#[] ->
   Ey (model l.prog w) callerA (.call (.ref fa) ⟨[.ref a],[]⟩) (λr s'=>r=.ok (.ret (.bool true))/\OldK s₁.heap s'.heap/\s'.os=s₁.os/\AllBare s'.gens) s₁) :
  WalkO q loose XP YP l.row.toRowW d [] (λf vs=>PySem.call f vs):=by
 intro w s₀ s₁ mg mb G Y fa o pm cd doc dV kV ho hd hcd hD hmg hg args vals as hpre hlay hrd hwl hlo;obtain rfl:dV=.none:=Dflts.none hD hdf;obtain rfl:kV=.none:=Dflts.noKw hD;obtain ⟨a,vs,ns,rfl,rfl,hobj,hints,hlen⟩:=vU hn hpre hwl;refine enter_call (Ck (call w s₀ s₁ mg mb fa o pm cd doc a vs ns G Y ho (fd_plain hd) hcd hmg hobj hints hlen hg) λr s' hq=>?_);obtain ⟨rfl,h2,h3,h4⟩:=hq;exact ⟨.inl ⟨.bool true,.bool true,[],rfl,λ_=>rfl,.bool true,wQ l _,λ_=>⟨List.Pairwise.nil,λ_ hm=>(nomatch hm)⟩⟩,h2,h3,h4⟩
section
variable {prog:Aw}{w:World}{A:Around}{E:Ga}{s:Gm}{K:Frag}
def noObjs (h:Heap):Heap:={ h with objs:=#[] }
def ledger (h:Heap)(L d:Gj):Ge:=(AV h.objs.size).filterMap λa=>if a=L\/a=d then none else (h.get? a).map λo=>(a,o)
end
end Att
namespace L2
open PySem PySem.Spec PyProof.Rows
theorem mV:∀ {vs:Gi} {ns:List Int},IntsAre vs ns->Vals (ns.map V.int) vs
 |_,_,.nil=>.nil
 |_,_,.cons n t h=>.cons ⟨t,rfl⟩ (mV h)
def Only (H:Hp):Prop:=∀ b,H b=none\/∃ o xs,H b=some (.frz o (.lst xs))
def aBs {P:Aw}{w:World}{K:Ab}{mg mb:Gb}{CX:CXT}{k:Nat}{fa a:Gj}{fd:Az}{x:Str}{sp:Sp}{s₁:Gm}{vs:Gi}{ns:List Int}
  (KX:K.In s₁.heap) (hns:s₁.heap.Ns AD mg) (hb:s₁.heap.Ns builtinsNs mb) (hbb:∀ x:Str,x ≠ "__name__" -> mb x=BZ x) (hlim:s₁.heap.NoLimit) (hg:s₁.gens=#[])
  (ha:s₁.heap.get? a=some { cls:=.type "list",data:=.seq vs.toArray }) (hi:IntsAre vs ns) (hl:ns.length<=Au) (hr:Room k callerA)
  (F:∀ base:Heap,K.In base->base.Ns AD mg->FnOk P w K mg base CX k fa fd [x] sp) (hbind:∀ (s:Gm) (u:Gk),BindsTo s fd ⟨[u],[]⟩ [(x,u)])
  (hsp:∀ H:Hp,Only H->SqL K H a (ns.map V.int)->sp [.ref a] H (λv _=>v=.bl true) λ_ _ _=>False)
  (hCX:∀ H e s',CX [] H s₁ (λ_ _ _=>False) e s'->False) :
  Ey (model P w) callerA (.call (.ref fa) ⟨[.ref a],[]⟩) (λr s'=>r=.ok (.ret (.bool true))/\OldK s₁.heap s'.heap/\s'.os=s₁.os/\AllBare s'.gens) s₁:=by
 have rv:=mV hi;have lenV:=hi.length;have core:∀ H:Hp,Only H->SqL K H a (ns.map V.int)->HOk P w H s₁.heap->(∀ b,H b≠none->b=a)->(H a≠none->K.lookup a=none) ->
   Ey (model P w) callerA (.call (.ref fa) ⟨[.ref a],[]⟩) (λr s'=>r=.ok (.ret (.bool true))/\OldK s₁.heap s'.heap/\s'.os=s₁.os/\AllBare s'.gens) s₁:=by
  intro H hO hS hok hA hK;have base_of:∀ {b:Gj} {o:Obj},s₁.heap.get? b=some o->H b=none->(hidT s₁.heap H).get? b=some o:=λe n=>aBw e n;have noA:∀ {b:Gj} {o:Obj} {es:Array DictEntry} {ep:Nat},s₁.heap.get? b=some o->o.data=.dict es ep->H b=none:=λ{b o es ep} e d=>by
   cases q:H b with
   |none=>rfl
   |some u=>
    have e':b=a:=hA b (by rw [q];simp);subst e';rw [ha] at e;cases e;have d':Data.seq vs.toArray _=Data.dict es ep:=d;cases d'
  have nsK:∀ {b:Gj} {m:Gb},s₁.heap.Ns b m->(hidT s₁.heap H).Ns b m:=λ{b m} ⟨o,es,ep,e,d,r⟩=>⟨o,es,ep,base_of e (noA e d),d,r⟩;have hKb:K.In (hidT s₁.heap H):=λb o e=>base_of (KX b o e) (by
   cases q:H b with
   |none=>rfl
   |some u=>
    have e':b=a:=hA b (by rw [q];simp);subst e';rw [hK (by rw [q];simp)] at e;cases e)
  have hM:Mod K mg (hidT s₁.heap H):=⟨hKb,nsK hns,⟨mb,nsK hb,hbb⟩,let ⟨mc,h1,h2⟩:=hlim;⟨mc,nsK h1,h2⟩⟩;have e0:Env0 P w K mg (hidT s₁.heap H) callerA [] s₁ H:=⟨rfl,hM,λb o e=>aE7 e,Nat.le_of_eq (yW _ _),trivial,λb hb=>absurd (show b∈([]:List Gj) from hb) (by simp),hok,.of_eq hg⟩;refine Ck ((F _ hKb (nsK hns)).run callerA [] s₁ H ⟨[.ref a],[]⟩ [.ref a] [.ref a] _ _ hr e0 (hbind s₁ (.ref a)) (.cons rfl .nil) (hsp H hO hS)) λr s' h=>?_;cases r with
  |error e=>exact (hCX H e s' h).elim
  |ok fl=>
   cases fl with
   |next=>exact CA h
   |brk=>exact CA h
   |cont=>exact CA h
   |ret u=>
    obtain ⟨v,H',os,bare,un,hok',r',q⟩:=h;have q':v=.bl true:=q;subst q';obtain rfl:u=Value.bool true:=r';refine ⟨rfl,OldK.of_keep λb o e=>?_,os,bare⟩;cases q:H b with
    |none=>exact un.keep b o e q (by intro z;exact absurd (show b∈([]:List Gj) from z) (by simp)) (by simp)
    |some u=>
     rcases hO b with z|⟨ob,xs,z⟩
     ·rw [q] at z;cases z
     ·have z2:=un.frzs b ob _ z
      obtain ⟨e1,_⟩:=hok b _ z;obtain ⟨e2,_⟩:=hok' b _ z2;rw [e] at e1;cases e1;exact e2
 cases hk:K.lookup a with
 |some o=>
  have e:=KX a o hk;rw [ha] at e;cases e;refine core (λ_=>none) (λ_=>.inl rfl) (.inr ⟨_,vs.toArray,_,hk,rfl,rfl,rfl,by rw [An,lenV];exact hl,by simpa using rv⟩) (λb u z=>by have z':(none:Option HO)=some u:=z;cases z') (λb z=>absurd rfl z) λz=>absurd rfl z
 |none=>
  refine core (λb=>if b=a then some (.frz { cls:=.type "list",data:=.seq vs.toArray } (.lst (ns.map V.int))) else none) (λb=>?_) (.inl (.inr ⟨{ cls:=.type "list",data:=.seq vs.toArray },if_pos rfl⟩)) (λb u z=>?_) (λb z=>?_) λ_=>hk
  ·by_cases hb:b=a
   ·exact .inr ⟨_,_,if_pos hb⟩
   ·exact .inl (if_neg hb)
  ·by_cases hb:b=a
   ·have z':=(if_pos hb).symm.trans z
    cases z';subst hb;exact ⟨ha,by rw [Af];exact hl,vs,_,rv,ha⟩
   ·have z':=(if_neg hb).symm.trans z
    cases z'
  ·by_cases hb:b=a
   ·exact hb
   ·exact absurd (if_neg hb) z
abbrev KOf {K:Ab}{h:Heap}(_:K.In h):Ab:=K
def walk_of {l:PySem.W.OpenLaw}{n k:Nat}{q:Aw}{loose:Gh}{XP:(Gb)->Heap->Prop}{YP:World->Heap->Prop}{d:DefRec}{K:Params->Ab}{CX:World->CXT}{sp:World->Sp}{x:Str}
  (hn:l.most=some n) (hn2:n<=Au) (hdf:d.params.defaults=[]) (hr:Room k callerA)
  (hY:∀ (w:World) (h:Heap),YP w h->(K w.params).In h)
  (F:∀ (w:World) (mg:Gb) (fa:Gj) (h:Heap),(K w.params).In h->h.Ns AD mg->mg d.name=some (.ref fa) ->
   ∃ fd:Az,(∀ (s:Gm) (u:Gk),BindsTo s fd ⟨[u],[]⟩ [(x,u)]) /\
    ∀ base:Heap,(K w.params).In base->base.Ns AD mg->FnOk l.prog w (K w.params) mg base (CX w) k fa fd [x] (sp w))
  (hsp:∀ (w:World) (H:Hp) (a:Gj) (ns:List Int),ns.length<=n->Only H->SqL (K w.params) H a (ns.map V.int)->sp w [.ref a] H (λv _=>v=.bl true) λ_ _ _=>False)
  (hCX:∀ (w:World) (H:Hp) (s:Gm) (e:Gk) (s':Gm),CX w [] H s (λ_ _ _=>False) e s'->False) :
  PySem.W.WalkO q loose XP YP l.row.toRowW d [] (λf vs=>PySem.call f vs):=by
 refine Att.attach_call hn hdf λw s₀ s₁ mg mb fa o pm cd doc a vs ns G Y ho hd hcd hmg hobj hints hlen hg=>?_;have KX:=hY w _ Y;obtain ⟨fd,hb,hF⟩:=F w mg fa _ KX G.T.g hmg;exact aBs KX G.T.g G.T.b G.T.builtins G.T.nolimit hg hobj hints (AR hlen hn2) hr hF hb (λH hO hS=>hsp w H a ns hlen hO hS) λH e s'=>hCX w H s₁ e s'
def walk_ofK {l:PySem.W.OpenLaw}{n k:Nat}{q:Aw}{loose:Gh}{XP:(Gb)->Heap->Prop}{YP:World->Heap->Prop}{d:DefRec}{K:Params->Ab}{CX:CXT}{sp:Ab->Sp}{x:Str}
  (hn:l.most=some n) (hn2:n<=Au) (hdf:d.params.defaults=[]) (hr:Room k callerA)
  (hY:∀ (w:World) (h:Heap),YP w h->(K w.params).In h)
  (F:∀ (w:World) (mg:Gb) (fa:Gj) (h:Heap),(K w.params).In h->h.Ns AD mg->mg d.name=some (.ref fa) ->
   ∃ fd:Az,(∀ (s:Gm) (u:Gk),BindsTo s fd ⟨[u],[]⟩ [(x,u)]) /\
    ∀ base:Heap,(K w.params).In base->base.Ns AD mg->FnOk l.prog w (K w.params) mg base CX k fa fd [x] (sp (K w.params)))
  (hsp:∀ (K:Ab) (H:Hp) (a:Gj) (ns:List Int),ns.length<=n->Only H->SqL K H a (ns.map V.int)->sp K [.ref a] H (λv _=>v=.bl true) λ_ _ _=>False)
  (hCX:∀ (H:Hp) (s:Gm) (e:Gk) (s':Gm),CX [] H s (λ_ _ _=>False) e s'->False) :
  PySem.W.WalkO q loose XP YP l.row.toRowW d [] (λf vs=>PySem.call f vs):=
 walk_of (K:=K) (CX:=λ_=>CX) (sp:=λw=>sp (K w.params)) hn hn2 hdf hr hY F (λw H a ns h1 h2 h3=>hsp (K w.params) H a ns h1 h2 h3) λ_ H s e s'=>hCX H s e s'
def inClass (s:Stmt)(j:Nat):Stmt:=match s with
 |.ClassDef _ _ _ body _ _ _ _ _ _ _=>body.getD j (.Pass ⟨0,0,0,0⟩)
 |_=>.Pass ⟨0,0,0,0⟩
def fE (s:Stmt):Arguments:=match s with
 |.FunctionDef _ a _ _ _ _ _ _ _ _=>a
 |_=>{ posonlyargs:=[],args:=[],vararg:=none,kwonlyargs:=[],kw_defaults:=[],kwarg:=none,defaults:=[] }
def dR (s:Stmt):List Stmt:=match s with
 |.FunctionDef _ _ b _ _ _ _ _ _ _=>b
 |_=>[]
def aH (s:Stmt):Scope:=match s with
 |.FunctionDef _ _ _ _ _ _ sc _ _ _=>sc
 |_=>{ kind:=.function,names:=[],isGenerator:=false,isCoroutine:=false }
abbrev CX0:CXT:=λ_ _ _ _ _ _=>False
abbrev E0:XK:=λ_ _ _=>False
def uD :hJ CX0 X E0:=λ_ _ _ _ _ _ _ h=>h.elim
structure Fun (K:Ab)(x qual:Str)(st:Stmt)(f:Gj)(fd:Az):Prop where
 ex:∃ (oc:Gk) (od:Option Gj) (kV doc pm:Gk) (an:Option Gj) (cdv ct:Gk) (osl:Array (Option Gk)),
  fd=CV x qual (fE st) (dR st) (aH st) .none kV doc pm an cdv ct/\K.lookup f=some ⟨oc,od,.func fd,osl⟩/\EB K cdv qual=true
 kp:CK K (.ref f)=true
section
variable {P:Aw}{w:World}{K:Ab}{mg:Gb}{base:Heap}
def Fun.ok {x qual:Str}{st:Stmt}{f:Gj}{fd:Az}{N ps:Gh}{k:Nat}{sp:Sp}(F:Fun K x qual st f fd)(S:FnScope N ps (aH st))(len:∀ vs H Q E,sp vs H Q E->vs.length=ps.length)
  (hbody:∀ (cdv:Gk) (A:Around) (outer:List Env) (s:Gm) (H:Hp) (vs:Gq) (Q:VK) (E:XK),Room k (A.deeper (envOfC qual (aH st) s.heap.objs.size f cdv))->sp vs H Q E ->
   ∃ t,PSs (cxOf CX0 P w K mg base N qual (aH st) f cdv A outer s H E).nox (dR st) t/\t { nx:=λ_ H'=>Q .non H',rt:=Q } (start N vs) H):FnOk P w K mg base CX0 (k+1) f fd ps sp:=by
 obtain ⟨oc,od,kV,doc,pm,an,cdv,ct,osl,rfl,lk,hcd⟩:=F.ex;refine aH2 lk hcd S len λA outer s H vs Q E hr hsp=>?_;obtain ⟨t,h,q⟩:=hbody cdv A outer s H vs Q E hr hsp;exact ⟨t,h.nox,q⟩
def Fun.okA {x qual:Str}{st:Stmt}{f:Gj}{fd:Az}{N ps:Gh}{k:Nat}{sp:Sp}(F:Fun K x qual st f fd)(S:FnScope N ps (aH st))
    (hbody:∀ (cdv:Gk) (A:Around) (outer:List Env) (s:Gm) (H:Hp) (vs:Gq) (Q:VK) (E:XK),Room k (A.deeper (envOfC qual (aH st) s.heap.objs.size f cdv))->sp vs H Q E ->
      ∃ t,PSs (cxOf CX0 P w K mg base N qual (aH st) f cdv A outer s H E).nox (dR st) t/\t { nx:=λ_ H'=>Q .non H',rt:=Q } (start N vs) H) (len:∀ vs H Q E,sp vs H Q E->vs.length=ps.length:=by intro _ _ _ _ h;first|(cases h;subst_vars;rfl)|(repeat (first|(obtain ⟨rfl,_⟩:=h;rfl)|(obtain ⟨_,h⟩:=h)))):FnOk P w K mg base CX0 (k+1) f fd ps sp:=F.ok S len hbody
def aH0 {x qual:Str}{st:Stmt}{f:Gj}{oc:Gk}{od an:Option Gj}{osl:Array (Option Gk)}{kV doc pm cdv ct:Gk}(l:K.lookup f=some ⟨oc,od,.func (CV x qual (fE st) (dR st) (aH st) .none kV doc pm an cdv ct),osl⟩)
  (c:EB K cdv qual=true) (k:CK K (.ref f)=true):Fun K x qual st f (CV x qual (fE st) (dR st) (aH st) .none kV doc pm an cdv ct):=⟨⟨oc,od,kV,doc,pm,an,cdv,ct,osl,rfl,l,c⟩,k⟩
end
def kX {k:Nat}(hr:Room k A):A.units+1<cLine:=DI (Nat.add_le_add_left (by decide:1<=64) _) hr.units
def bP {n:Nat}(h:n<=1000):n<Au:=DI h (by decide)
section
variable {X:Cx}
def pv (i:Nat)(hN:X.N[i]?=some x:=by rfl)(hv:Vis X.env.scope x:=by first|exact Or.inl rfl|exact Or.inr (Or.inl rfl)|exact Or.inr (Or.inr rfl))(hd:(x==("__debug__":Str))=false:=by decide)(hcd:(x==("__classdict__":Str))=false:=by decide):PE X (.Name x pos) (tVar i):=aCs hN hv hd hcd
end
def iteF {A B:Prop}(h:B):if false=true then A else B:=by
 rw [if_neg AB];exact h
def iteT {A B:Prop}(h:A):if true=true then A else B:=by
 rw [if_pos rfl];exact h
def ite2 {c A B:Prop}[Decidable c](h1:c->A)(h2:¬ c->B):if c then A else B:=by
 by_cases h:c
 ·rw [if_pos h]
  exact h1 h
 ·rw [if_neg h]
  exact h2 h
def Same (H H':Hp):Prop:=∀ b o,H b=some o->H' b=some o
def Same.refl (H:Hp):Same H H:=λ_ _ h=>h
theorem Same.trans (a:Same H H1)(b:Same H1 H2):Same H H2:=λc o h=>b c o (a c o h)
def Same.seq {K:Ab}{H H':Hp}{a:Gj}{xs:Gq}(e:Same H H')(h:SqL K H a xs):SqL K H' a xs:=by
 rcases h with (h|⟨o,h⟩)|h
 ·exact .inl (.inl (e _ _ h))
 ·exact .inl (.inr ⟨o,e _ _ h⟩)
 ·exact .inr h
end L2
namespace GM
def G (a b:Int):Int:=(Int.gcd a b:Int)
theorem aDg {a:Int}(h:0<=a):G a 0=a:=by
 unfold G;rw [Int.gcd_zero_right];lia
theorem aIc (a b:Int):G b (a%b)=G a b:=by
 unfold G
 congr 1
 have e:a%b=a-b*(a/b):=by
  have:=Int.emod_add_mul_ediv a b;lia
 rw [e,Int.gcd_sub_mul_left_right,Int.gcd_comm]
def qS {a b:Int}(h:0<b):0<G a b:=by
 unfold G;have:0<Int.gcd a b:=Int.gcd_pos_of_ne_zero_right a (by lia);lia
def aAh (a b:Int):G a b∣a:=Int.gcd_dvd_left a b
def qT (a b:Int):G a b∣b:=Int.gcd_dvd_right a b
def aAg {a b:Int}(h:0<b):G a b<=b:=Int.le_of_dvd h (qT a b)
structure Amt (t b:Int):Prop where
 t0:0<=t
 b1:1<=b
 g:G t b=1
def kC {t b:Int}(h0:0<=t)(h1:1<=b):Amt (t/G t b) (b/G t b):=by
 have gp:=qS (a:=t) (b:=b) (by lia);refine ⟨Int.ediv_nonneg h0 (by lia),Int.ediv_pos_of_pos_of_dvd (by lia) (by lia) (qT t b),?_⟩;unfold G at *
 have:=Int.gcd_ediv_gcd_ediv_gcd (i:=t) (j:=b) (by lia);lia
def aHs (t b:Int):t/G t b*G t b=t:=Int.ediv_mul_cancel (aAh t b)
def aHr (t b:Int):b/G t b*G t b=b:=Int.ediv_mul_cancel (qT t b)
def zG {t b x:Int}(h:Amt t b)(d:b∣t*x):b∣x:=by
 have g1:Int.gcd b t=1:=by have:=h.g;unfold G at this;rw [Int.gcd_comm];lia
 have:=Int.dvd_gcd_mul_iff_dvd_mul.mpr d;rw [g1] at this
 simpa using this
def uX {t b t' b':Int}(h:Amt t b)(h':Amt t' b')(e:t*b'=t'*b):t=t'/\b=b':=by
 have d1:b∣b':=zG h ⟨t',by rw [e,BD]⟩;have d2:b'∣b:=zG h' ⟨t,by rw [<- e,BD]⟩;have p:=h.b1;have p':=h'.b1;have eb:b=b':=Int.dvd_antisymm (by lia) (by lia) d1 d2;subst eb;exact ⟨Bl (by lia) e,rfl⟩
def gW (t b:Int):t/G t b*b=t*(b/G t b):=by
 have e1:=aHs t b;have e2:=aHr t b
 calc t/G t b*b=t/G t b*(b/G t b*G t b):=by rw [e2]
  _=t/G t b*G t b*(b/G t b):=by rw [BD (b/G t b),BI]
  _=t*(b/G t b):=by rw [e1]
def aFq {t:Int}(h:0<=t):Amt t 1:=by
 refine ⟨h,by lia,?_⟩;unfold G;rw [Int.gcd_one_right];rfl
def lJ {t b x y:Int}(h0:0<=t)(h1:1<=b)(h:Amt x y)(e:x*b=t*y):t/G t b=x/\b/G t b=y:=by
 have a:=kC h0 h1;refine uX a h ?_;have c:=gW t b;have gp:=qS (a:=t) (b:=b) (by lia);have e1:=aHs t b;have e2:=aHr t b;refine Bl (a:=G t b) (by lia) ?_
 calc t/G t b*y*G t b=t/G t b*G t b*y:=by rw [BI,BD y,<- BI]
  _=x*b:=by rw [e1,e]
  _=x*(b/G t b)*G t b:=by rw [BI,e2]
end GM
namespace L2
open PySem PySem.Spec PyProof.Rows
inductive Isi (K:Ab)(H:Hp):V->String->Bool->Prop where
 |int_int {n}:Isi K H (.int n) "int" true
 |int_bool {n}:Isi K H (.int n) "bool" false
 |int_tuple {n}:Isi K H (.int n) "tuple" false
 |int_str {n}:Isi K H (.int n) "str" false
 |int_list {n}:Isi K H (.int n) "list" false
 |bl_int {b}:Isi K H (.bl b) "int" true
 |bl_bool {b}:Isi K H (.bl b) "bool" true
 |bl_tuple {b}:Isi K H (.bl b) "tuple" false
 |bl_str {b}:Isi K H (.bl b) "str" false
 |str_int {x}:Isi K H (.str x) "int" false
 |str_bool {x}:Isi K H (.str x) "bool" false
 |str_tuple {x}:Isi K H (.str x) "tuple" false
 |str_str {x}:Isi K H (.str x) "str" true
 |non_int:Isi K H .non "int" false
 |non_str:Isi K H .non "str" false
 |non_tuple:Isi K H .non "tuple" false
 |tup_tuple {a xs}:SqT K H a xs->Isi K H (.ref a) "tuple" true
 |tup_int {a xs}:SqT K H a xs->Isi K H (.ref a) "int" false
 |tup_str {a xs}:SqT K H a xs->Isi K H (.ref a) "str" false
 |tup_list {a xs}:SqT K H a xs->Isi K H (.ref a) "list" false
 |lst_tuple {a xs}:SqL K H a xs->Isi K H (.ref a) "tuple" false
 |lst_int {a xs}:SqL K H a xs->Isi K H (.ref a) "int" false
 |lst_str {a xs}:SqL K H a xs->Isi K H (.ref a) "str" false
 |lst_list {a xs}:SqL K H a xs->Isi K H (.ref a) "list" true
section
variable {X:Cx}
inductive rIsi (K:Ab)(xs:Gq)(H:Hp)(Q:VK):Prop
 |mk (x:V) (T:String) (b:Bool) (e:xs=[x,.ty T]) (q:Isi K H x T b) (h:Q (.bl b) H)
def fG:fH X (.builtin "isinstance") (rIsi X.K):=by
 intro U s Z H xs us Q I r h;obtain ⟨x,T,b,rfl,hi,q⟩:=h;obtain ⟨u,w',rfl,rx,ry⟩:=vals2 r;cases ry;have f1:EP X U Z Q (.bool b) s:=⟨.bl b,H,I,rfl,q⟩;have f2:EP X U Z Q (.bool b) { s with toks:=s.toks+1 }:=⟨.bl b,H,I.tok _,rfl,q⟩;cases hi with
 |int_int=>obtain ⟨t,rfl⟩:=rx;exact IsiPair.int_int f1
 |int_bool=>obtain ⟨t,rfl⟩:=rx;exact IsiPair.int_bool f2
 |int_tuple=>obtain ⟨t,rfl⟩:=rx;exact IsiPair.int_tuple f2
 |int_str=>obtain ⟨t,rfl⟩:=rx;exact IsiPair.int_str f2
 |int_list=>obtain ⟨t,rfl⟩:=rx;exact IsiPair.int_list f2
 |bl_int=>cases rx;exact IsiPair.bool_int f1
 |bl_bool=>cases rx;exact IsiPair.bool_bool f1
 |bl_tuple=>cases rx;exact IsiPair.bool_tuple f2
 |bl_str=>cases rx;exact IsiPair.bool_str f2
 |str_int=>obtain ⟨t,rfl⟩:=rx;exact IsiPair.str_int f2
 |str_bool=>obtain ⟨t,rfl⟩:=rx;exact IsiPair.str_bool f2
 |str_tuple=>obtain ⟨t,rfl⟩:=rx;exact IsiPair.str_tuple f2
 |str_str=>obtain ⟨t,rfl⟩:=rx;exact IsiPair.str_str f1
 |non_int=>cases rx;exact IsiPair.NoneType_int f2
 |non_str=>cases rx;exact IsiPair.NoneType_str f2
 |non_tuple=>cases rx;exact IsiPair.NoneType_tuple f2
 |tup_tuple hq=>cases rx;obtain ⟨its,_,⟨o,e,c,_⟩,_⟩:=I.tuple hq;exact IsiPair.tuple_tuple e c f1
 |tup_int hq=>cases rx;obtain ⟨its,_,⟨o,e,c,_⟩,_⟩:=I.tuple hq;exact IsiPair.tuple_int e c f2
 |tup_str hq=>cases rx;obtain ⟨its,_,⟨o,e,c,_⟩,_⟩:=I.tuple hq;exact IsiPair.tuple_str e c f2
 |tup_list hq=>cases rx;obtain ⟨its,_,⟨o,e,c,_⟩,_⟩:=I.tuple hq;exact IsiPair.tuple_list e c f2
 |lst_tuple hq=>cases rx;obtain ⟨its,_,⟨o,n,e,c,_⟩,_⟩:=I.list hq;exact IsiPair.list_tuple e c f2
 |lst_int hq=>cases rx;obtain ⟨its,_,⟨o,n,e,c,_⟩,_⟩:=I.list hq;exact IsiPair.list_int e c f2
 |lst_str hq=>cases rx;obtain ⟨its,_,⟨o,n,e,c,_⟩,_⟩:=I.list hq;exact IsiPair.list_str e c f2
 |lst_list hq=>cases rx;obtain ⟨its,_,⟨o,n,e,c,_⟩,_⟩:=I.list hq;exact IsiPair.list_list e c f1
inductive DEq (K:Ab)(H:Hp):Nat->V->V->Bool->Prop where
 |flat {n x y}:eW x=true->eW y=true->DEq K H n x y (eqV x y)
 |same {n a}:DEq K H n (.ref a) (.ref a) true
 |tup {n a b xs ys} {e:Nat->Bool}:a≠b->SqT K H a xs->SqT K H b ys->(∀ (j:Nat) x y,xs[j]?=some x->ys[j]?=some y->DEq K H n x y (e j)) ->
   DEq K H (n+1) (.ref a) (.ref b) ((AV (min xs.length ys.length)).all e&&xs.length==ys.length)
 |lst {n a b xs ys} {e:Nat->Bool}:a≠b->SqL K H a xs->SqL K H b ys->(∀ (j:Nat) x y,xs[j]?=some x->ys[j]?=some y->DEq K H n x y (e j)) ->
   DEq K H (n+1) (.ref a) (.ref b) ((AV (min xs.length ys.length)).all e&&xs.length==ys.length)
def vH {Z:St}(I:Inv X U Z H s)(hx:SqT X.K H a xs)(hy:SqT X.K H b ys)(hu:A.units<cLine)(hd:∀ (j:Nat) x y u v,xs[j]?=some x->ys[j]?=some y->RelV x u->RelV y v->Bk A.in1 s u v (e j)) :
  SeqAt.RcAt A s (.ref a) (.ref b) ((AV (min xs.length ys.length)).all e&&xs.length==ys.length):=by
 obtain ⟨its,r,tx,_⟩:=I.tuple hx;obtain ⟨its',r',ty,_⟩:=I.tuple hy;have l1:=r.length;have l2:=r'.length;have q:=SeqAt.RcAt.tuples (A:=A) (e:=e) tx ty hu (λj h1 h2=>?_)
 ·rw [An,An,<- l1,<- l2] at q
  exact q
 ·rw [An] at h1 h2
  obtain ⟨x,hxj⟩:∃ x,xs[j]?=some x:=⟨_,Ae (by lia)⟩;obtain ⟨y,hyj⟩:∃ y,ys[j]?=some y:=⟨_,Ae (by lia)⟩;obtain ⟨u1,hu1,ru1⟩:=r.get hxj;obtain ⟨u2,hu2,ru2⟩:=r'.get hyj;have e1:its.toArray[j]=u1:=by
   have:=(Ad.mp hu1).2
   simpa using this
  have e2:its'.toArray[j]=u2:=by
   have:=(Ad.mp hu2).2
   simpa using this
  rw [e1,e2];exact hd j x y u1 u2 hxj hyj ru1 ru2
def dU (p:PlainL h a its):h.IsList a its:=by
 obtain ⟨o,n,e,c,_,d⟩:=p;exact ⟨o,e,c,n,d⟩
def aFc {Z:St}(I:Inv X U Z H s)(hx:SqL X.K H a xs)(hy:SqL X.K H b ys)(hu:A.units<cLine)(hd:∀ (j:Nat) x y u v,xs[j]?=some x->ys[j]?=some y->RelV x u->RelV y v->Bk A.in1 s u v (e j)) :
  SeqAt.RcAt A s (.ref a) (.ref b) ((AV (min xs.length ys.length)).all e&&xs.length==ys.length):=by
 obtain ⟨its,r,tx,_⟩:=I.list hx;obtain ⟨its',r',ty,_⟩:=I.list hy;have l1:=r.length;have l2:=r'.length
 by_cases hl:xs.length=ys.length
 ·have q:=SeqAt.RcAt.lists (A:=A) (e:=e) (dU tx) (dU ty) (by rw [An,An];lia) hu (λj h1 h2=>?_)
  ·rw [An,<- l1] at q
   have e1:((AV (min xs.length ys.length)).all e&&xs.length==ys.length)=(AV xs.length).all e:=by
    rw [<- hl,Nat.min_self,beq_self_eq_true,Bool.and_true]
   rw [e1];exact q
  ·rw [An] at h1 h2
   obtain ⟨x,hxj⟩:∃ x,xs[j]?=some x:=⟨_,Ae (by lia)⟩;obtain ⟨y,hyj⟩:∃ y,ys[j]?=some y:=⟨_,Ae (by lia)⟩;obtain ⟨u1,hu1,ru1⟩:=r.get hxj;obtain ⟨u2,hu2,ru2⟩:=r'.get hyj;have e1:its.toArray[j]=u1:=by
    have:=(Ad.mp hu1).2
    simpa using this
   have e2:its'.toArray[j]=u2:=by
    have:=(Ad.mp hu2).2
    simpa using this
   rw [e1,e2];exact hd j x y u1 u2 hxj hyj ru1 ru2
 ·have q:=SeqAt.RcAt.lists_lengths (A:=A) (dU tx) (dU ty) (by rw [An,An,<- l1,<- l2,bne_iff_ne];exact hl) hu
  have e1:((AV (min xs.length ys.length)).all e&&xs.length==ys.length)=false:=by
   rw [beq_eq_false_iff_ne.mpr hl,Bool.and_false]
  rw [e1];exact q
theorem DEq.at {Z:St}(I:Inv X U Z H s){n:Nat}{k:Bool}(d:DEq X.K H n x y k):∀ {A:Around} {u v:Gk},A.units+n<cLine->RelV x u->RelV y v->Bk A s u v k:=by
 induction d with
 |flat fx fy=>intro A u v _ rx ry;exact aC4 rx ry fx fy
 |same=>intro A u v _ rx ry;cases rx;cases ry;exact Bk.same _
 |@tup n a b xs ys e hne hx hy hd ih=>
  intro A u v hu rx ry;cases rx;cases ry;exact Bk.of_refs hne (vH I hx hy (by lia) λj x y u v h1 h2 r1 r2=>ih j x y h1 h2 (by show A.units+1+n<cLine;lia) r1 r2)
 |@lst n a b xs ys e hne hx hy hd ih=>
  intro A u v hu rx ry;cases rx;cases ry;exact Bk.of_refs hne (aFc I hx hy (by lia) λj x y u v h1 h2 r1 r2=>ih j x y h1 h2 (by show A.units+1+n<cLine;lia) r1 r2)
def rEqT (K:Ab):R2:=λx y H Q=>∃ a b xs ys,∃ e:Nat->Bool,x=.ref a/\y=.ref b/\SqT K H a xs/\SqT K H b ys/\(∀ (j:Nat) x y,xs[j]?=some x->ys[j]?=some y->DEq K H 40 x y (e j)) /\
 Q (.bl ((AV (min xs.length ys.length)).all e&&xs.length==ys.length)) H
def rNeT (K:Ab):R2:=λx y H Q=>∃ a b xs ys,∃ e:Nat->Bool,x=.ref a/\y=.ref b/\SqT K H a xs/\SqT K H b ys/\(∀ (j:Nat) x y,xs[j]?=some x->ys[j]?=some y->DEq K H 40 x y (e j)) /\
 Q (.bl (!((AV (min xs.length ys.length)).all e&&xs.length==ys.length))) H
def aCu (hu:X.A.units+64<cLine):OpR X (BB .Eq) (rEqT X.K):=by
 intro U s Z H x y v u Q I rx ry h;obtain ⟨a,b,xs,ys,e,rfl,rfl,hx,hy,hd,q⟩:=h;cases rx;cases ry;exact vH I hx hy (by lia) (λj x y u v h1 h2 r1 r2=>(hd j x y h1 h2).at I (by show X.A.units+1+40<cLine;lia) r1 r2) X.prog X.w X.xe _ ⟨.bl _,H,I,rfl,q⟩
end
def iL {w:World}(I:Nat->Gm->Prop)(turn:∀ n s,I n s->wpAny (model prog w) A (pyNext it) (λr s₁=>match r with
   |none=>R (.ok .next) s₁
   |some v=>wpAny (model prog w) A (Ft target it v) (λ_ s₁'=>wpAny (model prog w) A (assign target env v) (λ_ s₂=>
     wpAny (model prog w) A (forIn ifs true λc r=>if r=true then do let ok <- isTrue c env (eval c env);pure (De ok) else pure (De r)) (λok s₃=>
      if ok=true then wpAny (model prog w) A (eval elt env) (λx s₄=>
       wpAny (model prog w) A (call (.builtin "list.append") [acc,x]) (λ_ s₅=>∃ m,m<n/\I m s₅) (λ_ _=>False) s₄) (λ_ _=>False) s₃
      else ∃ m,m<n/\I m s₃) (λ_ _=>False) s₂) (λ_ _=>False) s₁') (λ_ _=>False) s₁) (λ_ _=>False) s)(n:Nat)(h:I n s):Ey (model prog w) A (.compLoop (.ListComp elt [⟨target,iter,ifs,0⟩] scope pos) 0 it acc env) R s:=by
 refine codeAny_loop rfl I (λn s hI=>?_) n h;show wpAny _ A ((compTurn (.ListComp elt [⟨target,iter,ifs,0⟩] scope pos) 0 it acc env).onRaise (λx=>do noteFrame x env;theTreesLotGoes x)) _ _ s;refine wpAny_noted ?_;rw [compTurn_list];refine Aa (Fn (Aa (BR (turn n s hI) (λr s₁ h₁=>?_) λ_ _ z=>z.elim)));cases r with
 |none=>exact Ag h₁
 |some v=>
  refine Aa (BR h₁ (λ_ s₁' h₁'=>?_) λ_ _ z=>z.elim);refine Aa (BR h₁' (λ_ s₂ h₂=>Aa (BR h₂ (λok s₃ h₃=>?_) λ_ _ z=>z.elim)) λ_ _ z=>z.elim);cases ok with
  |false=>exact Ag ⟨rfl,h₃⟩
  |true=>
   exact Aa (Aa (BR h₃ (λx s₄ h₄=>Aa (BR h₄ (λ_ s₅ h₅=>Ag (Ag ⟨rfl,h₅⟩)) λ_ _ z=>z.elim)) λ_ _ z=>z.elim))
def blk (X:Cx)(N':Gh)(scope:Scope)(cl:List (Str×Gj))(C:Gj)(s₀:Gm)(H₀:Hp)(ex:List Gj)(pn:Ge):Cx where
 prog:=X.prog
 w:=X.w
 K:=X.K
 mg:=X.mg
 base:=X.base
 A:=X.A
 N:=N'
 s₀:=s₀
 H₀:=H₀
 env:=compEnvC scope cl C X.env
 outer:=X.stack
 stack:=X.stack
 ex:=ex
 fn:=λ_=>false
 calm:=X.calm
 pn:=pn
 xe:=λ_ _=>False
structure ClOk (X:Cx)(scope:Scope)(cl:List (Str×Gj)):Prop where
 run:closureFor scope X.env=pure cl
 sub:∀ x c,cl.lookup x=some c->X.env.cells.lookup x=some c
 has:∀ x,((relabel scope X.env).names.lookup x=some .cell\/(relabel scope X.env).names.lookup x=some .free)->∃ c,cl.lookup x=some c
structure BlkN (X:Cx)(N':Gh)(scope:Scope)(cl:List (Str×Gj))(Z Z':St):Prop where
 len:Z'.length=N'.length
 from':∀ (i:Nat) (x:Str) (v:V),N'[i]?=some x->Z'[i]?=some (some v)->∃ j:Nat,X.N[j]?=some x/\Z[j]?=some (some v)/\Vis X.env.scope x/\X.env.kindOf x≠some .local /\
  ((relabel scope X.env).names.lookup x=some .cell\/(relabel scope X.env).names.lookup x=some .free)
section
variable {X:Cx}{U:Ge}{Z Z':St}{H:Hp}{s:Gm}
def oK {t':Nat}(I:Inv X U Z H s)(hkind:scope.kind=.function)(hcl:ClOk X scope cl)(hN:BlkN X N' scope cl Z Z')(hf:∀ b∈fp,FpOk X U H b)(hfo:∀ b∈fp,b<s.heap.objs.size)(hns:h₁.Ns s.heap.objs.size (λ_=>none))(hk:∀ b o,s.heap.get? b=some o->h₁.get? b=some o) :
  Inv (blk X N' scope cl s.heap.objs.size s H fp (X.pn++U)) [] Z' H { s with heap:=h₁,toks:=t' }:=by
 have hfs:∀ b,b∉(X.env.locals::X.fs)->b∉frs X.stack:=λb hb z=>hb (I.stkSub b z);refine ⟨⟨I.ok.mod,hkind,I.ok.glob,I.ok.blt,Aj _,?_,hcl.has,λ_ _ h=>absurd h (by intro z;cases z),I.ok.hd,I.ok.frames,.inl rfl,?_,I.bs,AR I.ok.bsz I.sz,?_,?_,I.stack,I.stkFree⟩,
  rfl,I.bare,Un.kept hk,⟨_,hns,?_⟩,?_,I.hok.fresh (Aj _),λx c e=>I.freeC x c (hcl.sub x c e),?_,I.hok.kept hk,hN.len⟩
 ·intro x y c h1 h2
  exact I.ok.inj x y c (hcl.sub x c h1) (hcl.sub y c h2)
 ·intro b hb
  exact ⟨As (hfo b hb),λx c e=>(hf b hb).2.2.2.2.1 x c (hcl.sub x c e)⟩
 ·intro b o e hb
  rcases (hf b hb).2.2.2.1 with q|q
  ·exact I.ok.noex b o e q
  ·exact absurd (AU (Ao e) (AR I.ok.bsz q)) (Cw _)
 ·intro b hb
  refine hfs b λz=>?_
  rcases Ay.mp z with z|z
  ·exact (hf b hb).2.1 z
  ·exact (hf b hb).2.2.1 z
 ·intro i x v h1 h2 _
  obtain ⟨j,hj,hZ,hv,hnl,hk'⟩:=hN.from' i x v h1 h2;obtain ⟨m,hn,hl⟩:=I.loc;obtain ⟨u,r,l⟩:=hl j x v hj hZ hv;refine ⟨u,r,.inr ⟨hk',?_⟩⟩;obtain ⟨c,hc⟩:=hcl.has x hk'
  rcases l with ⟨hloc,_⟩|⟨_,c',hc',hcell⟩
  ·exact absurd hloc hnl
  ·have e:=hcl.sub x c hc
   rw [hc'] at e;cases e;obtain ⟨o,ho,hd⟩:=hcell;exact ⟨_,hc,o,hk _ _ ho,hd⟩
 ·intro x c e
  obtain ⟨v,o,ho,hd⟩:=I.cell x c (hcl.sub x c e);exact ⟨v,o,hk _ _ ho,hd⟩
 ·intro p hp
  rw [show (blk X N' scope cl s.heap.objs.size s H fp (X.pn++U)).pn=X.pn++U from rfl,BX] at hp;obtain ⟨a1,a2,a3,a4,a5⟩:=I.pin p hp;refine ⟨hk _ _ a1,a2,As (Ao a1),hfs _ λz=>?_,a5⟩
  rcases Ay.mp z with z|z
  ·exact a3 z
  ·exact a4 z
def aAd (I:Inv X U Z H s)(hf:∀ b∈fp,FpOk X U H b)(J:Inv (blk X N' scope cl s.heap.objs.size s H fp (X.pn++U)) pl Z' H' s')(hs:Cf s.heap.objs.size s'.heap h''):Inv X U Z H' { s' with heap:=h'' }:=by
 have hne:∀ b o,s.heap.get? b=some o->b≠s.heap.objs.size:=λb o e=>As (Ao e);have hC:H' s.heap.objs.size=none:=J.free;have ub:Un (frs X.stack) fp H H' s.heap s'.heap:=J.base;have u:Un (frs X.stack) fp H H' s.heap h'':={
  keep:=λb o e n hb hx=>hs.extBut b o (hne b o e) (ub.keep b o e n hb hx)
  slot:=λb o e n hb hx=>by
   obtain ⟨sl,q⟩:=ub.slot b o e n hb hx;exact ⟨sl,hs.extBut b _ (hne b o e) q⟩
  free:=ub.free
  there:=λb o e hx=>by
   obtain ⟨o',q⟩:=ub.there b o e hx;exact ⟨o',hs.extBut b _ (hne b o e) q⟩
  tups:=ub.tups
  frzs:=ub.frzs
  tbls:=ub.tbls }
 have hok:HOk X.prog X.w H' h'':=λa o e=>(J.hok a o e).stay (λb ob hb q=>hs.extBut b ob (λz=>by
  rw [z] at hb
  rcases hb with hb|hb
  ·rw [<- hb,hC] at e;cases e
  ·rw [hC] at hb;cases hb) q) (λ_ h=>h) (λ_ _ h=>h)
 exact I.call' (s':={ s' with heap:=h'' }) J.os u hok J.bare λb hb=>by
  obtain ⟨f0,f1,f2,f3,f4,f5⟩:=hf b hb;exact ⟨f3,f1,f4,f5⟩
end
def PIfs (X:Cx)(ifs:List Expr)(t:TT):Prop:=
 ∀ (U:Ge) (s:Gm) (Z:St) (H:Hp) (Q:Bool->Hp->Prop),Inv X U Z H s->t Z H Q ->
  wpAny (model X.prog X.w) X.A (forIn ifs true λc r=>if r=true then do let ok <- isTrue c X.env (eval c X.env);pure (De ok) else pure (De r)) (TP X U Z Q) X.xe s
def vK:TT:=λ_ H Q=>Q true H
def dY :PIfs X [] vK:=λ_ _ _ H _ I h=>wpAny_tests_nil ⟨H,I,h⟩
def mC (h:PT X c t):PIfs X [c] t:=λU s Z H Q I hw=>wpAny_tests_one (h U s Z H Q I hw)
structure Keep (Za Zb:St):Prop where
 len:Zb.length=Za.length
 at':∀ (i:Nat) (v:V),Za[i]?=some (some v)->Zb[i]?=some (some v)
def Keep.refl (Z:St):Keep Z Z:=⟨rfl,λ_ _ h=>h⟩
theorem Keep.set {Za Zb:St}{i:Nat}(k:Keep Za Zb)(h:Za[i]?=some none):Keep Za (Zb.set i (some v)):=by
 refine ⟨by rw [BM];exact k.len,λj u e=>?_⟩;have hj:i≠j:=by
  rintro rfl
  rw [h] at e;cases e
 rw [Cn hj];exact k.at' j u e
def aAo (Zf:St->St)(wi:TI)(g:TG)(tt:TT)(te:TE):TE:=λZ H Q=>wi Z H λJ H1=>∀ D,H1 D=none->∃ W:Nat->Nat->Gq->Hp->Prop,(∃ m,W 0 m [] (upd H1 D (.lst []))) /\
 ∀ i m ys H,W i m ys H->H D=some (.lst ys)/\ys.length<Au /\
  ((J.stop i H/\Q (.ref D) H)\/(J.go i H/\∀ x H',J.yld i H x H'->g x (Zf Z) H' λZ2 H2=>Keep (Zf Z) Z2/\tt Z2 H2 λb H3=>
   if b=true then te Z2 H3 λy H4=>H4 D=some (.lst ys)/\∃ m',m'<m/\W (i+1) m' (ys++[y]) (upd H4 D (.lst (ys++[y]))) else ∃ m',m'<m/\W (i+1) m' ys H3))
def pV (Zf:St->St)(hc:X.calm=true)(hkind:scope.kind=.function)(hcell:∀ y∈scope.names,y.2≠.cell)(hnames:∀ y∈scope.names,y.2=.local->scope.names.lookup y.1=some .local)(hcl:ClOk X scope cl)(hN:∀ Z:St,Z.length=X.N.length->BlkN X N' scope cl Z (Zf Z))(hi:PI X tg iter wi)(hg:∀ C s₀ H₀ ex pn,PG (blk X N' scope cl C s₀ H₀ ex pn) tg g)(ht:∀ C s₀ H₀ ex pn,PIfs (blk X N' scope cl C s₀ H₀ ex pn) ifs tt)(he:∀ C s₀ H₀ ex pn,PE (blk X N' scope cl C s₀ H₀ ex pn) elt te)(hs:∀ x,EV iter X.env x=pure x:=by intro _;rfl):PE X (.ListComp elt [⟨tg,iter,ifs,0⟩] scope pos) (aAo Zf wi g tt te):=by
 intro U s Z H Q I h;rw [eval_ListComp];refine wpAny_comprehension_free (use:=none) rfl hs hcl.run hkind hnames (thn (hi U s Z H _ I h) λv s1 h1=>thn h1 λitv s2 h2=>?_);obtain ⟨it,fp,tn,J,H2,rfl,I2,T,st2,f2,q⟩:=h2;refine Bc (wpAny_newFunctionEnv hcell (by intro y hy;simp at hy) (λh₁ hns₁ hsb₁=>?_) hkind);dsimp only at hns₁ hsb₁ ⊢;have hfo:∀ b∈fp,b<s2.heap.objs.size:=λb hb=>by
  obtain ⟨o,e,_⟩:=T.obj _ _ st2 b hb;exact Ao e
 have hDf:H2 s2.heap.objs.size=none:=I2.hok.fresh (Aj _);obtain ⟨W,⟨m0,w0⟩,turn⟩:=q s2.heap.objs.size hDf;have I3:Inv X U Z (upd H2 s2.heap.objs.size (.lst [])) { s2 with heap:=s2.heap.push { cls:=.type "list",data:=.seq ([]:Gi).toArray } }:=I2.lnew (its:=[]) (t':=s2.toks) .nil (Bu _);have f3:∀ b∈fp,FpOk X U (upd H2 s2.heap.objs.size (.lst [])) b:=λb hb=>⟨by rw [aK (As (hfo b hb))];exact (f2 b hb).1,(f2 b hb).2⟩;generalize hD:s2.heap.objs.size=D at *
 generalize hs3:({ s2 with heap:=s2.heap.push { cls:=.type "list",data:=.seq ([]:Gi).toArray } }:Gm)=s3 at *
 have hh3:s3.heap=s2.heap.push { cls:=.type "list",data:=.seq ([]:Gi).toArray }:=by rw [<- hs3]
 have hsz3:s2.heap.objs.size<s3.heap.objs.size:=by rw [hh3,BH];exact Cd _
 have e3:∀ h t,({ s2 with heap:=h,toks:=t }:Gm)={ s3 with heap:=h,toks:=t }:=λh t=>by rw [<- hs3]
 rw [<- hh3] at hns₁ hsb₁ ⊢;have hk3:∀ b o,s3.heap.get? b=some o->h₁.get? b=some o:=λb o e=>hsb₁.extBut b o (As (Ao e)) (Ac _ e);have I4:=oK (t':=s3.toks) I3 hkind hcl (hN Z I.len) f3 (λb hb=>El (hfo b hb) (hD▸hsz3)) (hns:=by simpa using hns₁) hk3;generalize hB:blk X N' scope cl s3.heap.objs.size s3 (upd H2 D (.lst [])) fp (X.pn++U)=B at *
 have hBp:B.prog=X.prog:=by rw [<- hB];rfl
 have hBw:B.w=X.w:=by rw [<- hB];rfl
 have hBK:B.K=X.K:=by rw [<- hB];rfl
 have hBA:B.A=X.A:=by rw [<- hB];rfl
 have hBc:B.calm=true:=by rw [<- hB];exact hc
 have hBe:B.env=compEnvC scope cl s3.heap.objs.size X.env:=by rw [<- hB];rfl
 have hBx:B.xe=λ_ _=>False:=by rw [<- hB];rfl
 have hGB:PG B tg g:=hB▸hg _ _ _ _ _;have hTB:PIfs B ifs tt:=hB▸ht _ _ _ _ _;have hEB:PE B elt te:=hB▸he _ _ _ _ _;have stat:∀ {H':Hp},(∀ b∈fp,H' b=none)->∀ b∈fp,FpOk B [] H' b:=λ{H'} hn b hb=>by
  obtain ⟨f0,f1,f2',f3',f4,f5⟩:=f3 b hb;rw [<- hB];refine ⟨hn b hb,As (El (hfo b hb) (hD▸hsz3)),λz=>?_,.inl hb,λx c e=>f4 x c (hcl.sub x c e),λp hp=>?_⟩
  ·rcases Ay.mp (I.stkSub b z) with z|z
   ·exact f1 z
   ·exact f2' z
  ·rw [show (blk X N' scope cl s3.heap.objs.size s3 (upd H2 D (.lst [])) fp (X.pn++U)).pn=X.pn++U from rfl,BX] at hp
   exact f5 p hp
 have loop:∀ s4:Gm,Inv B [] (Zf Z) (upd H2 D (.lst [])) s4->tn 0 s4.heap ->
   Ey (model X.prog X.w) X.A (.compLoop (.ListComp elt [⟨tg,iter,ifs,0⟩] scope pos) 0 (.ref it) (.ref D) (compEnvC scope cl s3.heap.objs.size X.env)) (compPost (model X.prog X.w) X.A X.xe none (EP X U Z Q) (.ref D) s3.heap.objs.size) s4:=by
  intro s4 I4 st4;refine iL (I:=λn s'=>∃ i ys H',Inv B [] (Zf Z) H' s'/\tn i s'.heap/\(∀ b∈fp,H' b=none)/\W i n ys H') ?_ m0 ⟨0,[],_,I4,st4,λb hb=>(f3 b hb).1,w0⟩
  rintro n s5 ⟨i,ys,H5,I5,st5,fr5,w5⟩
  obtain ⟨hD5,hlen5,alt⟩:=turn i n ys H5 w5
  rcases alt with ⟨stop,qn⟩|⟨go,step⟩
  ·have z:=T.done B hBp hBw hBK hBc i [] s5 (Zf Z) H5 (λ_ _=>False) I5 (stat fr5) st5 stop
   rw [hBA] at z;refine thn z λr s6 ⟨hr,I6⟩=>?_;subst hr;obtain ⟨m6,hn6,_⟩:=I6.loc;rw [hBe] at hn6;refine ⟨m6,hn6,λh' hs'=>?_⟩;subst hB;exact ⟨.ref D,H5,aAd I3 f3 I6 hs',rfl,qn⟩
  ·have z:=T.item B hBp hBw hBK hBc i [] s5 (Zf Z) H5 (λ_ _=>False) I5 (stat fr5) st5 go
   rw [hBA] at z;refine thn z λr s6 ⟨u,hr,h6⟩=>?_;subst hr;refine thn h6 λ_ s7 ⟨x,H7,I7,r7,y7,st7,fr7⟩=>?_;have I7':=I7.pinned (stat fr7) (T.obj _ _ st7);have z8:=hGB _ s7 (Zf Z) H7 x u _ I7' r7 (step x H7 y7);rw [hBp,hBw,hBA,hBe,hBx] at z8;refine thn z8 λ_ s8 ⟨Z8,H8,I8,k8,q8⟩=>?_;have z9:=hTB _ s8 Z8 H8 _ I8 q8;rw [hBp,hBw,hBA,hBe,hBx] at z9;refine thn z9 λok s9 ⟨H9,I9,q9⟩=>?_;have again:∀ {ys':Gq} {H':Hp} {s':Gm},Inv B ([]++lE fp s7.heap) Z8 H' s'->(∃ m',m'<n/\W (i+1) m' ys' H')->∃ m,m<n/\∃ i ys H',Inv B [] (Zf Z) H' s'/\tn i s'.heap/\(∀ b∈fp,H' b=none)/\W i m ys H':=λ{ys' H' s'} J ⟨m',hm,w'⟩=>by
    refine ⟨m',hm,i+1,ys',H',J.unpinned.weak k8.len.symm k8.at',T.keep _ _ _ st7 λb hb o e=>(J.pin (b,o) (AI _ (AI _ (dQ hb e)))).1,λb hb=>?_,w'⟩;obtain ⟨o,e,d⟩:=T.obj _ _ st7 b hb;exact (J.pin (b,o) (AI _ (AI _ (dQ hb e)))).2.1
   cases ok with
   |false=>exact again I9 q9
   |true=>
    have z10:=hEB _ s9 Z8 H9 _ I9 q9;rw [hBp,hBw,hBA,hBe,hBx] at z10;refine thn z10 λy10 s10 ⟨y,H10,I10,r10,hD10,q10⟩=>?_;have z11:=dM (X:=B) _ s10 Z8 H10 (.ref D) [y] (.ref D) [y10] (λ_ H'=>∃ m',m'<n/\W (i+1) m' (ys++[y]) H') I10 rfl (.cons r10 .nil) ⟨D,ys,y,rfl,rfl,hD10,hlen5,q10⟩;rw [hBp,hBw,hBA,hBx] at z11;refine thn z11 λ_ s11 ⟨_,H11,I11,_,q11⟩=>again I11 q11
 have st4:tn 0 ({ s3 with heap:=h₁,toks:=s3.toks }:Gm).heap:=T.keep _ _ _ st2 λb hb o e=>hk3 b o (by rw [hh3];exact Ac _ e);have L4:=loop _ I4 st4;subst hs3;exact codeAny_compStart_list L4 (T.self _ 0 _ _ _ st4 L4)
def Bt (n:Nat)(x:Int):Prop:=x.natAbs<2^n
def Bt.bits {n:Nat}{x:Int}(h:Bt n x):AG.Int.intBits x<=n:=intBits_le_iff.mpr h
def Bt.of_bits {n:Nat}{x:Int}(h:AG.Int.intBits x<=n):Bt n x:=intBits_le_iff.mp h
def Bt.mono {m n:Nat}{x:Int}(h:Bt m x)(hn:m<=n):Bt n x:=AU h (Nat.pow_le_pow_right (by decide) hn)
def Bt.mul {m n:Nat}{x y:Int}(h:Bt m x)(h':Bt n y):Bt (m+n) (x*y):=.of_bits (intBits_mul_le h.bits h'.bits)
def Bt.add {m:Nat}{x y:Int}(h:Bt m x)(h':Bt m y):Bt (m+1) (x+y):=.of_bits (by have:=intBits_add_le h.bits h'.bits;rwa [Nat.max_self] at this)
def Bt.le {m:Nat}{x y:Int}(h:Bt m y)(h0:0<=x)(hy:x<=y):Bt m x:=by
 unfold Bt at *
 lia
def aHt {n:Nat}{x:Int}(h:Bt n x)(hp:0<x)(hn:n<=9000):x.natAbs.log2<9000:=by
 have:x.natAbs.log2<n:=(Nat.log2_lt (by lia)).mpr h;lia
def aJo (i j:Int):Prop:=Bt 1000000 i/\Bt 1000000 j
def aJp (_i j:Int):Prop:=0<j/\Bt 9000 j
def aJn (i j:Int):Prop:=0<=j/\j<=1000/\Bt 1000 i
section
variable {X:Cx}
def bL:OpR X (Eg .Mult) (rI aJo λi j=>.int (i*j)):=opI λ_ _ _ _ _ _ _ hc q=>mul_int q (.of_bits (AR hc.1.bits (by decide)) (AR hc.2.bits (by decide)))
def bO:OpR X (Eg .FloorDiv) (rI aJp λi j=>.int (i/j)):=opI λi j _ _ _ _ _ hc q=>by
 have h1:(0:Int)<j:=hc.1;rw [<- Int.fdiv_eq_ediv_of_nonneg i (Int.le_of_lt h1)] at q;exact floordiv_int (by lia) q (.inl (PyProof.noPylong_of_log2 (aHt hc.2 h1 (Aj _))))
def pX:OpR X (Eg .Pow) (rI aJn λi j=>.int (i^j.toNat)):=opI λi j _ _ _ _ _ hc q=>by
 obtain ⟨h0,h1,h2⟩:=hc;refine PyProof.Rows.pow_int h0 ?_ q;have b:=h2.bits;have e:(2:Int)^27=134217728:=by decide
 have:=Int.mul_le_mul (show (AG.Int.intBits i:Int)<=1000 by lia) h1 h0 (by decide);lia
def tE {K:Ab}{H:Hp}{n:Nat}(ns ms:List Int):∀ (j:Nat) x y,(ns.map V.int)[j]?=some x->(ms.map V.int)[j]?=some y->DEq K H n x y (ns[j]?==ms[j]?):=by
 intro j x y h1 h2;rw [Aq] at h1 h2;cases e1:ns[j]? with
 |none=>rw [e1] at h1;cases h1
 |some a=>
  cases e2:ms[j]? with
  |none=>rw [e2] at h2;cases h2
  |some b=>
   rw [e1] at h1;rw [e2] at h2;cases h1;cases h2;have:(some a==some b)=eqV (V.int a) (V.int b):=by
    show (a==b)=(a==b);rfl
   rw [this];exact DEq.flat rfl rfl
theorem all_ints:∀ (ns ms:List Int),((AV (min ns.length ms.length)).all (λj=>ns[j]?==ms[j]?)&&ns.length==ms.length)=decide (ns=ms):=by
 intro ns ms;rw [Cy];simp only [BG,CG,CM,beq_iff_eq,decide_eq_true_eq];constructor
 ·rintro ⟨h,hl⟩
  refine ED λi=>?_
  by_cases hi:i<ns.length
  ·exact h i (by lia)
  ·rw [AY (by lia),AY (by lia)]
 ·rintro rfl
  exact ⟨λ_ _=>rfl,rfl⟩
def rEqI (K:Ab):R2:=λx y H Q=>∃ a b,∃ ns ms:List Int,x=.ref a/\y=.ref b/\SqT K H a (ns.map V.int)/\SqT K H b (ms.map V.int)/\Q (.bl (decide (ns=ms))) H
def rNeI (K:Ab):R2:=λx y H Q=>∃ a b,∃ ns ms:List Int,x=.ref a/\y=.ref b/\SqT K H a (ns.map V.int)/\SqT K H b (ms.map V.int)/\Q (.bl (!decide (ns=ms))) H
def aHb (hu:X.A.units+64<cLine):OpR X (BB .Eq) (rEqI X.K):=by
 intro U s Z H x y v u Q I rx ry h;obtain ⟨a,b,ns,ms,rfl,rfl,hx,hy,q⟩:=h;refine aCu hu U s Z H _ _ v u Q I rx ry ⟨a,b,_,_,λj=>ns[j]?==ms[j]?,rfl,rfl,hx,hy,tE ns ms,?_⟩;rw [Af,Af,all_ints];exact q
def aHn {Z:St}(I:Inv X U Z H s)(hx:SqT X.K H a xs)(hy:SqT X.K H b ys)(hu:A.units<cLine)(hd:∀ (j:Nat) x y u v,xs[j]?=some x->ys[j]?=some y->RelV x u->RelV y v->Bk A.in1 s u v (e j)) :
  SeqAt.RcNeAt A s (.ref a) (.ref b) (!((AV (min xs.length ys.length)).all e&&xs.length==ys.length)):=by
 obtain ⟨its,r,tx,_⟩:=I.tuple hx;obtain ⟨its',r',ty,_⟩:=I.tuple hy;have l1:=r.length;have l2:=r'.length;have q:=SeqAt.RcNeAt.tuples (A:=A) (e:=e) tx ty hu (λj h1 h2=>?_)
 ·rw [An,An,<- l1,<- l2] at q
  exact q
 ·rw [An] at h1 h2
  obtain ⟨x,hxj⟩:∃ x,xs[j]?=some x:=⟨_,Ae (by lia)⟩;obtain ⟨y,hyj⟩:∃ y,ys[j]?=some y:=⟨_,Ae (by lia)⟩;obtain ⟨u1,hu1,ru1⟩:=r.get hxj;obtain ⟨u2,hu2,ru2⟩:=r'.get hyj;have e1:its.toArray[j]=u1:=by
   have:=(Ad.mp hu1).2
   simpa using this
  have e2:its'.toArray[j]=u2:=by
   have:=(Ad.mp hu2).2
   simpa using this
  rw [e1,e2];exact hd j x y u1 u2 hxj hyj ru1 ru2
def xD (hu:X.A.units+64<cLine):OpR X (BB .NotEq) (rNeT X.K):=by
 intro U s Z H x y v u Q I rx ry h;obtain ⟨a,b,xs,ys,e,rfl,rfl,hx,hy,hd,q⟩:=h;cases rx;cases ry;exact aHn I hx hy (by lia) (λj x y u v h1 h2 r1 r2=>(hd j x y h1 h2).at I (by show X.A.units+1+40<cLine;lia) r1 r2) X.prog X.w X.xe _ ⟨.bl _,H,I,rfl,q⟩
def xE (hu:X.A.units+64<cLine):OpR X (BB .NotEq) (rNeI X.K):=by
 intro U s Z H x y v u Q I rx ry h;obtain ⟨a,b,ns,ms,rfl,rfl,hx,hy,q⟩:=h;refine xD hu U s Z H _ _ v u Q I rx ry ⟨a,b,_,_,λj=>ns[j]?==ms[j]?,rfl,rfl,hx,hy,tE ns ms,?_⟩;rw [Af,Af,all_ints];exact q
end
section
variable {X:Cx}
inductive tIt (K:Ab)(i k:Nat)(Z:L2.St)(H:Hp)(Q:VK):Prop
 |mk (p:Gj) (xs:Gq) (v:V) (e:Z[i]?=some (some (.ref p))) (q:SqT K H p xs) (a:xs[k]?=some v) (h:Q v H)
def pit (i k:Nat){p q:Pos}{j:Nat}(hN:X.N[i]?=some x:=by rfl)(hv:Vis X.env.scope x:=by first|exact Or.inl rfl|exact Or.inr (Or.inl rfl)|exact Or.inr (Or.inr rfl))(hd:(x==("__debug__":Str))=false:=by decide)(hcd:(x==("__classdict__":Str))=false:=by decide):PE X (.Subscript (.Name x p) (.Constant (.int (k:Int)) j q) pos) (tIt X.K i k):=by
 intro U s Z H Q I h;obtain ⟨a,xs,v,e,hs,hk,q⟩:=h;exact aZ cY (aCs hN hv hd hcd) aG (λ_ _=>rfl) U s Z H Q I ⟨_,e,a,xs,(k:Int),v,rfl,rfl,hs,aW hk,q⟩
structure Cal (P:Aw)(w:World)(K:Ab)(mg:Gb)(base:Heap)(CX:CXT)(k:Nat)(x:Str)(ps:Gh)(sp:Sp):Prop where
 ex:∃ (f:Gj) (fd:Az),mg x=some (.ref f)/\CK K (.ref f)=true/\Binds K fd ps []/\FnOk P w K mg base CX k f fd ps sp
def jX {k:Nat}{p pos:Pos}(C:Cal X.prog X.w X.K X.mg X.base CX k x ps sp)(hr:Room k X.A)(hg:Gl X x)(hx:hJ CX X E)(ha:PA X (e::es) t)(hdb:(x==("__debug__":Str))=false:=by decide)(he:AL (e::es) X.env=(false,eval e X.env)::AL es X.env:=by rfl)(hpl:(backTo pos (AL es X.env)).any (·.1)=false:=by rfl) :
  PE X (.Call (.Name x p) (e::es) [] pos) (aAp sp [] E t):=by
 obtain ⟨f,fd,hm,hk,hb,F⟩:=C.ex;exact aEp F hr hg hm hk hb .nil hx ha hdb he hpl
def aI {k:Nat}{p pos:Pos}(C:Cal X.prog X.w X.K X.mg X.base CX0 k x ps sp)(hr:Room k X.A)(ha:PA X (e::es) t)(hg:Gl X x:=by rfl)(hdb:(x==("__debug__":Str))=false:=by decide)(he:AL (e::es) X.env=(false,eval e X.env)::AL es X.env:=by rfl)(hpl:(backTo pos (AL es X.env)).any (·.1)=false:=by rfl):PE X (.Call (.Name x p) (e::es) [] pos) (aAp sp [] E0 t):=jX C hr hg uD ha hdb he hpl
def Cal.mono {P:Aw}{w:World}{K:Ab}{mg:Gb}{base:Heap}{CX:CXT}{j k:Nat}{x:Str}{ps:Gh}{sp:Sp}(C:Cal P w K mg base CX j x ps sp)(h:j<=k):Cal P w K mg base CX k x ps sp:=by
 obtain ⟨f,fd,hm,hk,hb,F⟩:=C.ex;exact ⟨f,fd,hm,hk,hb,F.mono h⟩
end
def Same.tup {K:Ab}{H H':Hp}{a:Gj}{xs:Gq}(e:Same H H')(h:SqT K H a xs):SqT K H' a xs:=by
 rcases h with (h|⟨o,h⟩)|h
 ·exact .inl (.inl (e _ _ h))
 ·exact .inl (.inr ⟨o,e _ _ h⟩)
 ·exact .inr h
theorem Same.upd (h:H a=none):Same H (upd H a o):=λb u e=>by
 rw [aK (bB e h)];exact e
theorem Gu (h:H a=none):Same H (upd H a o):=Same.upd h
def updX (n:H a=none):∃ H1,upd H a o=H1/\Same H H1/\H1 a=some o:=⟨_,rfl,Gu n,aB⟩
def RetT (H:Hp)(Q:VK)(ns:List Int):Prop:=∀ p H',Same H H'->H' p=some (.tup (ns.map V.int))->Q (.ref p) H'
def rEqL (K:Ab):R2:=λx y H Q=>∃ a b xs ys,∃ e:Nat->Bool,x=.ref a/\y=.ref b/\SqL K H a xs/\SqL K H b ys/\(∀ (j:Nat) x y,xs[j]?=some x->ys[j]?=some y->DEq K H 40 x y (e j)) /\
 Q (.bl ((AV (min xs.length ys.length)).all e&&xs.length==ys.length)) H
def rNeL (K:Ab):R2:=λx y H Q=>∃ a b xs ys,∃ e:Nat->Bool,x=.ref a/\y=.ref b/\SqL K H a xs/\SqL K H b ys/\(∀ (j:Nat) x y,xs[j]?=some x->ys[j]?=some y->DEq K H 40 x y (e j)) /\
 Q (.bl (!((AV (min xs.length ys.length)).all e&&xs.length==ys.length))) H
section
variable {X:Cx}
end
def Sf (v:V):Prop:=eW v=true\/∃ a,v=.ref a
theorem aB1 (h:eW v=true):eqV v v=true:=by
 cases v<;>simp_all [eW,eqV]
def DEq.self {K:Ab}{H:Hp}{n:Nat}{v:V}(h:Sf v):DEq K H n v v true:=by
 rcases h with h|⟨a,rfl⟩
 ·have:=DEq.flat (K:=K) (H:=H) (n:=n) h h
  rwa [aB1 h] at this
 ·exact .same
theorem all_true (n:Nat)(m:Nat)(h:n=m):((AV (min n m)).all (λ_=>true)&&n==m)=true:=by
 subst h;rw [beq_self_eq_true,Bool.and_true,CG];exact λ_ _=>rfl
def rNeLs (K:Ab):R2:=λx y H Q=>∃ a b xs,x=.ref a/\y=.ref b/\SqL K H a xs/\SqL K H b xs/\(∀ v∈xs,Sf v)/\Q (.bl false) H
def dN:BZ "list" = some (.type "list"):=by decide +kernel
def Tk (H H':Hp):Prop:=∀ b ys,H b=some (.tup ys)->H' b=some (.tup ys)
def Same.tk (s:Same H H'):Tk H H':=λb ys e=>s b _ e
theorem Tk.lst {l:Gj}(h:H l=some (.lst xs)):Tk H (upd H l o):=λb ys e=>by
 have ne:b≠l:=λz=>by rw [z,h] at e;cases e
 rw [aK ne];exact e
def cJ {n:Nat}(h:n<=1000):n<=Au:=AR h (by decide)
def lU:Expr->Bool
 |.Starred ..=>false
 |_=>true
def vP (h:lU e=true):AL (e::es) env=(false,eval e env)::AL es env:=by
 cases e<;>first|rfl|cases h
def pa_c (h:PE X e te)(hr:PA X es t)(hf:lU e=true:=by rfl):PA X (e::es) (vL te t):=aA h hr (vP hf)
inductive Dt where
 |i (n:Int)
 |s (x:Str)
 |b (k:Bool)
 |n
 |t (l:List Dt)
def SqZ (K:Ab)(H:Hp)(a:Gj)(xs:Gq):Prop:=H a=some (.tup xs)\/∃ (o:Obj) (its:Array Gk) (n:Nat),K.lookup a=some o/\o.cls=.type "tuple" /\ o.data=.seq its n/\its.size<=Au/\Vals xs its.toList
inductive Dv (K:Ab)(H:Hp):Nat->V->Dt->Prop where
 |i {n m}:Dv K H n (.int m) (.i m)
 |s {n x}:Dv K H n (.str x) (.s x)
 |b {n k}:Dv K H n (.bl k) (.b k)
 |n {n}:Dv K H n .non .n
 |t {n a xs ds}:SqZ K H a xs->xs.length=ds.length->(∀ (j:Nat) x d,xs[j]?=some x->ds[j]?=some d->Dv K H n x d)->Dv K H (n+1) (.ref a) (.t ds)
def DL (K:Ab)(H:Hp)(n:Nat)(xs:Gq)(ds:List Dt):Prop:=xs.length=ds.length/\∀ (j:Nat) x d,xs[j]?=some x->ds[j]?=some d->Dv K H n x d
def rEqDL (K:Ab):R2:=λx y H Q=>∃ a b xs ys ds,x=.ref a/\y=.ref b/\SqL K H a xs/\SqL K H b ys/\DL K H 40 xs ds/\DL K H 40 ys ds/\Q (.bl true) H
def rNeDL (K:Ab):R2:=λx y H Q=>∃ a b xs ys ds,x=.ref a/\y=.ref b/\SqL K H a xs/\SqL K H b ys/\DL K H 40 xs ds/\DL K H 40 ys ds/\Q (.bl false) H
def rEqDT (K:Ab):R2:=λx y H Q=>∃ a b xs ys ds,x=.ref a/\y=.ref b/\SqT K H a xs/\SqT K H b ys/\DL K H 40 xs ds/\DL K H 40 ys ds/\Q (.bl true) H
def rNeDT (K:Ab):R2:=λx y H Q=>∃ a b xs ys ds,x=.ref a/\y=.ref b/\SqT K H a xs/\SqT K H b ys/\DL K H 40 xs ds/\DL K H 40 ys ds/\Q (.bl false) H
section
variable {X:Cx}
end
theorem iG :∀ (names:List (Str×Bf)) (acc:List (Str×Gj)),(∀ y∈names,y.2=AW->∃ c,env.cells.lookup y.1=some c)->(∀ x c,acc.lookup x=some c->env.cells.lookup x=some c) ->
  ∃ cl,(forIn (m:=Sem) names acc (λx r=>do if (x.2==AW)=true then do let c <- cellOf env x.1;pure (De ((x.1,c)::r)) else pure (De r)))=pure cl /\
   (∀ x c,cl.lookup x=some c->env.cells.lookup x=some c)/\(∀ y∈names,y.2=AW->∃ c,cl.lookup y.1=some c)/\∀ x,(∃ c,acc.lookup x=some c)->∃ c,cl.lookup x=some c
 |[],acc,_,h2=>⟨acc,rfl,h2,(λy hy=>by simp at hy),λ_ h=>h⟩
 |y::r,acc,h1,h2=>by
  by_cases e:y.2=AW
  ·obtain ⟨c,hc⟩:=h1 y Ar e
   obtain ⟨cl,e1,e2,e3,e4⟩:=iG r ((y.1,c)::acc) (λz hz=>h1 z (Ah _ hz)) (λx d hx=>by
    rw [CY] at hx;split at hx
    ·rename_i hb
     have:x=y.1:=Em hb;rw [this,hc];exact hx
    ·exact h2 x d hx)
   refine ⟨cl,?_,e2,λz hz ez=>?_,λx hx=>e4 x ?_⟩
   ·rw [List.forIn_cons,if_pos (by rw [e];rfl)]
    unfold cellOf;rw [hc];simp only [pure_bind];exact e1
   ·rcases Ay.mp hz with rfl|hz
    ·exact e4 z.1 ⟨c,by rw [CY,beq_self_eq_true]⟩
    ·exact e3 z hz ez
   ·obtain ⟨d,hd⟩:=hx
    rw [CY];split
    ·exact ⟨c,rfl⟩
    ·exact ⟨d,hd⟩
  ·obtain ⟨cl,e1,e2,e3,e4⟩:=iG r acc (λz hz=>h1 z (Ah _ hz)) h2
   refine ⟨cl,?_,e2,λz hz ez=>?_,e4⟩
   ·rw [List.forIn_cons,if_neg (by intro z;exact e (Em z))]
    simp only [pure_bind];exact e1
   ·rcases Ay.mp hz with rfl|hz
    ·exact absurd ez e
    ·exact e3 z hz ez
def uT (h:∀ y∈scope.names,y.2=AW->∃ c,env.cells.lookup y.1=some c) :
  ∃ cl,closureFor scope env=pure cl/\(∀ x c,cl.lookup x=some c->env.cells.lookup x=some c)/\∀ y∈scope.names,y.2=AW->∃ c,cl.lookup y.1=some c:=by
 obtain ⟨cl,e1,e2,e3,_⟩:=iG (env:=env) scope.names [] h (λx c e=>by simp at e);refine ⟨cl,?_,e2,e3⟩;simp only [closureFor];rw [show (forIn (m:=Sem) scope.names [] λx r=>if (x.2==AW)=true then (do let c <- cellOf env x.1;pure (De ((x.1,c)::r))) else pure (De r))=pure cl from e1];rfl
def nJ (hc:∀ y∈scope.names,y.2≠CC)(h:(relabel scope env).names.lookup x=some .cell\/(relabel scope env).names.lookup x=some .free):∃ y∈scope.names,y.1=x/\y.2=AW:=by
 have e':∃ k,(k=CC\/k=AW)/\(relabel scope env).names.lookup x=some k:=by
  rcases h with e|e
  ·exact ⟨_,.inl rfl,e⟩
  ·exact ⟨_,.inr rfl,e⟩
 obtain ⟨k,hk,e⟩:=e';have hm:=CQ e;obtain ⟨y,hy,hy2⟩:=AE.mp hm;obtain ⟨n,kk⟩:=y;have hn:=hc _ hy;simp only at hy2 hn;split at hy2
 ·rename_i hf
  injection hy2 with a1 a2;subst a1;simp only [BG] at hf;exact ⟨(n,kk),hy,rfl,Em hf.1.1⟩
 ·injection hy2 with a1 a2
  subst a1 a2
  rcases hk with rfl|rfl
  ·exact absurd rfl hn
  ·exact ⟨_,hy,rfl,rfl⟩
def zV (ok:X.Ok)(hc:∀ y∈scope.names,y.2≠CC)(h:∀ y∈scope.names,y.2=AW->X.env.kindOf y.1=some .cell\/X.env.kindOf y.1=some .free):∃ cl,ClOk X scope cl:=by
 obtain ⟨cl,e1,e2,e3⟩:=uT (scope:=scope) (env:=X.env) λy hy ey=>ok.has y.1 (h y hy ey);refine ⟨cl,e1,e2,λx hx=>?_⟩;obtain ⟨y,hy,rfl,ey⟩:=nJ hc hx;exact e3 y hy ey
def eO (Zf:St->St)(hc:X.calm=true)(hkind:scope.kind=.function)(hcell:∀ y∈scope.names,y.2≠.cell)(hnames:∀ y∈scope.names,y.2=.local->scope.names.lookup y.1=some .local)(hk:∀ y∈scope.names,y.2=AW->X.env.kindOf y.1=some .cell\/X.env.kindOf y.1=some .free)(hN:∀ cl (Z:St),Z.length=X.N.length->BlkN X N' scope cl Z (Zf Z))(hi:PI X tg iter wi)(hg:∀ cl C s₀ H₀ ex pn,PG (blk X N' scope cl C s₀ H₀ ex pn) tg g)(ht:∀ cl C s₀ H₀ ex pn,PIfs (blk X N' scope cl C s₀ H₀ ex pn) ifs tt)(he:∀ cl C s₀ H₀ ex pn,PE (blk X N' scope cl C s₀ H₀ ex pn) elt te)(hs:∀ x,EV iter X.env x=pure x:=by intro _;rfl):PE X (.ListComp elt [⟨tg,iter,ifs,0⟩] scope pos) (aAo Zf wi g tt te):=by
 intro U s Z H Q I h;obtain ⟨cl,hcl⟩:=zV I.ok hcell hk;exact pV Zf hc hkind hcell hnames hcl (hN cl) hi (hg cl) (ht cl) (he cl) hs U s Z H Q I h
def kY {X:Cx}{scope sc:Scope}(hs:X.env.scope=sc)(h:(scope.names.all λy=>y.2 != AW||sc.names.lookup y.1==some CC||sc.names.lookup y.1==some AW)=true) :
  ∀ y∈scope.names,y.2=AW->X.env.kindOf y.1=some .cell\/X.env.kindOf y.1=some .free:=λy hy ey=>by
 have q:=CG.mp h y hy;unfold Env.kindOf;rw [hs];rw [ey] at q;simp only [bne_self_eq_false,Bool.false_or,Bool.or_eq_true] at q
 rcases q with q|q
 ·exact .inl (Em q)
 ·exact .inr (Em q)
theorem eE {env:Env}{x:Str}(hk:env.scope.kind=.function)(hx:env.kindOf x=some .cell):∀ {names:List (Str×Bf)},names.lookup x=some .free ->
    (names.map λ(n,k)=>if (k==AW&&env.scope.kind==.function&&env.kindOf n==some .cell) then (n,CC) else (n,k)).lookup x=some .cell
  |[],h=>by simp at h
  |(n,k)::r,h=>by
    rw [Ak];rw [CY] at h
    by_cases e:(x==n)=true
    . rw [e] at h;have e':x=n:=Em e;subst e';have hf:k=AW:=AF h;subst hf;have c:(AW==AW&&env.scope.kind==.function&&env.kindOf x==some .cell)=true:=by rw [hk,hx];rfl
      rw [show (match ((x,AW):Str×Bf) with|(n,k)=>if (k==AW&&env.scope.kind==.function&&env.kindOf n==some .cell)=true then (n,CC) else (n,k))=(x,CC) from if_pos c];rw [CY,beq_self_eq_true]
    . have e0:(x==n)=false:=by simpa using e
      rw [e0] at h;have ih:=eE hk hx h;have en:∀ q:Str×Bf,q.1=n->(q::(r.map λ(n,k)=>if (k==AW&&env.scope.kind==.function&&env.kindOf n==some .cell) then (n,CC) else (n,k))).lookup x=some .cell:=λq hq=>by
        obtain ⟨q1,q2⟩:=q;simp only at hq;subst hq;rw [CY,e0];exact ih
      refine en _ ?_;show (if _ then (n,CC) else (n,k)).1=n;split<;>rfl
def eR {X:Cx}{N' N:Gh}{scope sc:Scope}{cl:List (Str×Gj)}{Z:St}(ts:List (Option Nat))(hN:X.N=N)(hsc:X.env.scope=sc)(hl:ts.length=N'.length)(hk:sc.kind=.function)
  (h:((ts.zip N').all λp=>match p.1 with|none=>true|some j=>N[j]?==some p.2&&sc.names.lookup p.2==some CC&&scope.names.lookup p.2==some AW)=true) :
  BlkN X N' scope cl Z (ts.map λt=>t.bind λj=>(Z[j]?).join):=by
 refine ⟨by rw [Af,hl],λi x v h1 h2=>?_⟩;rw [Aq] at h2;cases ht:ts[i]? with
 |none=>rw [ht] at h2;cases h2
 |some t=>
  rw [ht] at h2;have h2':(t.bind λj=>(Z[j]?).join)=some v:=AF h2;cases t with
  |none=>cases h2'
  |some j=>
   have hm:(some j,x)∈ts.zip N':=Al (by rw [Eb];exact ⟨ht,h1⟩:(ts.zip N')[i]?=some (some j,x));have q:=CG.mp h _ hm;simp only [BG] at q;obtain ⟨⟨q1,q2⟩,q3⟩:=q;have q1':=Em q1;have q2':=Em q2;have q3':=Em q3;have kd:X.env.kindOf x=some .cell:=by
    unfold Env.kindOf;rw [hsc];exact q2'
   refine ⟨j,by rw [hN];exact q1',?_,by rw [hsc];exact .inr (.inl q2'),(by rw [kd];decide),.inl (eE (by rw [hsc];exact hk) kd q3')⟩;have h3:(Z[j]?).join=some v:=h2';cases hj:Z[j]? with
   |none=>rw [hj] at h3;cases h3
   |some o=>rw [hj] at h3;cases o with
    |none=>cases h3
    |some u=>cases h3;rfl
def aEj {iy:Nat}(Zf:St->St)(hc:X.calm=true)(hkind:scope.kind=.function)(hcell:∀ y∈scope.names,y.2≠.cell)(hnames:∀ y∈scope.names,y.2=.local->scope.names.lookup y.1=some .local)(hcl:ClOk X scope cl)(hN:∀ Z:St,Z.length=X.N.length->BlkN X N' scope cl Z (Zf Z))(hi:PI X tg iter wi)(hg:∀ C s₀ H₀ ex pn,PG (blk X N' scope cl C s₀ H₀ ex pn) tg g)(ht:∀ C s₀ H₀ ex pn,PIfs (blk X N' scope cl C s₀ H₀ ex pn) ifs tt)(he:∀ C s₀ H₀ ex pn,PE (blk X N' scope cl C s₀ H₀ ex pn) elt te)(hnd:X.N.Nodup)(hiy:X.N[iy]?=some y)(hy:Loc X.env.scope y)(hfy:X.fn y=true\/X.env.scope.names.lookup y=some .local)(hsw:Fd (.ListComp elt [⟨tg,iter,ifs,0⟩] scope pos) (some (.Name y py)) spos.line X.env=pure true)(hs:∀ x,EV iter X.env x=pure x:=by intro _;rfl):PS X (.Assign [.Name y py] (.ListComp elt [⟨tg,iter,ifs,0⟩] scope pos) spos) (tAsg (aAo Zf wi g tt te) (gName iy)):=by
 intro U s Z H Dn I h;rw [exec_Assign_Name_used _ _ _ _ hsw];refine Aa (Fn (Aa ?_));show wpAny _ X.A (do let _ <- comprehension (.ListComp elt [⟨tg,iter,ifs,0⟩] scope pos) scope X.env _ (newList []) false (eval iter X.env) (some (assign (.Name y py) X.env))) _ _ s;refine Aa (BR (wpAny_comprehension_free (use:=some (assign (.Name y py) X.env)) (Q:=λ_ s'=>SP X U Dn .next s') rfl hs hcl.run hkind hnames
  (thn (hi U s Z H _ I h) λv s1 h1=>thn h1 λitv s2 h2=>?_)) (λ_ s' hq=>Ag (Ag hq)) λ_ _ e=>e)
 obtain ⟨it,fp,tn,J,H2,rfl,I2,T,st2,f2,q⟩:=h2;refine Bc (wpAny_newFunctionEnv hcell (by intro y hy;simp at hy) (λh₁ hns₁ hsb₁=>?_) hkind);dsimp only at hns₁ hsb₁ ⊢;have hfo:∀ b∈fp,b<s2.heap.objs.size:=λb hb=>by
  obtain ⟨o,e,_⟩:=T.obj _ _ st2 b hb;exact Ao e
 have hDf:H2 s2.heap.objs.size=none:=I2.hok.fresh (Aj _);obtain ⟨W,⟨m0,w0⟩,turn⟩:=q s2.heap.objs.size hDf;have I3:Inv X U Z (upd H2 s2.heap.objs.size (.lst [])) { s2 with heap:=s2.heap.push { cls:=.type "list",data:=.seq ([]:Gi).toArray } }:=I2.lnew (its:=[]) (t':=s2.toks) .nil (Bu _);have f3:∀ b∈fp,FpOk X U (upd H2 s2.heap.objs.size (.lst [])) b:=λb hb=>⟨by rw [aK (As (hfo b hb))];exact (f2 b hb).1,(f2 b hb).2⟩;generalize hD:s2.heap.objs.size=D at *
 generalize hs3:({ s2 with heap:=s2.heap.push { cls:=.type "list",data:=.seq ([]:Gi).toArray } }:Gm)=s3 at *
 have hh3:s3.heap=s2.heap.push { cls:=.type "list",data:=.seq ([]:Gi).toArray }:=by rw [<- hs3]
 have hsz3:s2.heap.objs.size<s3.heap.objs.size:=by rw [hh3,BH];exact Cd _
 have e3:∀ h t,({ s2 with heap:=h,toks:=t }:Gm)={ s3 with heap:=h,toks:=t }:=λh t=>by rw [<- hs3]
 rw [<- hh3] at hns₁ hsb₁ ⊢;have hk3:∀ b o,s3.heap.get? b=some o->h₁.get? b=some o:=λb o e=>hsb₁.extBut b o (As (Ao e)) (Ac _ e);have I4:=oK (t':=s3.toks) I3 hkind hcl (hN Z I.len) f3 (λb hb=>El (hfo b hb) (hD▸hsz3)) (hns:=by simpa using hns₁) hk3;generalize hB:blk X N' scope cl s3.heap.objs.size s3 (upd H2 D (.lst [])) fp (X.pn++U)=B at *
 have hBp:B.prog=X.prog:=by rw [<- hB];rfl
 have hBw:B.w=X.w:=by rw [<- hB];rfl
 have hBK:B.K=X.K:=by rw [<- hB];rfl
 have hBA:B.A=X.A:=by rw [<- hB];rfl
 have hBc:B.calm=true:=by rw [<- hB];exact hc
 have hBe:B.env=compEnvC scope cl s3.heap.objs.size X.env:=by rw [<- hB];rfl
 have hBx:B.xe=λ_ _=>False:=by rw [<- hB];rfl
 have hGB:PG B tg g:=hB▸hg _ _ _ _ _;have hTB:PIfs B ifs tt:=hB▸ht _ _ _ _ _;have hEB:PE B elt te:=hB▸he _ _ _ _ _;have stat:∀ {H':Hp},(∀ b∈fp,H' b=none)->∀ b∈fp,FpOk B [] H' b:=λ{H'} hn b hb=>by
  obtain ⟨f0,f1,f2',f3',f4,f5⟩:=f3 b hb;rw [<- hB];refine ⟨hn b hb,As (El (hfo b hb) (hD▸hsz3)),λz=>?_,.inl hb,λx c e=>f4 x c (hcl.sub x c e),λp hp=>?_⟩
  ·rcases Ay.mp (I.stkSub b z) with z|z
   ·exact f1 z
   ·exact f2' z
  ·rw [show (blk X N' scope cl s3.heap.objs.size s3 (upd H2 D (.lst [])) fp (X.pn++U)).pn=X.pn++U from rfl,BX] at hp
   exact f5 p hp
 have loop:∀ s4:Gm,Inv B [] (Zf Z) (upd H2 D (.lst [])) s4->tn 0 s4.heap ->
   Ey (model X.prog X.w) X.A (.compLoop (.ListComp elt [⟨tg,iter,ifs,0⟩] scope pos) 0 (.ref it) (.ref D) (compEnvC scope cl s3.heap.objs.size X.env)) (compPost (model X.prog X.w) X.A X.xe (some (assign (.Name y py) X.env)) (λ_ s'=>SP X U Dn .next s') (.ref D) s3.heap.objs.size) s4:=by
  intro s4 I4 st4;refine iL (I:=λn s'=>∃ i ys H',Inv B [] (Zf Z) H' s'/\tn i s'.heap/\(∀ b∈fp,H' b=none)/\W i n ys H') ?_ m0 ⟨0,[],_,I4,st4,λb hb=>(f3 b hb).1,w0⟩
  rintro n s5 ⟨i,ys,H5,I5,st5,fr5,w5⟩
  obtain ⟨hD5,hlen5,alt⟩:=turn i n ys H5 w5
  rcases alt with ⟨stop,qn⟩|⟨go,step⟩
  ·have z:=T.done B hBp hBw hBK hBc i [] s5 (Zf Z) H5 (λ_ _=>False) I5 (stat fr5) st5 stop
   rw [hBA] at z;refine thn z λr s6 ⟨hr,I6⟩=>?_;subst hr;obtain ⟨m6,hn6,_⟩:=I6.loc;rw [hBe] at hn6;subst hB;have I6x:Inv X U Z H5 s6:=aAd I3 f3 I6 (h'':=s6.heap) ⟨rfl,λ_ _=>rfl⟩;have fC:FpOk X U H5 s3.heap.objs.size:=I3.fpOk (Aj _) I6.free;obtain ⟨g0,g1,g2,g3,g4,g5⟩:=id fC;obtain ⟨oC,es,ep,hoC,hdC,rest⟩:=hn6;have I6p:=I6x.pinned (fp:=[s3.heap.objs.size]) (λb hb=>by rw [AA.mp hb];exact fC) (λb hb=>⟨oC,by rw [AA.mp hb];exact hoC,λv e=>by rw [hdC] at e;cases e⟩);show wpAny (model X.prog X.w) X.A (assign (.Name y py) X.env (.ref D)) _ X.xe s6;refine thn (gE (i:=iy) (pos:=py) hnd hiy hy hfy _ s6 Z H5 (.ref D) (.ref D) (λZ' H'=>Dn.nx Z' H') I6p rfl qn) λ_ s7 ⟨Z7,H7,I7,q7⟩=>?_;have pc:=I7.pin (s3.heap.objs.size,oC) (AI _ (AI _ (dQ (by simp) hoC)));refine ⟨m6,⟨oC,es,ep,pc.1,hdC,rest⟩,λh' hs'=>⟨Z7,H7,?_,q7⟩⟩;exact I7.unpinned.turned (t':=s7.toks) (λb o hb e=>hs'.extBut b o hb e) pc.2.1 g1 g3 g4 g5
  ·have z:=T.item B hBp hBw hBK hBc i [] s5 (Zf Z) H5 (λ_ _=>False) I5 (stat fr5) st5 go
   rw [hBA] at z;refine thn z λr s6 ⟨u,hr,h6⟩=>?_;subst hr;refine thn h6 λ_ s7 ⟨x,H7,I7,r7,y7,st7,fr7⟩=>?_;have I7':=I7.pinned (stat fr7) (T.obj _ _ st7);have z8:=hGB _ s7 (Zf Z) H7 x u _ I7' r7 (step x H7 y7);rw [hBp,hBw,hBA,hBe,hBx] at z8;refine thn z8 λ_ s8 ⟨Z8,H8,I8,k8,q8⟩=>?_;have z9:=hTB _ s8 Z8 H8 _ I8 q8;rw [hBp,hBw,hBA,hBe,hBx] at z9;refine thn z9 λok s9 ⟨H9,I9,q9⟩=>?_;have again:∀ {ys':Gq} {H':Hp} {s':Gm},Inv B ([]++lE fp s7.heap) Z8 H' s'->(∃ m',m'<n/\W (i+1) m' ys' H')->∃ m,m<n/\∃ i ys H',Inv B [] (Zf Z) H' s'/\tn i s'.heap/\(∀ b∈fp,H' b=none)/\W i m ys H':=λ{ys' H' s'} J ⟨m',hm,w'⟩=>by
    refine ⟨m',hm,i+1,ys',H',J.unpinned.weak k8.len.symm k8.at',T.keep _ _ _ st7 λb hb o e=>(J.pin (b,o) (AI _ (AI _ (dQ hb e)))).1,λb hb=>?_,w'⟩;obtain ⟨o,e,d⟩:=T.obj _ _ st7 b hb;exact (J.pin (b,o) (AI _ (AI _ (dQ hb e)))).2.1
   cases ok with
   |false=>exact again I9 q9
   |true=>
    have z10:=hEB _ s9 Z8 H9 _ I9 q9;rw [hBp,hBw,hBA,hBe,hBx] at z10;refine thn z10 λy10 s10 ⟨y,H10,I10,r10,hD10,q10⟩=>?_;have z11:=dM (X:=B) _ s10 Z8 H10 (.ref D) [y] (.ref D) [y10] (λ_ H'=>∃ m',m'<n/\W (i+1) m' (ys++[y]) H') I10 rfl (.cons r10 .nil) ⟨D,ys,y,rfl,rfl,hD10,hlen5,q10⟩;rw [hBp,hBw,hBA,hBx] at z11;refine thn z11 λ_ s11 ⟨_,H11,I11,_,q11⟩=>again I11 q11
 have st4:tn 0 ({ s3 with heap:=h₁,toks:=s3.toks }:Gm).heap:=T.keep _ _ _ st2 λb hb o e=>hk3 b o (by rw [hh3];exact Ac _ e);have L4:=loop _ I4 st4;subst hs3;exact codeAny_compStart_list L4 (T.self _ 0 _ _ _ st4 L4)
def rN {iy:Nat}(Zf:St->St)(hc:X.calm=true)(hkind:scope.kind=.function)(hcell:∀ y∈scope.names,y.2≠.cell)(hnames:∀ y∈scope.names,y.2=.local->scope.names.lookup y.1=some .local)(hk:∀ y∈scope.names,y.2=AW->X.env.kindOf y.1=some .cell\/X.env.kindOf y.1=some .free)(hN:∀ cl (Z:St),Z.length=X.N.length->BlkN X N' scope cl Z (Zf Z))(hi:PI X tg iter wi)(hg:∀ cl C s₀ H₀ ex pn,PG (blk X N' scope cl C s₀ H₀ ex pn) tg g)(ht:∀ cl C s₀ H₀ ex pn,PIfs (blk X N' scope cl C s₀ H₀ ex pn) ifs tt)(he:∀ cl C s₀ H₀ ex pn,PE (blk X N' scope cl C s₀ H₀ ex pn) elt te)(hnd:X.N.Nodup)(hiy:X.N[iy]?=some y)(hy:Loc X.env.scope y)(hfy:X.fn y=true\/X.env.scope.names.lookup y=some .local)(hsw:Fd (.ListComp elt [⟨tg,iter,ifs,0⟩] scope pos) (some (.Name y py)) spos.line X.env=pure true)(hs:∀ x,EV iter X.env x=pure x:=by intro _;rfl):PS X (.Assign [.Name y py] (.ListComp elt [⟨tg,iter,ifs,0⟩] scope pos) spos) (tAsg (aAo Zf wi g tt te) (gName iy)):=by
 intro U s Z H D I h;obtain ⟨cl,hcl⟩:=zV I.ok hcell hk;exact aEj Zf hc hkind hcell hnames hcl (hN cl) hi (hg cl) (ht cl) (he cl) hnd hiy hy hfy hsw hs U s Z H D I h
structure Ys (J:It)(xs:Gq)(H1:Hp):Prop where
 go:∀ i H,Same H1 H->i<xs.length->J.go i H
 yld:∀ i H x H',Same H1 H->i<xs.length->J.yld i H x H'->H'=H/\xs[i]?=some x
 stop:∀ i H,Same H1 H->xs.length<=i->J.stop i H
def Ys.list {K:Ab}{a:Gj}{xs:Gq}{H1:Hp}(h:SqL K H1 a xs):Ys (Itl K a) xs H1 where
 go:=λi H s hi=>⟨xs,xs[i],s.seq h,Ae hi⟩
 yld:=λi H x H' s _ y=>⟨y.1,y.2 xs (s.seq h)⟩
 stop:=λi H s hi=>⟨xs,s.seq h,hi⟩
def Ys.tup {K:Ab}{a:Gj}{xs:Gq}{H1:Hp}(h:SqT K H1 a xs):Ys (Itt K a) xs H1 where
 go:=λi H s hi=>⟨xs,xs[i],s.tup h,Ae hi⟩
 yld:=λi H x H' s _ y=>⟨y.1,y.2 xs (s.tup h)⟩
 stop:=λi H s hi=>⟨xs,s.tup h,hi⟩
def rngV (lo:Int)(n:Nat):Gq:=(AV n).map λ(i:Nat)=>V.int (lo+(i:Int))
theorem fA (lo:Int)(n:Nat):(rngV lo n).length=n:=by unfold rngV;rw [Af,List.length_range]
def rK {lo:Int}{n i:Nat}(h:(rngV lo n)[i]?=some x):i<n/\x=.int (lo+i):=by
 have hi:i<n:=by rw [<- fA lo n];exact (Ad.mp h).1
 unfold rngV at h;rw [Aq,List.getElem?_range hi] at h;exact ⟨hi,(AF h).symm⟩
def Ys.rng {lo:Int}{n:Nat}:Ys (Itr lo n) (rngV lo n) H1 where
 go:=λi H _ hi=>by rw [fA] at hi;exact hi
 yld:=λi H x H' _ hi y=>⟨y.1,by
  obtain ⟨_,rfl⟩:=y;rw [fA] at hi;unfold rngV;rw [Aq,List.getElem?_range hi];rfl⟩
 stop:=λi H _ hi=>by rw [fA] at hi;exact hi
def iP {α:Type}{ys:List α}{y z:α}{j:Nat}(h:(ys++[y])[j]?=some z):(j<ys.length/\ys[j]?=some z)\/(j=ys.length/\z=y):=by
 by_cases hj:j<ys.length
 ·rw [BW hj] at h
  exact .inl ⟨hj,h⟩
 ·rw [BC (by lia)] at h
  have e0:j-ys.length=0:=by
   cases hz:j-ys.length with
   |zero=>rfl
   |succ n=>rw [hz] at h;simp at h
  rw [e0] at h;exact .inr ⟨by lia,by simpa using h.symm⟩
def fZ {J:It}{xs:Gq}{D:Gj}{g:TG}{te:TE}{Z0:St}{QD:Hp->Prop}{H1:Hp}(Y:Ys J xs H1)(Pr:Nat->V->V->Hp->Prop)(hP:∀ i x y H H',Pr i x y H->Tk H H'->Pr i x y H')(hD:H1 D=none)(hl:xs.length<=1000)
  (hs:∀ i x H' (R:VK),xs[i]?=some x->Same H1 H'->(∀ y H4,Same H' H4->Pr i x y H4->R y H4)->g x Z0 H' λZ2 H2=>Keep Z0 Z2/\te Z2 H2 R)
  (hd:∀ ys H',Same H1 H'->H' D=some (.lst ys)->ys.length=xs.length->(∀ i x y,xs[i]?=some x->ys[i]?=some y->Pr i x y H')->QD H') :
  ∃ W:Nat->Nat->Gq->Hp->Prop,(∃ m,W 0 m [] (upd H1 D (.lst [])))/\∀ i m ys H,W i m ys H->H D=some (.lst ys)/\ys.length<Au /\
   ((J.stop i H/\QD H)\/(J.go i H/\∀ x H',J.yld i H x H'->g x Z0 H' λZ2 H2=>Keep Z0 Z2/\vK Z2 H2 λb H3=>
    if b=true then te Z2 H3 λy H4=>H4 D=some (.lst ys)/\∃ m',m'<m/\W (i+1) m' (ys++[y]) (upd H4 D (.lst (ys++[y]))) else ∃ m',m'<m/\W (i+1) m' ys H3)):=by
 refine ⟨λi m ys H=>m=xs.length-i/\i<=xs.length/\Same H1 H/\H D=some (.lst ys)/\ys.length=i/\∀ j x y,xs[j]?=some x->ys[j]?=some y->Pr j x y H,
  ⟨_,rfl,Bu _,Gu hD,aB,rfl,λj x y _ h=>by simp at h⟩,?_⟩
 rintro i m ys H ⟨rfl,hi,sm,hDH,yl,pr⟩
 refine ⟨hDH,bP (by lia),?_⟩
 by_cases hlt:i<xs.length
 ·refine .inr ⟨Y.go i H sm hlt,λx H' y=>?_⟩
  obtain ⟨rfl,hx⟩:=Y.yld i H x H' sm hlt y;refine hs i x H' _ hx sm λy H4 s4 py=>?_;have hD4:=s4 _ _ hDH;have tk:Tk H4 (upd H4 D (.lst (ys++[y]))):=Tk.lst hD4;refine ⟨hD4,xs.length-(i+1),by lia,rfl,hlt,λb o hb=>?_,aB,by rw [Av,yl];rfl,λj x' y' hx' hy'=>?_⟩
  ·rw [aK (bB hb hD)]
   exact s4 _ _ (sm _ _ hb)
  ·rcases iP hy' with ⟨_,hy'⟩|⟨e,e'⟩
   ·exact hP _ _ _ _ _ (hP _ _ _ _ _ (pr j x' y' hx' hy') (Same.tk s4)) tk
   ·subst e'
    have:j=i:=by lia
    subst this;rw [hx] at hx';cases hx';exact hP _ _ _ _ _ py tk
 ·have e:i=xs.length:=by lia
  subst e;exact .inl ⟨Y.stop _ H sm (Aj _),hd ys H sm hDH yl pr⟩
def sR {X:Cx}{K:Ab}(h:X.K=K):IxR X (rIxL K):=h▸aX
def yP {X:Cx}{K:Ab}(h:X.K=K):IxR X (rIxT K):=h▸cY
def kM {J:It}{xs:Gq}{D:Gj}{g:TG}{tt:TT}{te:TE}{Z0:St}{QD:Hp->Prop}{H1:Hp}(Y:Ys J xs H1)(p:V->Bool)(Pr:V->V->Hp->Prop)(hP:∀ x y H H',Pr x y H->Tk H H'->Pr x y H')(hD:H1 D=none)(hl:xs.length<=1000)
  (hs:∀ (i:Nat) x H' (R1:VK) (R2:Hp->Prop),xs[i]?=some x->Same H1 H'->(p x=true->∀ y H4,Same H' H4->Pr x y H4->R1 y H4)->(p x=false->∀ H4,Same H' H4->R2 H4)->g x Z0 H' λZ2 H2=>Keep Z0 Z2/\tt Z2 H2 λb H3=>if b=true then te Z2 H3 R1 else R2 H3)
  (hd:∀ ys H',Same H1 H'->H' D=some (.lst ys)->ys.length=(xs.filter p).length->(∀ (i:Nat) x y,(xs.filter p)[i]?=some x->ys[i]?=some y->Pr x y H')->QD H') :
  ∃ W:Nat->Nat->Gq->Hp->Prop,(∃ m,W 0 m [] (upd H1 D (.lst [])))/\∀ i m ys H,W i m ys H->H D=some (.lst ys)/\ys.length<Au /\
   ((J.stop i H/\QD H)\/(J.go i H/\∀ x H',J.yld i H x H'->g x Z0 H' λZ2 H2=>Keep Z0 Z2/\tt Z2 H2 λb H3=>
    if b=true then te Z2 H3 λy H4=>H4 D=some (.lst ys)/\∃ m',m'<m/\W (i+1) m' (ys++[y]) (upd H4 D (.lst (ys++[y]))) else ∃ m',m'<m/\W (i+1) m' ys H3)):=by
 refine ⟨λi m ys H=>m=xs.length-i/\i<=xs.length/\Same H1 H/\H D=some (.lst ys)/\ys.length=((xs.take i).filter p).length/\∀ (j:Nat) x y,((xs.take i).filter p)[j]?=some x->ys[j]?=some y->Pr x y H,
  ⟨_,rfl,Bu _,Gu hD,aB,rfl,λj x y _ h=>by simp at h⟩,?_⟩
 rintro i m ys H ⟨rfl,hi,sm,hDH,yl,pr⟩
 have yl':ys.length<=xs.length:=by
  rw [yl];exact AR (List.length_filter_le _ _) (by rw [Ca];lia)
 refine ⟨hDH,bP (by lia),?_⟩
 by_cases hlt:i<xs.length
 ·refine .inr ⟨Y.go i H sm hlt,λx H' y=>?_⟩
  obtain ⟨rfl,hx⟩:=Y.yld i H x H' sm hlt y;have et:xs.take (i+1)=xs.take i++[x]:=by rw [CO,hx];rfl
  refine hs i x H' _ _ hx sm (λpx y H4 s4 py=>?_) (λpx H4 s4=>?_)
  ·have hD4:=s4 _ _ hDH
   have tk:Tk H4 (upd H4 D (.lst (ys++[y]))):=Tk.lst hD4;refine ⟨hD4,xs.length-(i+1),by lia,rfl,hlt,λb o hb=>?_,aB,?_,λj x' y' hx' hy'=>?_⟩
   ·rw [aK (bB hb hD)]
    exact s4 _ _ (sm _ _ hb)
   ·rw [et,DG,Av,Av,yl,Er px]
    rfl
   ·rw [et,DG,Er px] at hx'
    rcases iP hx' with ⟨h1,hx'⟩|⟨h1,hx'⟩
    ·rcases iP hy' with ⟨_,hy'⟩|⟨e,_⟩
     ·exact hP _ _ _ _ (hP _ _ _ _ (pr j x' y' hx' hy') (Same.tk s4)) tk
     ·lia
    ·rcases iP hy' with ⟨h2,_⟩|⟨_,hy'⟩
     ·lia
     ·subst hx' hy'
      exact hP _ _ _ _ py tk
  ·refine ⟨xs.length-(i+1),by lia,rfl,hlt,sm.trans s4,s4 _ _ hDH,?_,λj x' y' hx' hy'=>?_⟩
   ·rw [et,DG,Es (by rw [px];exact AB),List.filter_nil,BX,yl]
   ·rw [et,DG,Es (by rw [px];exact AB),List.filter_nil,BX] at hx'
    exact hP _ _ _ _ (pr j x' y' hx' hy') (Same.tk s4)
 ·have e:i=xs.length:=by lia
  subst e;rw [Bz] at yl pr;exact .inl ⟨Y.stop _ H sm (Aj _),hd ys H sm hDH yl pr⟩
end L2
namespace L2
open PySem PySem.Spec PyProof.Rows PySem.W
structure ExK (K:Frag)(C:Gj):Prop where
 ga:findIn K (.ref C) "__getattribute__" = some (some (.builtin "BaseException.__getattribute__"))
 gt:findIn K (.ref C) "__getattr__" = some none
 cl:findIn K (.ref C) "__class__" = some (some (.builtin "object.__class__"))
 sb:subIn K (.ref C) (.type "BaseException")=some true
 so:subIn K (.ref C) (.type "object")=some true
 ci:(clsIn K C).isSome=true
structure ExAt (h:Heap)(a:Gj)(o:Obj)(C:Gj):Prop where
 at_:h.get? a=some o
 cls:o.cls=.ref C
def ExAt.type (I:ExAt h a o C):Looks M h (typeOf (.ref a)) (.ref C):=by
 rw [<- I.cls];exact (Looks.ld I.at_).andThen .now
section
variable {prog:Aw}{w:World}{A:Around}{E:Ga}{h:Heap}{g:Array GenState}{d:Drawn}{t:Nat}{os:OsState}{a C:Gj}{o:Obj}{K:Frag}
end
def excO (a C:Gj):HO:=.ext λh=>∃ o,ExAt h a o C
section
variable {X:Cx}
end
def zJ (o:Obj)(f:Array Gk->Array Gk):(DV f o).dict=o.dict:=by
 unfold DV;split<;>rfl
def TrD (h base:Heap)(e:Gj)(cls:Gk)(dd:Option Gj)(fl:Gk):Prop:=
 ∃ (ob tb:Obj) (us ts:Array Gk) (T:Gj),(h.get? e=some ob/\ob.data=.fields us/\ob.cls=cls/\ob.dict=dd)/\us[1]?=some (.ref T)/\(base.get? T=none/\T≠e)/\h.get? T=some tb/\tb.data=.fields ts/\ts[3]?=some fl
structure FlyD (base:Heap)(l:List Env)(e:Gj)(cls:Gk)(dd:Option Gj)(fl:Gk)(h:Heap):Prop where
 st:base.StaysIn h
 no:base.get? e=none
 fr:h.FunFrames base l
 tr:TrD h base e cls dd fl
theorem FlyD.at {l:List Env}{dd:Option Gj}(x:FlyD base l e cls dd fl h):∃ ob us,h.get? e=some ob/\ob.cls=cls/\ob.dict=dd/\ob.data=.fields us:=by
 obtain ⟨ob,_,us,_,_,⟨a,b,c,d⟩,_⟩:=x.tr;exact ⟨ob,us,a,c,d,b⟩
section
variable {M:Model}{A:Around}{E:Ga}{s:Gm}{base:Heap}{env:Env}{outer:List Env}{L e:Gj}{Q:Unit->Gm->Prop}{cls:Gk}{dd:Option Gj}
def aC5 {had:Bool}(frs:A.frames=some (env::outer))(ff:s.heap.FunFrames base (env::outer))(fL:env.frame=some L)(ge:s.heap.get? e=some ob)(st:base.StaysIn s.heap)(no:base.get? e=none)(du:ob.data=.fields us)(sz:1<us.size)(k:∀ h',FlyD base (env::outer) e ob.cls ob.dict (rawInt L) h'->s.heap.UpToSlots h'->Q () { s with heap:=h' }) :
  wpAny M A (do let fo <- frameOf env;let pl <- entryPlaceOf L had;let row <- EntryCells.newEntry head fo .none (rawInt L) .none pl;setField (.ref e) 1 row) Q E s:=by
 have eNot:e∉(env::outer).filterMap (·.frame):=λmem=>by
  obtain ⟨_,o',g',nf⟩:=ff.mem mem;cases ge.symm.trans g';exact nf us du
 refine Aa (wpAny_frameOf_fun frs ff fL λh1 only=>Aa (wpAny_entryPlaceOf λpl plOk=>?_));unfold EntryCells.newEntry newFields;refine Aa (Bc ?_ (plOk.sizeOk5 _ _ _ _ _));have g1:h1.get? e=some ob:=(only.2.1 e eNot).trans ge;have st1:base.StaysIn h1:=λb o q=>(only.2.1 b λmem=>by
  rw [(ff.mem mem).1] at q;cases q).trans (st b o q)
 generalize hrow:({ cls:=.type "traceback",dict:=none,data:=.fields ([head,.ref L,.none,rawInt L,.none]++(if pl.isEmpty then Cm 6 BO else pl)).toArray }:Obj)=row;have g2:(h1.push row).get? e=some ob:=Ac row g1;have Tne:h1.objs.size≠e:=Dr (Ao g1);have du':=Ez du (·.setIfInBounds 1 (AC h1.objs.size));have gT:(h1.push row).get? h1.objs.size=some row:=Ai h1 (by rw [<- hrow];rfl);have old:∀ b o,b≠e->h1.get? b=some o->((h1.push row).update e (DV (·.setIfInBounds 1 (AC h1.objs.size)))).get? b=some o:=λb o nb q=>by
  rw [Ba _ _ (Bi nb)];exact Ac row q
 have nofld:∀ b o,s.heap.get? b=some o->(∀ vs,o.data≠.fields vs)->b≠e:=λb o q nf z=>by
  subst z;cases ge.symm.trans q;exact nf us du
 refine EZ g2 du sz (k _ ⟨λb o q=>old b o ?_ (st1 b o q),no,ff.of_keeps λb o q nf=>?_,?_⟩ λb o q nf=>?_)
 ·rintro rfl
  rw [no] at q;cases q
 ·obtain ⟨sl,z⟩:=only.2.2 b o q
  exact ⟨_,old b _ (nofld b o q nf) z,rfl⟩
 ·refine ⟨_,row,_,([head,.ref L,.none,rawInt L,.none]++(if pl.isEmpty then Cm 6 BO else pl)).toArray,h1.objs.size,⟨BN _ g2 (EM du'),du',Obj.cls_mapFields _ _,zJ _ _⟩,by simp [sz],⟨?_,Tne⟩,?_,by rw [<- hrow],by simp⟩
  ·cases z:base.get? h1.objs.size with
   |none=>rfl
   |some o=>exact absurd (Ao (st1 _ _ z)) (Cw _)
  ·rw [Ba _ _ (Bi Tne)]
   exact gT
 ·obtain ⟨sl,z⟩:=only.2.2 b o q
  exact ⟨sl,old b _ (nofld b o q nf) z⟩
def mH {l:List Env}(F:FlyD base l e cls dd fl s.heap)(k:∀ h',FlyD base l e cls dd .none h'->s.heap.UpToSlots h'->Q () { s with heap:=h' }):wpAny M A (setFlight (.ref e) none) Q E s:=by
 obtain ⟨st,no,ff,ob,tb,us,ts,T,⟨ge,du,cc,cd⟩,u1,⟨nT,Tne⟩,gT,dt,t3⟩:=F;unfold setFlight;refine Aa (BK ge du u1 ?_);rw [if_pos (show (AC T != BO)=true from rfl)];have z3:3<ts.size:=(Cq.mp t3).1;have dt':=Ez dt (·.setIfInBounds 3 ((none:Option Gj).elim BO λf=>rawInt f));have old:∀ b,b≠T->(s.heap.update T (DV (·.setIfInBounds 3 ((none:Option Gj).elim BO λf=>rawInt f)))).get? b=s.heap.get? b:=λb nb=>Ba _ _ (Bi nb);have nofld:∀ b o,s.heap.get? b=some o->(∀ vs,o.data≠.fields vs)->b≠T:=λb o q nf z=>by
  subst z;cases gT.symm.trans q;exact nf ts dt
 refine EZ gT dt z3 (k _ ⟨λb o q=>?_,no,ff.of_keeps λb o q nf=>⟨o,(old b (nofld b o q nf)).trans q,rfl⟩,?_⟩ λb o q nf=>⟨o.slots,(old b (nofld b o q nf)).trans q⟩)
 ·refine (old b ?_).trans (st b o q)
  rintro rfl
  rw [nT] at q;cases q
 ·exact ⟨ob,_,us,_,T,⟨(old e (Bi Tne)).trans ge,du,cc,cd⟩,u1,⟨nT,Tne⟩,BN _ gT (EM dt'),dt',by simp [z3]⟩
def aHl (frs:A.frames=some (env::outer))(ff:s.heap.FunFrames base (env::outer))(fL:env.frame=some L)(ge:s.heap.get? e=some ob)(st:base.StaysIn s.heap)(no:base.get? e=none)(du:ob.data=.fields us)(u1:us[1]?=some .none)(k:∀ h',FlyD base (env::outer) e ob.cls ob.dict (rawInt L) h'->s.heap.UpToSlots h'->Q () { s with heap:=h' }):wpAny M A (noteFrame (.ref e) env) Q E s:=by
 unfold noteFrame;simp only [fL];refine Aa (BK ge du u1 ?_);rw [if_neg (by decide)];exact aC5 frs ff fL ge st no du (Cq.mp u1).1 k
def aHk (frs:A.frames=some (env::outer))(fL:env.frame=some L)(F:FlyD base (env::outer) e cls dd .none s.heap)
  (k:∀ h',FlyD base (env::outer) e cls dd (rawInt L) h'->s.heap.UpToSlots h'->Q () { s with heap:=h' }):wpAny M A (noteFrame (.ref e) env) Q E s:=by
 obtain ⟨st,no,ff,ob,tb,us,ts,T,⟨ge,du,cc,cd⟩,u1,⟨nT,Tne⟩,gT,dt,t3⟩:=F;subst cc cd;unfold noteFrame;simp only [fL];refine Aa (BK ge du u1 ?_);rw [if_pos (show (AC T != BO)=true from rfl)];refine Aa (BK gT dt t3 ?_);rw [if_neg (show ¬ ((BO==rawInt L)=true) from by simp [rawInt])];have z3:3<ts.size:=(Cq.mp t3).1;have old:∀ b,b≠T->(s.heap.update T (DV (·.setIfInBounds 3 BO))).get? b=s.heap.get? b:=λb nb=>Ba _ _ (Bi nb);have nofld:∀ b o,s.heap.get? b=some o->(∀ vs,o.data≠.fields vs)->b≠T:=λb o q nf z=>by
  subst z;cases gT.symm.trans q;exact nf ts dt
 refine Aa (EZ gT dt z3 ?_);refine aC5 frs (ff.of_keeps λb o q nf=>⟨o,(old b (nofld b o q nf)).trans q,rfl⟩) fL ((old e (Bi Tne)).trans ge) (λb o q=>?_) no du (Cq.mp u1).1 λh' F' up=>k h' F' λb o q nf=>up b o ((old b (nofld b o q nf)).trans q) nf;refine (old b ?_).trans (st b o q)
 rintro rfl
 rw [nT] at q;cases q
def FlyD.tail (F:FlyD base (env::outer) e cls dd fl h):FlyD base outer e cls dd fl h:=⟨F.st,F.no,F.fr.2.2,F.tr⟩
def aFe (frs:A.frames=some (env::outer))(ff:s.heap.FunFrames base (env::outer))(fL:env.frame=some L)(ge:s.heap.get? e=some ob)(st:base.StaysIn s.heap)(no:base.get? e=none)(du:ob.data=.fields us)(u1:us[1]?=some .none)(k:∀ h',FlyD base outer e ob.cls ob.dict .none h'->s.heap.UpToSlots h'->Q () { s with heap:=h' }):wpAny M A (leaving env (.ref e)) Q E s:=by
 unfold leaving;exact Aa (aHl frs ff fL ge st no du u1 λh' F' up=>mH F' λh'' F'' up'=>k h'' F''.tail (up.trans up'))
def aHu (frs:A.frames=some (env::outer))(fL:env.frame=some L)(F:FlyD base (env::outer) e cls dd .none s.heap)
  (k:∀ h',FlyD base outer e cls dd .none h'->s.heap.UpToSlots h'->Q () { s with heap:=h' }):wpAny M A (leaving env (.ref e)) Q E s:=by
 unfold leaving;exact Aa (aHk frs fL F λh' F' up=>mH F' λh'' F'' up'=>k h'' F''.tail (up.trans up'))
end
structure Flx (P:Aw)(w:World)(outer:List Env)(H:Hp)(s:Gm)(H':Hp)(ea:Gj)(cls:Gk)(dd:Option Gj)(s':Gm):Prop where
 os:s'.os=s.os
 bare:AllBare s'.gens
 un:Un (frs outer) [] H H' s.heap s'.heap
 fl:∃ B:Heap,HOk P w H' B/\FlyD B outer ea cls dd .none s'.heap/\(∀ b o,s.heap.get? b=some o->H b=none->b∉frs outer->B.get? b=some o)/\(∀ b o,s.heap.get? b=some o->b∉frs outer->∃ o',B.get? b=some o')
def CXg (P:Aw)(w:World):CXT:=λouter H s E e s'=>∃ (ea C:Gj) (dd:Option Gj) (H':Hp),e=.ref ea/\Flx P w outer H s H' ea (.ref C) dd s'/\E (.ref C) dd H'
structure OwnF (X:Cx):Prop where
 stk:X.stack=X.env::X.outer
 fr:X.env.frame=some X.env.locals
 ex:X.ex=[]
section
variable {X:Cx}{U:Ge}{Z:St}{H H':Hp}{s s':Gm}
def rX (O:OwnF X)(I:Inv X U Z H s)(e:X.s₀.heap.get? b=some o)(hb:b∉frs X.outer):b∉frs X.stack:=by
 rw [O.stk];intro z;unfold frs at z hb;rw [CS,O.fr] at z
 rcases Ay.mp z with z|z
 ·exact absurd (AU (Ao e) I.ok.above) (by rw [z];exact Cw _)
 ·exact hb z
def aI9 (O:OwnF X)(hb:b∈frs X.outer):b∈frs X.stack:=by
 rw [O.stk];unfold frs at *
 rw [CS,O.fr];exact Ah _ hb
def aFz (O:OwnF X)(I:Inv X U Z H s){B h':Heap}(u:Un (frs X.stack) [] H H' s.heap s'.heap)(bk:∀ b o,X.s₀.heap.get? b=some o->X.H₀ b=none->b∉frs X.outer->B.get? b=some o)
  (th:∀ b o,X.s₀.heap.get? b=some o->b∉frs X.outer->∃ o',B.get? b=some o') (st:B.StaysIn h') (up:s'.heap.UpToSlots h'):Un (frs X.outer) [] X.H₀ H' X.s₀.heap h':=by
 have noex:∀ b:Gj,b∉X.ex:=λb z=>by rw [O.ex] at z;cases z
 have slot:∀ b o,X.s₀.heap.get? b=some o->X.H₀ b=none->b∈frs X.outer->∃ sl,h'.get? b=some { o with slots:=sl }:=λb o e n hb=>by
  obtain ⟨sl,e1⟩:=I.base.slot b o e n hb (noex b);have n1:=I.base.free b o e n (noex b);obtain ⟨sl2,e2⟩:=u.slot b _ e1 n1 (aI9 O hb) (by simp);obtain ⟨_,o',ho',hnf⟩:=I.ok.funs.mem hb;rw [e] at ho';cases ho';obtain ⟨sl3,e3⟩:=up b _ e2 (λvs q=>hnf vs q);exact ⟨sl3,e3⟩
 refine ⟨λb o e n hb _=>st b o (bk b o e n hb),λb o e n hb _=>slot b o e n hb,λb o e n _=>?_,λb o e _=>?_,λb xs e=>u.tups _ _ (I.base.tups _ _ e),λb o x e=>u.frzs _ _ _ (I.base.frzs _ _ _ e),λb ps e=>?_⟩
 ·obtain ⟨o1,e1⟩:=I.base.there b o e (noex b)
  exact u.free b o1 e1 (I.base.free b o e n (noex b)) (by simp)
 ·by_cases hb:b∈frs X.outer
  ·obtain ⟨sl,q⟩:=slot b o e (I.ok.frf b hb) hb
   exact ⟨_,q⟩
  ·obtain ⟨o2,e2⟩:=th b o e hb
   exact ⟨o2,st b o2 e2⟩
 ·obtain ⟨m1,e1⟩:=I.base.tbls b ps e
  obtain ⟨m2,e2⟩:=u.tbls _ _ e1;exact ⟨m1++m2,by rw [e2,Array.append_assoc]⟩
def aJf (I:Inv X U Z H s)(hea:H ea=none):HOk X.prog X.w H (hideAll s.heap (ea::frs X.stack)):=λa o e=>(I.hok a o e).stay (λb u hb q=>hideAll_get _ q λz=>by
 have n:H b=none:=by
  rcases Ay.mp z with z|z
  ·rw [z];exact hea
  ·exact I.stkFree b z
 rcases hb with hb|hb
 ·rw [<- hb] at e;rw [e] at n;cases n
 ·rw [hb] at n;cases n) (λ_ h=>h) (λ_ _ h=>h)
def zD (O:OwnF X)(I:Inv X U Z H s){ea C:Gj}{dd:Option Gj}{ob:Obj}{us:Array Gk}{E':Ga}{Q:Unit->Gm->Prop}(hea:H ea=none)(n0:X.s₀.heap.get? ea=none)(ge:s.heap.get? ea=some ob)
  (hc:ob.cls=.ref C) (hdd:ob.dict=dd) (du:ob.data=.fields us) (u1:us[1]?=some .none)
  (k:∀ h',Flx X.prog X.w X.outer X.H₀ X.s₀ H ea (.ref C) dd { s with heap:=h' }->Q () { s with heap:=h' }):wpAny (model X.prog X.w) X.A (leaving X.env (.ref ea)) Q E' s:=by
 have nfr:ea∉frs X.stack:=λz=>by
  obtain ⟨_,o',ho',hnf⟩:=I.stack.mem z;rw [ge] at ho';cases ho';exact hnf us du
 have hin:∀ env∈X.stack,∀ b,env.frame=some b->b∈ea::frs X.stack:=λenv he b hb=>Ah _ (List.mem_filterMap.mpr ⟨env,he,hb⟩);have hfr:X.A.frames=some (X.env::X.outer):=by rw [<- O.stk];exact I.ok.frames
 have hl:s.heap.FunFrames (hideAll s.heap (ea::frs X.stack)) (X.env::X.outer):=by rw [<- O.stk];exact funFrames_hide I.stack hin
 have nB:(hideAll s.heap (ea::frs X.stack)).get? ea=none:=hideAll_none _ (Ar ..);have bk:∀ b o,X.s₀.heap.get? b=some o->X.H₀ b=none->b∉frs X.outer->(hideAll s.heap (ea::frs X.stack)).get? b=some o:=λb o e n hb=>by
  refine hideAll_get _ (I.base.keep b o e n hb (by rw [O.ex];simp)) λz=>?_
  rcases Ay.mp z with z|z
  ·rw [z,n0] at e;cases e
  ·exact rX O I e hb z
 have th:∀ b o,X.s₀.heap.get? b=some o->b∉frs X.outer->∃ o',(hideAll s.heap (ea::frs X.stack)).get? b=some o':=λb o e hb=>by
  obtain ⟨o1,e1⟩:=I.base.there b o e (by rw [O.ex];simp);refine ⟨o1,hideAll_get _ e1 λz=>?_⟩
  rcases Ay.mp z with z|z
  ·rw [z,n0] at e;cases e
  ·exact rX O I e hb z
 refine aFe (base:=hideAll s.heap (ea::frs X.stack)) hfr hl O.fr ge (λb o q=>of_hideAll _ q) nB du u1 λh' F' up=>k h' ⟨I.os,I.bare,?_,hideAll s.heap (ea::frs X.stack),aJf I hea,by rw [<- hc,<- hdd];exact F',bk,th⟩;exact aFz (s':=s) O I Un.refl bk th F'.st up
def aH3 (O:OwnF X)(I:Inv X U Z H s){ea C:Gj}{dd:Option Gj}{E':Ga}{Q:Unit->Gm->Prop}(F:Flx X.prog X.w X.stack H s H' ea (.ref C) dd s')
  (k:∀ h',Flx X.prog X.w X.outer X.H₀ X.s₀ H' ea (.ref C) dd { s' with heap:=h' }->Q () { s' with heap:=h' }):wpAny (model X.prog X.w) X.A (leaving X.env (.ref ea)) Q E' s':=by
 obtain ⟨B,hok,fl,bk,th⟩:=F.fl;have hfr:X.A.frames=some (X.env::X.outer):=by rw [<- O.stk];exact I.ok.frames
 have fl':FlyD B (X.env::X.outer) ea (.ref C) dd .none s'.heap:=by rw [<- O.stk];exact fl
 have bk0:∀ b o,X.s₀.heap.get? b=some o->X.H₀ b=none->b∉frs X.outer->B.get? b=some o:=λb o e n hb=>
  bk b o (I.base.keep b o e n hb (by rw [O.ex];simp)) (I.base.free b o e n (by rw [O.ex];simp)) (rX O I e hb)
 have th0:∀ b o,X.s₀.heap.get? b=some o->b∉frs X.outer->∃ o',B.get? b=some o':=λb o e hb=>by
  obtain ⟨o1,e1⟩:=I.base.there b o e (by rw [O.ex];simp);exact th b o1 e1 (rX O I e hb)
 exact aHu hfr O.fr fl' λh' F' up=>k h' ⟨F.os.trans I.os,F.bare,aFz O I F.un bk0 th0 F'.st up,B,hok,F',bk0,th0⟩
end
abbrev cxF (P:Aw)(w:World)(K:Frag)(mg:Gb)(base:Heap)(N:Gh)(qual:Str)(scope:Scope)(f:Gj)(cd:Gk)(A:Around)(outer:List Env)(s:Gm)(H:Hp)(E:XK):Cx:=cxOf (CXg P w) P w K mg base N qual scope f cd A outer s H E
section
variable {P:Aw}{w:World}{K:Frag}{mg:Gb}{base:Heap}{N:Gh}{qual:Str}{scope:Scope}{f:Gj}{cd:Gk}{A:Around}{outer:List Env}{s:Gm}{H:Hp}{E:XK}
def wZ:OwnF (cxF P w K mg base N qual scope f cd A outer s H E):=⟨rfl,rfl,rfl⟩
def lG:hJ (CXg P w) (cxF P w K mg base N qual scope f cd A outer s H E) E:=by
 intro U Z Hc sc e s' I h;obtain ⟨ea,C,dd,H',rfl,F,hE⟩:=h;exact aH3 (X:=cxF P w K mg base N qual scope f cd A outer s H E) wZ I F λh' F'=>⟨ea,C,dd,H',rfl,F',hE⟩
def XeOk (X:Cx)(E:XK):Prop:=∀ (U:Ge) (Z:St) (H:Hp) (s:Gm) (ea C:Gj) (ob:Obj) (us:Array Gk),Inv X U Z H s->H ea=none->X.s₀.heap.get? ea=none->s.heap.get? ea=some ob->ob.cls=.ref C->ob.data=.fields us->us[1]?=some .none->E (.ref C) ob.dict H->X.xe (.ref ea) s
def xe_f:XeOk (cxF P w K mg base N qual scope f cd A outer s H E) E:=by
 intro U Z Hc sc ea C ob us I hea n0 ge hc du u1 hE;exact zD (X:=cxF P w K mg base N qual scope f cd A outer s H E) wZ I hea n0 ge hc rfl du u1 λh'' F'=>⟨ea,C,ob.dict,Hc,rfl,F',hE⟩
def Fun.okF {x:Str}{st:Stmt}{fd:Az}{ps:Gh}{k:Nat}{sp:Sp}(F:Fun K x qual st f fd)(S:FnScope N ps (aH st))(len:∀ vs H Q E,sp vs H Q E->vs.length=ps.length)
  (hbody:∀ (cdv:Gk) (A:Around) (outer:List Env) (s:Gm) (H:Hp) (vs:Gq) (Q:VK) (E:XK),Room k (A.deeper (envOfC qual (aH st) s.heap.objs.size f cdv))->sp vs H Q E ->
   ∃ t,PSs (cxF P w K mg base N qual (aH st) f cdv A outer s H E) (dR st) t/\t { nx:=λ_ H'=>Q .non H',rt:=Q } (start N vs) H):FnOk P w K mg base (CXg P w) (k+1) f fd ps sp:=by
 obtain ⟨oc,od,kV,doc,pm,an,cdv,ct,osl,rfl,lk,hcd⟩:=F.ex;exact aH2 lk hcd S len λA outer s H vs Q E hr hsp=>hbody cdv A outer s H vs Q E hr hsp
def Fun.okFA {x:Str}{st:Stmt}{fd:Az}{ps:Gh}{k:Nat}{sp:Sp}(F:Fun K x qual st f fd)(S:FnScope N ps (aH st))
    (hbody:∀ (cdv:Gk) (A:Around) (outer:List Env) (s:Gm) (H:Hp) (vs:Gq) (Q:VK) (E:XK),Room k (A.deeper (envOfC qual (aH st) s.heap.objs.size f cdv))->sp vs H Q E ->
      ∃ t,PSs (cxF P w K mg base N qual (aH st) f cdv A outer s H E) (dR st) t/\t { nx:=λ_ H'=>Q .non H',rt:=Q } (start N vs) H) (len:∀ vs H Q E,sp vs H Q E->vs.length=ps.length:=by intro _ _ _ _ h;first|(cases h;subst_vars;rfl)|(repeat (first|(obtain ⟨rfl,_⟩:=h;rfl)|(obtain ⟨_,h⟩:=h)))):FnOk P w K mg base (CXg P w) (k+1) f fd ps sp:=F.okF S len hbody
end
structure CtK (K:Frag)(D:Gj):Prop where
 ty:typeIn K (.ref D)=some (.type "type")
 ci:(clsIn K D).isSome=true
 sb:subIn K (.ref D) (.type "BaseException")=some true
def qJ {M:Model}{A:Around}{E:Ga}{h:Heap}{g:Array GenState}{d:Drawn}{t:Nat}{os:OsState}{e C D:Gj}{o:Obj}{K:Frag}{Q:Bool->Gm->Prop}(X:K.In h)(I:ExAt h e o C)(F:CtK K D)(hs:subIn K (.ref C) (.ref D)=some true)
  (hq:Q true ⟨h,g,d,t,os⟩):wpAny M A (excMatches (.ref e) (.ref D)) Q E ⟨h,g,d,t,os⟩:=by
 have L1:=looks_typeIn (M:=M) X F.ty;have L2':Looks M h (isType (.ref D)) true:=by
  have hcD:=F.ci;unfold clsIn at hcD;split at hcD
  ·rename_i c' d' cd' sl' ho
   intro A' Q' E' s' k q;unfold isType loadHead;exact Aa (wpAny_loadPart (k _ _ (X _ _ ho)) (Ag q))
  ·cases hcD
 have L3:=looks_subIn (M:=M) X F.sb;have L4:=looks_subIn (M:=M) X hs;have L5:=I.type (M:=M);have f:=tc_notTuple;unfold excMatches isInstance
 repeat (first|with_reducible refine L1.at ?_|with_reducible refine L2'.at ?_|with_reducible refine L3.at ?_|with_reducible refine L4.at ?_|with_reducible refine L5.at ?_|wp_step)
 exact hq
abbrev bmV:Gi:=[.type "ValueError",.type "Exception",.type "BaseException",.type "object"]
structure ClsObj (h:Heap)(C:Gj)(bmB:Gi)(newId:String):Prop where
 ex:∃ (nm q:Str) (N:Gj) (bs bm:Gi) (hdct:Bool) (sn:Gh) (sub:Gi) (ab:Bool) (col:Option Bool) (dd:Option Gj) (k0 k1 k2 k3 k5:Option Gk) (mN:Gb),
  h.get? C=some (excClassObj nm q C N bs bm hdct sn sub ab col dd k0 k1 k2 k3 k5 newId)/\h.Ns N mN/\mN "__init__" = none/\OwnTail h bmB bm
def excD (a C:Gj)(dd:Option Gj):HO:=.ext λh=>∃ o,ExAt h a o C/\o.dict=dd/\∃ us,o.data=.fields us
def Inv.absent0 {Z:St}(I:Inv X U Z H s)(hex:X.ex=[])(n:s.heap.get? e=none):X.s₀.heap.get? e=none:=by
 cases q:X.s₀.heap.get? e with
 |none=>rfl
 |some o=>
  obtain ⟨ob,z⟩:=I.base.there e o q (by rw [hex];simp);rw [n] at z;cases z
def tRaise (C:Gj)(E:XK)(t:TA):TS:=λ_ Z H=>t Z H λvs H1=>vs.length<=Au/\E (.ref C) none H1
section
variable {X:Cx}
inductive rIsiY (K:Ab)(xs:Gq)(H:Hp)(Q:VK):Prop
 |mk (a C:Gj) (dd:Option Gj) (c:Gk) (v:V) (b:Bool) (e:xs=[.ref a,v]) (i:H a=some (excD a C dd)) (x:ExK K C) (r:RelV v c) (k:kitOne K (.ref C) c=some b) (h:Q (.bl b) H)
end
abbrev Cx.within (X:Cx)(v:Gk):Cx:={ X with A:=X.A.mark (some v),calm:=false,xe:=λ_ _=>False }
abbrev Cx.trying (X:Cx)(U:Ge)(E:Ga):Cx:={ X with pn:=X.pn++U,xe:=E }
section
variable {X:Cx}{U:Ge}{Z:St}{H H':Hp}{s s':Gm}
def Inv.within (I:Inv X U Z H s)(v:Gk):Inv (X.within v) U Z H s:=
 ⟨⟨I.ok.mod,I.ok.kind,I.ok.glob,I.ok.blt,I.ok.above,I.ok.inj,I.ok.has,I.ok.cab,(λh=>(by cases h)),I.ok.frames,I.ok.stk,I.ok.exf,I.ok.bs,I.ok.bsz,I.ok.noex,I.ok.exfs,I.ok.funs,I.ok.frf⟩,I.os,I.bare,I.base,I.loc,I.cell,I.free,I.freeC,I.pin,I.hok,I.len⟩
def Inv.without (ok:X.Ok)(I:Inv (X.within v) U Z H s):Inv X U Z H s:=⟨ok,I.os,I.bare,I.base,I.loc,I.cell,I.free,I.freeC,I.pin,I.hok,I.len⟩
def Inv.trying (I:Inv X U Z H s)(E:Ga):Inv (X.trying U E) [] Z H s:=
 ⟨⟨I.ok.mod,I.ok.kind,I.ok.glob,I.ok.blt,I.ok.above,I.ok.inj,I.ok.has,I.ok.cab,I.ok.hd,I.ok.frames,I.ok.stk,I.ok.exf,I.ok.bs,I.ok.bsz,I.ok.noex,I.ok.exfs,I.ok.funs,I.ok.frf⟩,I.os,I.bare,I.base,I.loc,I.cell,I.free,I.freeC,λp hp=>I.pin p (by rwa [BX] at hp),I.hok,I.len⟩
def Inv.tried (I:Inv (X.trying U E) pl Z H s):Inv X U Z H s:=
 ⟨⟨I.ok.mod,I.ok.kind,I.ok.glob,I.ok.blt,I.ok.above,I.ok.inj,I.ok.has,I.ok.cab,I.ok.hd,I.ok.frames,I.ok.stk,I.ok.exf,I.ok.bs,I.ok.bsz,I.ok.noex,I.ok.exfs,I.ok.funs,I.ok.frf⟩,I.os,I.bare,I.base,I.loc,I.cell,I.free,I.freeC,λp hp=>I.pin p (List.mem_append_left _ hp),I.hok,I.len⟩
def SP.tried (h:SP (X.trying U E) [] D f s):SP X U D f s:=by
 cases f with
 |next=>obtain ⟨Z',H',I,q⟩:=h;exact ⟨Z',H',I.tried,q⟩
 |brk=>obtain ⟨Z',H',I,q⟩:=h;exact ⟨Z',H',I.tried,q⟩
 |cont=>obtain ⟨Z',H',I,q⟩:=h;exact ⟨Z',H',I.tried,q⟩
 |ret u=>obtain ⟨v,Z',H',I,r,q⟩:=h;exact ⟨v,Z',H',I.tried,r,q⟩
def Inv.track (I:Inv X U Z H s)(hn:H a=none)(h0:X.s₀.heap.get? a=none)(hL:a≠X.env.locals)(hc:∀ x c,X.env.cells.lookup x=some c->c≠a)(hp:∀ p∈X.pn++U,p.1≠a)(ok:ObjOk X.prog X.w (upd H a u) s.heap a u):Inv X U Z (upd H a u) s:=by
 have old:∀ b o,X.s₀.heap.get? b=some o->b≠a:=λb o e z=>by rw [z,h0] at e;cases e
 have trk:∀ b o,H b=some o->b≠a:=λb o e=>bB e hn;refine ⟨I.ok,I.os,I.bare,⟨I.base.keep,I.base.slot,λb o e n hx=>?_,I.base.there,λb xs e=>?_,λb o x e=>?_,λb ps e=>?_⟩,I.loc,I.cell,?_,λx c e=>?_,λp q=>?_,λb o e=>?_,I.len⟩
 ·rw [aK (old b o e)]
  exact I.base.free b o e n hx
 ·have z:=I.base.tups b xs e
  rw [aK (trk _ _ z)];exact z
 ·have z:=I.base.frzs b o x e
  rw [aK (trk _ _ z)];exact z
 ·obtain ⟨m,z⟩:=I.base.tbls b ps e
  exact ⟨m,by rw [aK (trk _ _ z)];exact z⟩
 ·rw [aK (Bi hL)]
  exact I.free
 ·rw [aK (hc x c e)]
  exact I.freeC x c e
 ·obtain ⟨a1,a2,a3⟩:=I.pin p q
  exact ⟨a1,by rw [aK (hp p q)];exact a2,a3⟩
 ·by_cases hb:b=a
  ·subst hb
   rw [aB] at e;cases e;exact ok
  ·rw [aK hb] at e
   exact (I.hok b o e).stay (λ_ _ _ q=>q) (λc q=>by rw [aK (trk _ _ q)];exact q) (λc xs q=>by rw [aK (trk _ _ q)];exact q)
def aDk (I:Inv X U Z H s){B h':Heap}(u:Un (frs X.stack) [] H H' s.heap s'.heap)(bk:∀ b o,s.heap.get? b=some o->H b=none->b∉frs X.stack->B.get? b=some o)
  (th:∀ b o,s.heap.get? b=some o->b∉frs X.stack->∃ o',B.get? b=some o') (st:B.StaysIn h') (up:s'.heap.UpToSlots h'):Un (frs X.stack) [] H H' s.heap h':=by
 have slot:∀ b o,s.heap.get? b=some o->H b=none->b∈frs X.stack->∃ sl,h'.get? b=some { o with slots:=sl }:=λb o e n hb=>by
  obtain ⟨sl,e1⟩:=u.slot b o e n hb (by simp);obtain ⟨_,o',ho',hnf⟩:=I.stack.mem hb;rw [e] at ho';cases ho';obtain ⟨sl3,e3⟩:=up b _ e1 (λvs q=>hnf vs q);exact ⟨sl3,e3⟩
 refine ⟨λb o e n hb _=>st b o (bk b o e n hb),λb o e n hb _=>slot b o e n hb,u.free,λb o e _=>?_,u.tups,u.frzs,u.tbls⟩
 by_cases hb:b∈frs X.stack
 ·obtain ⟨sl,q⟩:=slot b o e (I.stkFree b hb) hb
  exact ⟨_,q⟩
 ·obtain ⟨o2,e2⟩:=th b o e hb
  exact ⟨o2,st b o2 e2⟩
def tTry (K:Frag)(N j:Nat)(Dc:Gj)(tb:XK->TS):TS:=λD Z H=>tb (λcls dd H'=>∃ C,cls=.ref C/\ExK K C/\subIn K (.ref C) (.ref Dc)=some true/\∀ a,H' a=none->D.nx ((Cm N none).set j (some (.ref a))) (upd H' a (excD a C dd))) D Z H
end
def xiIn (K:Frag)(C P f:Gj):Bool:=match K.lookup C with
 |some ⟨.type "type",_,.cls cd,sl⟩=>(match cd.mro,sl.toList with
  |.ref C'::.ref P'::bm,[_,_,_,_,some (.builtin n),_]=>C'==C&&P'==P&&n == "ValueError.__new__" && !cd.hasDel&&cd.hasDict&&tailIn K bmV (.ref P'::bm)&&nsOkIn K cd.ns&&nsIn K cd.ns "__init__" == some (some (.ref f))&&bm==bmV
  |_,_=>false)
 |_=>false
structure ClsI (h:Heap)(C P f:Gj):Prop where
 ex:∃ (nm q:Str) (N:Gj) (bs:Gi) (sn:Gh) (sub:Gi) (ab:Bool) (col:Option Bool) (dd:Option Gj) (k0 k1 k2 k3 k5:Option Gk) (mN:Gb),
  h.get? C=some (excClassObj nm q C N bs (.ref P::bmV) true sn sub ab col dd k0 k1 k2 k3 k5 "ValueError.__new__")/\h.Ns N mN/\mN "__init__" = some (.ref f)/\OwnTail h bmV (.ref P::bmV)
def iN {K:Frag}{h:Heap}{N:Gj}{x:Str}{v:Gk}(X:K.In h)(hok:nsOkIn K N=true)(e:nsIn K N x=some (some v)):h.nsMap N x=some v:=by
 have G:h.Ns N (h.nsMap N):=.of_isNs (isNs_of_in X hok);obtain ⟨o,es,ep,ho,hd,_,hf⟩:=G;unfold nsIn at e;split at e
 ·rename_i c d es' n' sl q
  have z:=X _ _ q;rw [ho] at z;cases z;cases hd;split at e
  ·rename_i en he
   cases e;rw [<- hf];unfold nsFind findBy;rw [<- Array.find?_toList,he];rfl
  ·split at e<;>cases e
 ·cases e
def mQ {K:Frag}{h:Heap}{C P f:Gj}(X:K.In h)(q:xiIn K C P f=true):ClsI h C P f:=by
 unfold xiIn at q;split at q
 case h_2=>cases q
 case h_1 dd cd sl ho=>
  split at q
  case h_2=>cases q
  case h_1 C' P' bm k0 k1 k2 k3 n k5 hm hs=>
   simp only [BG,beq_iff_eq,Bool.not_eq_true'] at q;obtain ⟨⟨⟨⟨⟨⟨⟨⟨e1,e0⟩,e2⟩,hdel⟩,hdi⟩,ht⟩,hok⟩,hni⟩,e3⟩:=q;cases e1;cases e0;cases e2;cases e3;obtain ⟨nm,bs,mro,ns,qn,hd,sn,sub,ab,col,del⟩:=cd;obtain ⟨sl⟩:=sl;dsimp only at hm hdel hok hni hs hdi;subst hm hdel hs hdi;exact ⟨nm,qn,ns,bs,sn,sub,ab,col,dd,k0,k1,k2,k3,k5,_,X _ _ ho,.of_isNs (isNs_of_in X hok),iN X hok hni,tail_of_in X ht⟩
section
variable {prog:Aw}{w:World}{A:Around}{E:Ga}{h:Heap}{g:Array GenState}{d:Drawn}{t:Nat}{os:OsState}{K:Frag}{C P f:Gj}
abbrev gY (h:Heap)(C:Gj)(rest:Gi):Heap:=(h.push { cls:=.type "tuple",data:=.seq rest.toArray }).push { cls:=.ref C,data:=.fields #[.ref h.objs.size,.none,.none,.none,.bool false,.none] }
def mI {rest:Gi}(X:K.In h)(I:ClsI h C P f)(hf:typeIn K (.ref f)=some (.type "function"))(hrest:rest.length<=Au)(hq:Ey (model prog w) A (.call (.ref f) ⟨.ref (h.objs.size+1)::rest,[]⟩) (λr s'=>match r with
   |.ok (.ret v)=>v=.none/\Q (.done (.ret (.ref (h.objs.size+1)))) s'
   |.ok _=>False
   |.error e=>E e s') ⟨gY h C rest,g,d,t,os⟩) :
  wpAny (model prog w) A (AG.«type.__call__» ⟨.ref C::rest,[]⟩) Q E ⟨h,g,d,t,os⟩:=by
 obtain ⟨nm,q,N,bs,sn,sub,ab,col,dd,k0,k1,k2,k3,k5,mN,hC,hn,hni,T⟩:=I.ex;have F:=PySem.F.excBase_ValueError
 repeat (first|with_reducible refine Cz hC ?_|with_reducible refine wpAny_madeBy_exc hC ?_|wp_step)
 refine codeAny_call_builtin_code (Et _ F.quiet) (wpAny_check_new_subU F F.hasB T hC ?_);refine codeAny_exc_new_subU F F.hasB F T hC ?_ hrest;show wpAny _ _ _ _ _ _;have keep:∀ b o,h.get? b=some o->(gY h C rest).get? b=some o:=λb o e=>Ac _ (Ac _ e);have hC1:=keep _ _ hC;have hn1:(gY h C rest).Ns N mN:=hn.keeps keep;have hget:(gY h C rest).get? (h.objs.size+1)=some { cls:=.ref C,data:=.fields #[.ref h.objs.size,.none,.none,.none,.bool false,.none] }:=by unfold gY;heap_get
 have hcC:(AC C::AC P::bmV).contains (.ref C)=true:=by simp
 have T1:=T.keeps keep;have B1:=bind_fn (M:=model prog w) (X.keeps keep) (.ref (h.objs.size+1)) hf;unfold isInstance
 repeat (first|with_reducible refine Cz hget ?_|(with_reducible refine wpAny_isSubtype_exc hC1 ?_;rw [hcC])|wp_step)
 show wpAny _ _ (typeLookup (.ref C) _) _ _ _;refine wpAny_typeLookup_tail hC1 hn1 T1 F.mroIs F.init.lookup ?_;rw [hni];refine Br (Aa (B1.at ?_));refine Aa (EA (Ck hq λr s' z=>?_));cases r with
 |error e=>exact z
 |ok fl=>
  cases fl with
  |ret v=>
   obtain ⟨rfl,z⟩:=z;exact Ag (Ag z)
  |next=>exact z.elim
  |brk=>exact z.elim
  |cont=>exact z.elim
def aB0 {rest:Gi}(X:K.In h)(I:ClsI h C P f)(hf:typeIn K (.ref f)=some (.type "function"))(hrest:rest.length<=Au)(hq:Ey (model prog w) (A.under (.builtin "type.__call__" ⟨.ref C::rest,[]⟩)) (.call (.ref f) ⟨.ref (h.objs.size+1)::rest,[]⟩) (InitBack (h.objs.size+1) R) ⟨gY h C rest,g,d,t,os⟩) :
  Ey (model prog w) A (.call (.ref C) ⟨rest,[]⟩) R ⟨h,g,d,t,os⟩:=by
 obtain ⟨nm,q,N,bs,sn,sub,ab,col,dd,k0,k1,k2,k3,k5,mN,hC,hn,hni,T⟩:=id I.ex;have f1:=tc_lookup;have f2:=tc_bind (.ref C);have hT:(⟨h,g,d,t,os⟩:Gm).TypeIs (.ref C) "type":=⟨_,hC,rfl⟩;refine Fu ?_;show wpAny _ _ (callAny (.ref C) _) _ _ _
 repeat (any_goals (first|assumption|with_reducible refine Cz hC ?_|wp_step))
 refine ⟨rfl,?_⟩;refine codeAny_call_builtin_at (Et _ (by decide +kernel)) entry_typeCall (wpAny_check_type_call_sub hC (mI X I hf hrest (Ck hq λr s' z=>?_)));cases r with
 |error e=>exact z
 |ok fl=>
  cases fl with
  |ret v=>exact z
  |next=>exact z.elim
  |brk=>exact z.elim
  |cont=>exact z.elim
end
def exN (a C:Gj)(dd:Option Gj):HO:=.ext λh=>∃ o t,(h.get? a=some o/\o.cls=.ref C/\o.dict=dd)/\o.data=.fields #[t,.none,.none,.none,.bool false,.none]
def rem (H:Hp)(a:Gj):Hp:=λb=>if b=a then none else H b
theorem nI (h:b≠a):rem H a b=H b:=by unfold rem;rw [if_neg h]
theorem lZ :rem H a a=none:=by unfold rem;rw [if_pos rfl]
section
variable {X:Cx}{U:Ge}{Z:St}{H:Hp}{s:Gm}
def Inv.drop (I:Inv X U Z H s){φ:Heap->Prop}(ha:H a=some (.ext φ)):Inv X U Z (rem H a) s:=by
 have nn:∀ b,H b=none->rem H a b=none:=λb h=>by
  by_cases z:b=a
  ·rw [z];exact lZ
  ·rw [nI z];exact h
 have oo:∀ b o,H b=some o->(∀ ψ,o≠.ext ψ)->rem H a b=some o:=λb o h n=>by
  by_cases z:b=a
  ·subst z;rw [h] at ha;cases ha;exact absurd rfl (n φ)
  ·rw [nI z];exact h
 refine ⟨I.ok,I.os,I.bare,⟨I.base.keep,I.base.slot,λb o e n hx=>nn b (I.base.free b o e n hx),I.base.there,λb xs e=>oo b _ (I.base.tups b xs e) (λ_ z=>by cases z),λb o x e=>oo b _ (I.base.frzs b o x e) (λ_ z=>by cases z),λb ps e=>?_⟩,I.loc,I.cell,nn _ I.free,λx c e=>nn _ (I.freeC x c e),λp hp=>?_,λb o e=>?_,I.len⟩
 ·obtain ⟨m,z⟩:=I.base.tbls b ps e
  exact ⟨m,oo b _ z (λ_ q=>by cases q)⟩
 ·obtain ⟨a1,a2,a3⟩:=I.pin p hp
  exact ⟨a1,nn _ a2,a3⟩
 ·by_cases z:b=a
  ·rw [z,lZ] at e;cases e
  ·rw [nI z] at e
   exact (I.hok b o e).stay (λ_ _ _ q=>q) (λc q=>oo c _ q (λ_ z=>by cases z)) (λc xs q=>oo c _ q (λ_ z=>by cases z))
def Inv.exnew (I:Inv X U Z H s)(C:Gj)(us:Gi):Inv X U Z (upd H (s.heap.objs.size+1) (exN (s.heap.objs.size+1) C none)) { s with heap:=gY s.heap C us }:=by
 refine I.laid (a:=s.heap.objs.size+1) (t':=s.toks) (λb u e=>Ac _ (Ac _ e)) (Dj _) ?_;have hget:(gY s.heap C us).get? (s.heap.objs.size+1)=some { cls:=.ref C,data:=.fields #[.ref s.heap.objs.size,.none,.none,.none,.bool false,.none] }:=by unfold gY;heap_get
 exact ⟨⟨_,_,⟨hget,rfl,rfl⟩,rfl⟩,⟨_,hget⟩,λh1 h2 ⟨o,t,⟨e1,e2,e3⟩,e4⟩ k=>⟨o,t,⟨k o e1,e2,e3⟩,e4⟩⟩
def uB {M:Model}{A:Around}{E:Ga}{env:Env}{x:Sem Gk}{C:Gj}{K:Frag}{s:Gm}{Q:Flow->Gm->Prop}(hh:A.handled=none)(F:ExK K C)(hk:∃ oC,K.lookup C=some oC/\oC.cls=.type "type")
  (h:wpAny M A x (λv s₁=>K.In s₁.heap/\∃ e ob us,v=.ref e/\s₁.heap.get? e=some ob/\ob.cls=.ref C/\ob.data=.fields us/\us[1]?=some .none/\E (.ref e) s₁) E s):wpAny M A (raiseStmt env (some x) none) Q E s:=by
 unfold raiseStmt;refine Aa (BR h (λv s₁ h₁=>?_) λ_ _ x=>x);obtain ⟨KX,e,ob,us,rfl,he,hc,hd,h1,hE⟩:=h₁;obtain ⟨hp,g,d,tk,os⟩:=s₁;have L1:=looks_subIn (M:=M) KX F.sb;obtain ⟨⟨cC,dC,tC,sC⟩,hkC,hkc⟩:=hk;have hC:=KX _ _ hkC;dsimp only at hkc;subst hkc;obtain ⟨oc,od,odt,osl⟩:=ob;dsimp only at hc hd;subst hc hd;have h1':=h1
 repeat (first|with_reducible refine Cz he ?_|with_reducible refine Cz hC ?_|with_reducible refine L1.at ?_|wp_step)
 rw [h1];refine Ag ?_;rw [if_neg (by decide)];exact Ag (wpAny_raiseNew_none hh hE)
end
def aAk {K:Frag}{C P f:Gj}(q:xiIn K C P f=true):∃ oC,K.lookup C=some oC/\oC.cls=.type "type":=by
 unfold xiIn at q;split at q
 ·rename_i ho
  exact ⟨_,ho,rfl⟩
 ·cases q
structure ExI (K:Frag)(C P f:Gj):Prop where
 xi:xiIn K C P f=true
 fn:typeIn K (.ref f)=some (.type "function")
 kp:keepIn K (.ref C)=true
 k:ExK K C
def aDn (C:Gj)(sp:Sp)(E:XK)(t:TA):TS:=λ_ Z H=>t Z H λvs H1=>vs.length<=Au/\∀ e,H1 e=none ->
 sp (.ref e::vs) (upd H1 e (exN e C none)) (λv H2=>v=.non/\∃ dd,H2 e=some (exN e C dd)/\E (.ref C) dd (rem H2 e)) E0
section
variable {X:Cx}
def eS {x:Str}{C P f:Gj}{fd:Az}{ps:Gh}{sp:Sp}{k:Nat}{e₀:Expr}{es:List Expr}{t:TA}{E:XK}{np cpos pos:Pos}(hex:X.ex=[])(hX:XeOk X E)(hc:X.calm=true)(hr:Room (k+1) X.A)(hg:Gl X x)(hm:X.mg x=some (.ref C))(hei:ExI X.K C P f)
  (F:FnOk X.prog X.w X.K X.mg X.base CX0 k f fd ps sp) (hb:Binds X.K fd ps []) (ha:PA X (e₀::es) t)
  (hdb:(x==("__debug__":Str))=false:=by decide) (he:AL (e₀::es) X.env=(false,eval e₀ X.env)::AL es X.env:=by rfl) (hpl:(backTo cpos (AL es X.env)).any (·.1)=false:=by rfl) :
  PS X (.Raise (some (.Call (.Name x np) (e₀::es) [] cpos)) none pos) (aDn C sp E t):=by
 intro U s Z H D I h;rw [arm_exec_Raise];refine Aa (Fn (uB (C:=C) (K:=X.K) (I.ok.hd hc) hei.k (aAk hei.xi) ?_));refine Aa (thn (Q:=λv s₁=>X.K.In s₁.heap/\∃ e ob us,v=AC e/\s₁.heap.get? e=some ob/\ob.cls=.ref C/\ob.data=.fields us/\us[1]?=some .none/\X.xe (.ref e) s₁) ?_ λv s1 q=>Aa (Fn (Ag q)));refine Dm (fV I hg hm ?_ hdb);refine Ek (h₀:=X.base) I.ok.mod.kin hei.kp (thn (ha cpos U s Z H _ I h) λus s1 ⟨vs,H1,I1,r,hl,q⟩=>⟨I1.kIn,?_⟩) he hpl;have hn:H1 (s1.heap.objs.size+1)=none:=I1.hok.fresh (Dj _);have hq:=q (s1.heap.objs.size+1) hn;have I2:=I1.exnew C us;have r2:Vals (V.ref (s1.heap.objs.size+1)::vs) (AC (s1.heap.objs.size+1)::us):=.cons rfl r;have hlen:(AC (s1.heap.objs.size+1)::us++[]).length=ps.length:=by
  have e:=r2.length;rw [F.len _ _ _ _ hq] at e;rw [BX];exact e.symm
 have n0:X.s₀.heap.get? (s1.heap.objs.size+1)=none:=I1.absent0 hex (Heap.get?_none_of_le (Dj _));obtain ⟨hh,g,d,tk,os⟩:=s1;refine EA (aB0 (f:=f) (P:=P) I1.kIn (mQ I1.kIn hei.xi) hei.fn (by show us.length<=Au;rw [<- r.length];exact hl) (Ck (F.run _ X.stack _ _ ⟨AC (hh.objs.size+1)::us,[]⟩ (AC (hh.objs.size+1)::us) _ _ E0 (hr.make C us [])
  (I2.env0.make C us []) (by have z:=hb _ (AC (hh.objs.size+1)::us) I2.kIn hlen;rw [BX] at z;exact z) r2 hq) λr s' hq'=>?_))
 cases r with
 |error e=>exact hq'.elim
 |ok fl=>
  cases fl with
  |ret u=>
   obtain ⟨v,H',I3,rv,ev,dd,hd,hE⟩:=I2.after hq';subst ev;refine ⟨rv,?_⟩;obtain ⟨⟨o,t',⟨o1,o2,o3⟩,o4⟩,_⟩:=I3.hok _ _ hd;exact ⟨I3.kIn,_,o,_,rfl,o1,o2,o4,rfl,hX U Z _ s' _ C o _ (I3.drop hd) lZ n0 o1 o2 o4 rfl (by rw [o3];exact hE)⟩
  |next=>exact hq'.elim
  |brk=>exact hq'.elim
  |cont=>exact hq'.elim
end
end L2
namespace L2
open PySem PySem.Spec PyProof.Rows PySem.W PySem.Builtin PySem.Builtin.ObjectAttr
theorem uA (self:Gk):refuseLoop self "__setattr__" bmV=pure ():=by
 kernel_rfl
section
variable {prog:Aw}{w:World}{A:Around}{E:Ga}{h:Heap}{g:Array GenState}{d:Drawn}{t:Nat}{os:OsState}{K:Frag}{C P f a:Gj}{o:Obj}{name:Str}{v:Gk}
def iK (X:K.In h)(I:ClsI h C P f)(F:ExK K C)(sa:findIn K (.ref C) "__setattr__" = some (some (.builtin "object.__setattr__")))(nn:findIn K (.ref C) name=some none)(O:ExAt h a o C)(hq:∀ A' tk,wpAny (model prog w) A' (storeInOwnDict (.ref a) (.ref C) (.str name tk) name v false) (λfin s'=>∃ u,fin=.done (.ret u)/\Q () s') (λ_ _=>False) ⟨h,g,d,t+1,os⟩) :
  wpAny (model prog w) A (setAttr (.ref a) name v) Q E ⟨h,g,d,t,os⟩:=by
 obtain ⟨nm,q,N,bs,sn,sub,ab,col,dd,k0,k1,k2,k3,k5,mN,hC,hn,hni,T⟩:=I.ex;have SF:=PySem.F.store_object;have L1:=O.type (M:=model prog w);have L2':=looks_findIn (M:=model prog w) X sa;have L3:=looks_findIn (M:=model prog w) X nn;have L4:Looks (model prog w) h (isInstance (.ref a) (.type "object")) true:=L1.andThen (looks_subIn X F.so);refine Aa (wpAny_mkText (Aa (Aa (Aa (L1 _ _ _ _ (λ_ _ e=>e) (L2' _ _ _ _ (λ_ _ e=>e) (Br ?_)))))));rw [SF.slot.bind];refine Aa (Ag (Aa (EA ?_)));refine Ej SF.slot.plain SF.entry (@check_slot (model prog w) _ _ _ "object.__setattr__" "object" "__setattr__" (.ref a) [.str name t,v] [] _ SF.kind SF.split L4 (SF.args (.ref a) (.str name t) v) ?_);show wpAny _ _ (AG.«object.__setattr__» ⟨[.ref a,.str name t,v],[]⟩) _ _ _;rw [osa_eq,refuse_eq];refine Aa (Aa (L1.here (Aa (wpAny_mroOf_exc hC ?_))));rw [refuseLoop_ref,refuseLoop_ref,uA];refine Ag (Aa (L1.here (Aa (L3.here (Aa (Ag ?_))))));refine BR (hq _ t) (λfin s' z=>?_) λ_ _ z=>z.elim;obtain ⟨u,rfl,z⟩:=z;exact Ag (Ag z)
def yV (I:ClsI h C P f)(O:ExAt h a o C)(hd:o.dict=none)(hf:o.data=.fields us)(hq:Q (some h.objs.size) ⟨(h.push { cls:=.type "dict",data:=.dict #[] }).update a λob=>{ ob with dict:=some h.objs.size },g,d,t,os⟩):wpAny (model prog w) A (instanceDict a true) Q E ⟨h,g,d,t,os⟩:=by
 obtain ⟨nm,q,N,bs,sn,sub,ab,col,dd,k0,k1,k2,k3,k5,mN,hC,hn,hni,T⟩:=I.ex;have hx:=O.at_;obtain ⟨oc,od,odt,osl⟩:=o;have hc:=O.cls;dsimp only at hd hf hc;subst hd hf hc;have hx1:(h.push { cls:=.type "dict",data:=.dict #[] }).get? a=some ⟨.ref C,none,.fields us,osl⟩:=Ac _ hx;unfold instanceDict
 repeat (first|with_reducible refine Cz hx ?_|with_reducible refine Cz hC ?_|wp_step)
 exact hq
def yU (I:ClsI h C P f)(O:ExAt h a o C)(hd:o.dict=some dx)(hq:Q (some dx) ⟨h,g,d,t,os⟩)(b:Bool):wpAny (model prog w) A (instanceDict a b) Q E ⟨h,g,d,t,os⟩:=by
 obtain ⟨nm,q,N,bs,sn,sub,ab,col,dd,k0,k1,k2,k3,k5,mN,hC,hn,hni,T⟩:=I.ex;have hx:=O.at_;obtain ⟨oc,od,odt,osl⟩:=o;have hc:=O.cls;dsimp only at hd hc;subst hd hc;unfold instanceDict
 repeat (first|with_reducible refine Cz hx ?_|with_reducible refine Cz hC ?_|wp_step)
 exact hq
def rC {tk:Tok}(hn:h.Ns1 dx mA)(hw:Within mA ns)(hz:ns.length<=100)(hq:∀ h' tk',h'.Ns1 dx (λy=>if y=name then some v else mA y)->(∀ b ob,b≠dx->h.get? b=some ob->h'.get? b=some ob)->Q (.done (.ret .none)) ⟨h',g,d,tk',os⟩) :
  wpAny (model prog w) A (storeInDict dx (.str name tk) name v) Q E ⟨h,g,d,t,os⟩:=by
 unfold storeInDict newKeyGuard;refine Aa (Ag (Aa (wpAny_nsSet1 hn λh' hn' hs=>?_)));obtain ⟨oD,esD,epD,hoD,hdD,hcD⟩:=hn'.count (Within.cons name v hw);refine Aa (wpAny_lookBehind hoD (by rw [hdD];exact pastItsLine_dict (AR hcD (by rw [AX,sizeLine_eq];lia))) ?_);exact Ag (hq h' _ hn' λb ob nb q=>(hs.2 b nb).trans q)
def qH (X:K.In h)(I:ClsI h C P f)(F:ExK K C)(sa:findIn K (.ref C) "__setattr__" = some (some (.builtin "object.__setattr__")))(nn:findIn K (.ref C) name=some none)(O:ExAt h a o C)(hd:o.dict=none)(hf:o.data=.fields us)(hq:∀ h' tk,h'.Ns1 h.objs.size (λy=>if y=name then some v else none)->h'.get? a=some { o with dict:=some h.objs.size }->(∀ b ob,b≠a->h.get? b=some ob->h'.get? b=some ob)->Q () ⟨h',g,d,tk,os⟩) :
  wpAny (model prog w) A (setAttr (.ref a) name v) Q E ⟨h,g,d,t,os⟩:=by
 refine iK X I F sa nn O λA' tk=>?_;have hx:=O.at_;have ne:a≠h.objs.size:=As (Ao hx);have hx1:(h.push { cls:=.type "dict",data:=.dict #[] }).get? a=some o:=Ac _ hx;unfold storeInOwnDict;refine Aa (Ag ?_);show wpAny _ _ (ownDictForStores (.ref a) >>= _) _ _ _;refine Aa (yV I O hd hf ?_);have hgd:((h.push { cls:=.type "dict",data:=.dict #[] }).update a λob=>{ ob with dict:=some h.objs.size }).get? h.objs.size=some { cls:=.type "dict",data:=.dict #[] }:=
  (Ba _ _ ne).trans (Heap.get?_push_at rfl rfl)
 have hga:((h.push { cls:=.type "dict",data:=.dict #[] }).update a λob=>{ ob with dict:=some h.objs.size }).get? a=some { o with dict:=some h.objs.size }:=by
  refine BN _ hx1 ?_;obtain ⟨oc,od,odt,osl⟩:=o;dsimp only at hf;subst hf;rfl
 have hnd:((h.push { cls:=.type "dict",data:=.dict #[] }).update a λob=>{ ob with dict:=some h.objs.size }).Ns h.objs.size (λ_=>none):=⟨_,#[],_,hgd,rfl,λe he=>absurd he (by simp),λ_=>rfl⟩;refine rC (Heap.Ns1.of_empty hnd) (ns:=[]) Within.nil (by decide) λh' tk' hn' hk=>⟨_,rfl,hq h' tk' hn' (hk a _ ne hga) λb ob nb q=>hk b ob (As (Ao q)) ?_⟩;exact (Ba _ _ (Bi nb)).trans (Ac _ q)
def oA (X:K.In h)(I:ClsI h C P f)(F:ExK K C)(sa:findIn K (.ref C) "__setattr__" = some (some (.builtin "object.__setattr__")))(nn:findIn K (.ref C) name=some none)(O:ExAt h a o C)(hd:o.dict=some dx)(hn:h.Ns1 dx mA)(hw:Within mA ns)(hz:ns.length<=100)(hq:∀ h' tk,h'.Ns1 dx (λy=>if y=name then some v else mA y)->(∀ b ob,b≠dx->h.get? b=some ob->h'.get? b=some ob)->Q () ⟨h',g,d,tk,os⟩) :
  wpAny (model prog w) A (setAttr (.ref a) name v) Q E ⟨h,g,d,t,os⟩:=by
 refine iK X I F sa nn O λA' tk=>?_;unfold storeInOwnDict;refine Aa (Ag ?_);show wpAny _ _ (ownDictForStores (.ref a) >>= _) _ _ _;refine Aa (yU I O hd ?_ true);exact rC hn hw hz λh' tk' hn' hk=>⟨_,rfl,hq h' tk' hn' hk⟩
end
structure ExF (K:Frag)(C P f:Gj)(x:Str):Prop where
 i:ExI K C P f
 sa:findIn K (.ref C) "__setattr__" = some (some (.builtin "object.__setattr__"))
 nn:findIn K (.ref C) x=some none
def xdE (a:Gj)(fs:Gn):HO:=.ext λh=>∃ mA,h.Ns1 a mA/\(∀ g,RelO (fs.lookup g) (mA g))/\Within mA (fs.map (·.1))
def aB8 {w:World}{fs:Gn}(n:h.Ns1 a mA)(r:∀ g,RelO (fs.lookup g) (mA g))(wi:Within mA (fs.map (·.1))):ObjOk P w H h a (xdE a fs):=by
 obtain ⟨o,es,ep,e,q⟩:=id n;exact ⟨⟨mA,n,r,wi⟩,⟨o,e⟩,λh1 h2 ⟨m,n1,r1,w1⟩ k=>⟨m,n1.at k,r1,w1⟩⟩
def aC2 {w:World}{dd:Option Gj}(e:h.get? a=some o)(c:o.cls=.ref C)(dq:o.dict=dd)(fd:o.data=.fields #[t,.none,.none,.none,.bool false,.none]):ObjOk P w H h a (exN a C dd):=
 ⟨⟨o,t,⟨e,c,dq⟩,fd⟩,⟨o,e⟩,λh1 h2 ⟨o,t,⟨e1,e2,e3⟩,e4⟩ k=>⟨o,t,⟨k o e1,e2,e3⟩,e4⟩⟩
section
variable {X:Cx}{U:Ge}{Z:St}{H:Hp}{s:Gm}{o e value:Expr}{x:Str}{pos pos':Pos}{ta tv:TE}{C P f:Gj}
def Inv.trackNew (I:Inv X U Z H s)(I':Inv X U Z H' s')(hex:X.ex=[])(n:s.heap.get? a=none)(hn:H' a=none)(ok:ObjOk X.prog X.w (upd H' a u) s'.heap a u):Inv X U Z (upd H' a u) s':=by
 refine I'.track hn (I.absent0 hex n) (λz=>?_) (λy c q z=>?_) (λp q z=>?_) ok
 ·obtain ⟨m,⟨oL,_,_,hoL,_⟩,_⟩:=I.loc
  rw [<- z,n] at hoL;cases hoL
 ·obtain ⟨v,o,ho,_⟩:=I.cell y c q
  rw [z,n] at ho;cases ho
 ·have:=(I.pin p q).1
  rw [z,n] at this;cases this
def sExN (K:Frag)(C P f:Gj)(ta tv:TE)(x:Str):TS:=λD Z H=>tv Z H λy H1=>ta Z H1 λz H2=>∃ a,z=.ref a/\H2 a=some (exN a C none)/\ExF K C P f x /\
 ∀ dx,H2 dx=none->dx≠a->D.nx Z (upd (upd H2 a (exN a C (some dx))) dx (xdE dx [(x,y)]))
def lC (hex:X.ex=[])(ha:PE X o ta)(hv:PE X value tv)(hs:Fd value (some (.Attribute o x pos')) pos.line X.env=pure false):PS X (.Assign [.Attribute o x pos'] value pos) (sExN X.K C P f ta tv x):=by
 intro U s Z H D I h;refine EU (thn (hv U s Z H _ I h) λu s1 ⟨y,H1,I1,ry,q⟩=>thn (ha U s1 Z H1 _ I1 q) λov s2 ⟨z,H2,I2,rx,a,ez,ea,F,q2⟩=>?_) hs;subst ez;obtain rfl:ov=AC a:=rx;obtain ⟨⟨ob,t',⟨o1,o2,o3⟩,o4⟩,_⟩:=I2.hok _ _ ea;have nz:s2.heap.get? s2.heap.objs.size=none:=Heap.get?_none_of_le (Aj _);have Hz:H2 s2.heap.objs.size=none:=I2.hok.fresh (Aj _);have ne:s2.heap.objs.size≠a:=Dr (Ao o1);obtain ⟨hh,g,d,tk,os⟩:=s2;refine qH I2.kIn (mQ I2.kIn F.i.xi) F.i.k F.sa F.nn ⟨o1,o2⟩ o3 o4 λh' tk' hn' ga ks=>?_;have J1:Inv X U Z (upd H2 a (exN a C (some hh.objs.size))) ⟨h',g,d,tk',os⟩:=by
  refine I2.write (x:=a) (e:=a) (t':=tk') (by rw [ea];exact Dp) (.inl rfl) ks ⟨_,ga⟩ ?_;exact aC2 ga o2 rfl o4
 have J2:=I2.trackNew J1 (a:=hh.objs.size) (u:=xdE hh.objs.size [(x,y)]) hex nz (by rw [aK ne];exact Hz) (aB8 hn' (λg=>?_) (λg hg=>?_))
 ·exact ⟨Z,_,J2,q2 _ Hz ne⟩
 ·by_cases z:g=x
  ·subst z
   simp only [Ds,beq_self_eq_true,if_true];exact ry
  ·have:([(x,y)]:Gn).lookup g=none:=by
    simp only [Ds];rw [beq_eq_false_iff_ne.mpr z]
   rw [this,if_neg z];exact Dp
 ·by_cases z:g=x
  ·rw [z];simp
  ·rw [if_neg z] at hg
   exact absurd rfl hg
end
section
variable {prog:Aw}{w:World}{A:Around}{E:Ga}{h:Heap}{g:Array GenState}{d:Drawn}{t:Nat}{os:OsState}{K:Frag}{C P f a:Gj}{o:Obj}{v:Gk}
def uW {rest:Gi}(I:ClsI h C P f)(O:ExAt h a o C)(hf:o.data=.fields us)(h0:us[0]?=some a0)(hz:rest.length<=Au)(hq:Q .none ⟨(h.push { cls:=.type "tuple",data:=.seq rest.toArray }).update a (DV (·.setIfInBounds 0 (.ref h.objs.size))),g,d,t,os⟩) :
  wpAny (model prog w) A (call (.builtin "ValueError.__init__") (.ref a::rest)) Q E ⟨h,g,d,t,os⟩:=by
 obtain ⟨nm,q,N,bs,sn,sub,ab,col,dd,k0,k1,k2,k3,k5,mN,hC,hn,hni,T⟩:=I.ex;have F:=PySem.F.excBase_ValueError;have z0:0<us.size:=(Cq.mp h0).1;have g1:=Ac (h:=h) { cls:=.type "tuple",data:=.seq rest.toArray } O.at_;refine EA (Ej F.init.plain F.initEntry (wpAny_check_init_subU F T hC O.at_ O.cls ?_));unfold AG.«BaseException.__init__»;dsimp only;rw [if_neg (by simp)];unfold newTuple AG.BaseException.bexcPut;refine Aa (Bc ?_ (by show rest.toArray.size<=Au;rw [An];exact hz));refine Aa (Aa (BK g1 hf h0 (Aa (EZ g1 hf z0 ?_))));split
 ·refine wpAny_letGo ?_
  exact Ag hq
 ·exact Ag (Ag hq)
end
structure BaseI (K:Frag)(P:Gj):Prop where
 rd:readsIn K P (.type "type")=true
 fc:findCls K (.ref P) (.type "type") "__init__" = some (.val (.builtin "ValueError.__init__"))
 ga:specialIn K (.ref P) "__getattribute__" = some (some (.builtin "type.__getattribute__"))
section
variable {X:Cx}{C P f:Gj}{x:Str}{p apos pos:Pos}{e₁ e₂:Expr}{t:TA}
def aCc (K:Frag)(P:Gj)(t:TA):TE:=λZ H Q=>t Z H λvs H1=>∃ a C dd f txt,vs=[.ref a,.str txt]/\H1 a=some (exN a C dd)/\ExI K C P f/\Q .non H1
theorem aFw (h:H a=some o):upd H a o=H:=by
 funext b
 by_cases z:b=a
 ·rw [z,aB,h]
 ·rw [aK z]
def fW {pl:Sem Bool}(hg:Gl X x)(hm:X.mg x=some (.ref P))(B:BaseI X.K P)(ha:PA X [e₁,e₂] t)(hdb:(x==("__debug__":Str))=false:=by decide)
  (hst:AL [e₁,e₂] X.env=(false,eval e₁ X.env)::AL [e₂] X.env:=by rfl) (hpl:(backTo pos (AL [e₂] X.env)).any (·.1)=false:=by rfl)
  (ht:eval (.Call (.Attribute (.Name x p) "__init__" apos) [e₁,e₂] [] pos) X.env=(do
   let ov <- eval (.Name x p) X.env
   standAt apos.atName
   let (f,first) <- holding [ov] (getMethod ov "__init__" pl)
   callWith pos f first (backTo pos (AL [e₁,e₂] X.env)) (backToKw pos (keywordEach [] X.env))):=by rfl) :
  PE X (.Call (.Attribute (.Name x p) "__init__" apos) [e₁,e₂] [] pos) (aCc X.K P t):=by
 intro U s Z H Q I h;refine PySem.W.methodCall_KW (pl:=pl) (fV I hg hm ?_ hdb) ht;refine method_cls I.kIn B.ga (cls_value I.kIn B.rd B.fc rfl ?_);have I0:=I.tok (s.toks+1);have hA:=ha pos U _ Z H _ I0 h;rw [hst] at hA ⊢;refine DD (by show (false||(backTo pos (AL [e₂] X.env)).any (·.1))=false;rw [hpl]<;>rfl) (ES (thn hA λus s2 ⟨vs,H2,I2,r2,a,C,dd,f,txt,e1,ea,F,q2⟩=>?_));subst e1;obtain ⟨u1,u2,rfl,ra,rt⟩:=r2.two;obtain rfl:u1=AC a:=ra;obtain ⟨⟨ob,t',⟨o1,o2,o3⟩,o4⟩,_⟩:=I2.hok _ _ ea;obtain ⟨hh,g,d,tk,os⟩:=s2;refine uW (mQ I2.kIn F.xi) ⟨o1,o2⟩ o4 rfl zLn1 ?_;have g1:=Ac (h:=hh) { cls:=.type "tuple",data:=.seq [u2].toArray } o1;have d1:=Ez o4 (·.setIfInBounds 0 (AC hh.objs.size));have g2:=BN (DV (·.setIfInBounds 0 (AC hh.objs.size))) g1 (EM d1);have J:Inv X U Z (upd H2 a (exN a C dd)) ⟨(hh.push { cls:=.type "tuple",data:=.seq [u2].toArray }).update a (DV (·.setIfInBounds 0 (.ref hh.objs.size))),g,d,tk,os⟩:=by
  refine I2.write (x:=a) (e:=a) (t':=tk) (by rw [ea];exact Dp) (.inl rfl) (λb u nb q=>?_) ⟨_,g2⟩ ?_
  ·exact (Ba _ _ (Bi nb)).trans (Ac _ q)
  ·exact aC2 g2 ((Obj.cls_mapFields _ _).trans o2) ((zJ _ _).trans o3) d1
 rw [aFw ea] at J;exact ⟨.non,H2,J,rfl,q2⟩
def tExF (K:Frag)(ta:TE)(x:Str):TE:=λZ H Q=>ta Z H λz H1=>∃ a C P f dx fs v,z=.ref a/\H1 a=some (excD a C (some dx))/\H1 dx=some (xdE dx fs)/\ExF K C P f x/\fs.lookup x=some v/\Q v H1
end
end L2
namespace L2
open PySem PySem.Spec PyProof.Rows PySem.W
def FmtV:V->Str->Prop
 |.int i,x=>i.natAbs.log2<1920/\x=(toString i:String)
 |.str y,x=>y.length<=Au/\x=y
 |.non,x=>x = "None"
 |_,_=>False
def tFmt (ta:TE):TE:=λZ H Q=>ta Z H λv H1=>∃ x,FmtV v x/\Q (.str x) H1
abbrev TJ:=Str->St->Hp->(Str->Hp->Prop)->Prop
def PJ (X:Cx)(es:List Expr)(t:TJ):Prop:=
 ∀ (acc:Str) (U:Ge) (s:Gm) (Z:St) (H:Hp) (Q:Str->Hp->Prop),Inv X U Z H s->t acc Z H Q->wpAny (model X.prog X.w) X.A (joinParts acc (evalEach es X.env)) (EP X U Z λv H'=>∃ x,v=.str x/\Q x H') X.xe s
def jNil:TJ:=λacc _ H Q=>acc.length<=Au/\Q acc H
def uO (te:TE)(tr:TJ):TJ:=λacc Z H Q=>te Z H λv H1=>∃ x,v=.str x/\(acc++x).length<=Au/\tr (acc++x) Z H1 Q
def aF7 (t:TJ):TE:=λZ H Q=>t Str.empty Z H λx H'=>Q (.str x) H'
section
variable {X:Cx}{value e e':Expr}{es:List Expr}{ta te:TE}{tr t:TJ}{pos:Pos}
def fS (ha:PE X value ta):PE X (.FormattedValue value (-1) none pos) (tFmt ta):=by
 intro U s Z H Q I h;refine FormattedValue_plain (thn (ha U s Z H _ I h) λu s1 ⟨v,H1,I1,rv,x,fx,q⟩=>?_);cases v with
 |int i=>
  obtain ⟨t,rfl⟩:=rv;obtain ⟨hl,rfl⟩:=fx;exact formatField_int_small hl ⟨.str _,H1,I1.tok _,⟨_,rfl⟩,q⟩
 |str y=>
  obtain ⟨t,rfl⟩:=rv;obtain ⟨hl,rfl⟩:=fx;exact formatField_str (λt' tk=>⟨.str x,H1,I1.tok _,⟨_,rfl⟩,q⟩) hl
 |non=>
  cases rv;cases fx;exact wpAny_formatField_none ⟨.str _,H1,I1.tok _,⟨_,rfl⟩,q⟩
 |bl _=>exact fx.elim
 |byt _=>exact fx.elim
 |flt _=>exact fx.elim
 |ref _=>exact fx.elim
 |ty _=>exact fx.elim
def lD:PJ X [] jNil:=λacc U s Z H Q I h=>joinParts_nil ⟨.str acc,H,I.tok _,⟨_,rfl⟩,acc,rfl,h.2⟩ h.1
def bC (he:PE X e te)(hr:PJ X es tr):PJ X (e::es) (uO te tr):=by
 intro acc U s Z H Q I h;show wpAny _ _ (joinParts acc (eval e X.env::evalEach es X.env)) _ _ _;refine joinParts_cons (thn (he U s Z H _ I h) λu s1 ⟨v,H1,I1,rv,x,ev,hz,q⟩=>?_);subst ev;obtain ⟨t,rfl⟩:=rv;exact ⟨hz,hr _ U s1 Z H1 Q I1 q⟩
def iC (h:PJ X (e::e'::es) t):PE X (.JoinedStr (e::e'::es) pos) (aF7 t):=by
 intro U s Z H Q I hw;refine JoinedStr_many (thn (h _ U s Z H _ I hw) λu s1 ⟨v,H1,I1,rv,x,ev,q⟩=>?_);subst ev;exact ⟨.str x,H1,I1,rv,q⟩
end
def Its (x:Str):It:=⟨λi _=>∃ c,x.cps[i]?=some c,λi H v H'=>H'=H/\∃ c,x.cps[i]?=some c/\v=.str ⟨#[c]⟩,λi _=>x.cps[i]?=none⟩
def aAl {P:Aw}{w:World}{K:Frag}{tg:Expr}(x:Str)(t:Tok)(it:Gj)(b:Bool) :
  Turn P w K tg (Its x) [it] it (λi h=>h.IsStrIter it (if b then "str_ascii_iterator" else "str_iterator") x t i) where
 mem:=by simp
 obj:=λi h st a ha=>by
  have e:a=it:=by simpa using ha
  subst e;obtain ⟨o,e,c,d⟩:=st;exact ⟨o,e,λv z=>by rw [d] at z;cases z⟩
 keep:=λi h h' ⟨o,e,r⟩ k=>⟨o,k it (by simp) o e,r⟩
 item:=by
  intro X hP hw hK hc i U s Z H E I hf st hg;subst hP hw hK;obtain ⟨c,hx⟩:=hg;obtain ⟨f0,f1,f2,f3,f4,f5⟩:=hf it (by simp);have go:∀ h',h'.IsStrIter it (if b then "str_ascii_iterator" else "str_iterator") x t (i+1)->Cf it s.heap h' ->
    ∃ u,(some (Value.str ⟨#[c]⟩ s.toks))=some u/\wpAny (model X.prog X.w) X.A (Ft tg (.ref it) u) (λ_ s2=>∃ v H',Inv X U Z H' s2/\RelV v u/\(Its x).yld i H v H'/\s2.heap.IsStrIter it (if b then "str_ascii_iterator" else "str_iterator") x t (i+1)/\∀ b∈[it],H' b=none) E { s with heap:=h',toks:=s.toks+1 }:=by
   intro h' st' sb;have I1:Inv X U Z H { s with heap:=h',toks:=s.toks+1 }:=I.turned (t':=s.toks+1) (λb o hb e=>(sb.2 b hb).trans e) f0 f1 f3 f4 f5;obtain ⟨o,e,cc,d⟩:=id st';exact ⟨_,rfl,yY (s:={ s with heap:=h',toks:=s.toks+1 }) e cc d (by cases b<;>decide) ⟨.str ⟨#[c]⟩,H,I1,⟨_,rfl⟩,⟨rfl,c,hx,rfl⟩,st',λb hb=>(hf b hb).1⟩⟩
  cases b with
  |true=>exact wpAny_pyNext_ascii_item st hx go
  |false=>exact wpAny_pyNext_wide_item st hx go
 done:=by
  intro X hP hw hK hc i U s Z H E I hf st hg;subst hP hw hK;obtain ⟨f0,f1,f2,f3,f4,f5⟩:=hf it (by simp);cases b with
  |true=>exact wpAny_pyNext_ascii_end (I.ok.hd hc) st hg λh' eb=>⟨rfl,I.turned (t':=s.toks) (λb o hb e=>eb b o hb e) f0 f1 f3 f4 f5⟩
  |false=>exact wpAny_pyNext_wide_end (I.ok.hd hc) st hg λh' eb=>⟨rfl,I.turned (t':=s.toks) (λb o hb e=>eb b o hb e) f0 f1 f3 f4 f5⟩
 self:=λ_ _ _ _ _ st h=>by
  cases b with
  |true=>exact wpAny_pyIter_striter_ascii st h
  |false=>exact wpAny_pyIter_striter_wide st h
def iStr (tl:TE):TI:=λZ H R=>tl Z H λv H1=>∃ x,v=.str x/\R (Its x) H1
section
variable {X:Cx}
def aCr {tg l:Expr}{tl:TE}(hl:PE X l tl):PI X tg l (iStr tl):=by
 intro U s Z H R I h;refine thn (hl U s Z H _ I h) λv s1 ⟨y,H1,I1,r1,x,ey,q⟩=>?_;subst ey;obtain ⟨t,rfl⟩:=r1;have fin:∀ b:Bool,PIE X U Z tg R (.ref s1.heap.objs.size) { s1 with heap:=s1.heap.push { cls:=.type (if b then "str_ascii_iterator" else "str_iterator"),data:=.fields #[.str x t,.int 0 0] } }:=by
  intro b;refine ⟨s1.heap.objs.size,[s1.heap.objs.size],_,_,H1,rfl,I1.kept (t':=s1.toks) λb o e=>Ac _ e,aAl x t _ b,⟨_,Ai _ rfl,rfl,rfl⟩,λb hb=>?_,q⟩;have e:b=s1.heap.objs.size:=by simpa using hb
  subst e;exact I1.fpOk (Aj _) (I1.hok.fresh (Aj _))
 cases ha:x.cps.all (·<128) with
 |true=>exact wpAny_pyIter_ascii ha (fin true)
 |false=>exact wpAny_pyIter_wide ha (fin false)
end
def rPart:V->Gq->Hp->VK->Prop:=λz vs H Q=>∃ x y,z=.str x/\vs=[.str y]/\(y.length==0)=false/\x.length<=Au/\∀ p,H p=none->Q (.ref p) (upd H p (.tup [.str (Txt.partition x y).1,.str (Txt.partition x y).2.1,.str (Txt.partition x y).2.2]))
def rSplit:V->Gq->Hp->VK->Prop:=λz vs H Q=>∃ x y,z=.str x/\vs=[.str y]/\(y.length==0)=false/\x.length+2<=Au/\∀ p,H p=none->Q (.ref p) (upd H p (.lst ((Txt.split x y).map V.str)))
section
variable {X:Cx}
end
section
variable {X:Cx}
def aAm {w:World}{b:Bool}(h:Q b s):wpAny (model prog w) A (truthy (.bool b)) Q E s:=by
 cases b<;>exact Ag h
def range_any {bs:List Bool}:(AV bs.length).any (λi=>bs.getD i false)=bs.any id:=by
 rw [Cy];simp only [List.any_eq_true,CM,id];constructor
 ·rintro ⟨i,hi,h⟩
  exact ⟨bs[i],DB hi,by simpa [List.getD,hi] using h⟩
 ·rintro ⟨b,hb,h⟩
  obtain ⟨i,hi,rfl⟩:=List.getElem_of_mem hb;exact ⟨i,hi,by simpa [List.getD,hi] using h⟩
theorem range_all {bs:List Bool}:(AV bs.length).all (λi=>bs.getD i false)=bs.all id:=by
 rw [Cy];simp only [CG,CM,id];constructor
 ·intro h b hb
  obtain ⟨i,hi,rfl⟩:=List.getElem_of_mem hb
  simpa [List.getD,hi] using h i hi
 ·intro h i hi
  simpa [List.getD,hi] using h bs[i] (DB hi)
def tT {Z:St}(I:Inv X U Z H s)(hc:X.calm=true){p:Gj}{bs:List Bool}(hq:SqL X.K H p (bs.map V.bl)){E:Ga}{k:(Nat->Bool)->Nat->Bool}(q:Q (.bl (k (λi=>bs.getD i false) bs.length)) H) :
  wpAny (model X.prog X.w) X.A.in1 (pyIter (.ref p)) (λit s₂=>∃ J fp wr n P St tr,it=.ref J/\Walks X.prog X.w X.A.in1 J fp wr n P St/\St 0 s₂.heap/\TruthOf X.prog X.w X.A.in1 P tr /\
   ∀ h' tk,(∀ b o,b∉wr->s₂.heap.get? b=some o->h'.get? b=some o)->EP X U Z Q (.bool (k tr n)) { s₂ with heap:=h',toks:=tk }) E s:=by
 obtain ⟨its,rv,pl,hz⟩:=I.list hq;have hl:=rv.length;rw [Af] at hl;have ne:p≠s.heap.objs.size:=by
  obtain ⟨o,n,e,_⟩:=pl;exact As (Ao e)
 refine wpAny_pyIter_list pl.isList ?_;have keep:∀ b o,s.heap.get? b=some o->(s.heap.push { cls:=.type "list_iterator",data:=.fields #[.ref p,.int 0 0] }).get? b=some o:=λb o e=>Ac _ e;refine ⟨s.heap.objs.size,_,_,_,_,_,λi=>bs.getD i false,rfl,Walks.list (A:=X.A.in1) (show X.A.in1.handled=none from I.ok.hd hc) s.heap.objs.size p ne its.toArray,⟨⟨_,Ai _ rfl,rfl,rfl⟩,pl.isList.at λo e=>keep p o e⟩,?_,?_⟩
 ·intro i v s' Q' E' hv hQ
  have hv':its[i]?=some v:=by simpa using hv
  have hi:i<bs.length:=by rw [hl];exact (Ad.mp hv').1
  obtain ⟨u,hu,ru⟩:=rv.get (show (bs.map V.bl)[i]?=some (.bl bs[i]) by simp [hi]);rw [hv'] at hu;cases hu;cases ru;have e:bs.getD i false=bs[i]:=by simp [List.getD,hi]
  dsimp only at hQ;rw [e] at hQ;exact aAm hQ
 ·intro h' tk kp
  have J:Inv X U Z H { s with heap:=h',toks:=tk }:=I.kept (t':=tk) λb o e=>kp b o (by
   have lt:=Ao e;intro z;have z':b=s.heap.objs.size:=by simpa using z
   rw [z'] at lt;exact Cw _ lt) (keep b o e)
  have es:its.toArray.size=bs.length:=by rw [An];lia
  rw [es];exact ⟨.bl _,H,J,rfl,q⟩
def kN (hc:X.calm=true):fH X (.builtin "all") (λxs H Q=>∃ p,∃ bs:List Bool,xs=[.ref p]/\SqL X.K H p (bs.map V.bl)/\Q (.bl (bs.all id)) H):=by
 intro U s Z H xs us Q I r h;obtain ⟨p,bs,rfl,hq,q⟩:=h;obtain ⟨u,rfl,rx⟩:=vals1 r;cases rx;exact call_all_walk (tT I hc hq (k:=λtr n=>(AV n).all tr) (by rw [range_all];exact q))
def xJ (hu:X.A.units+64<cLine):OpR X (BB .Eq) (λx y H Q=>∃ a b xs,x=.ref a/\y=.ref b/\SqL X.K H a xs/\SqL X.K H b []/\Q (.bl xs.isEmpty) H):=by
 intro U s Z H x y v u Q I rx ry h;obtain ⟨a,b,xs,rfl,rfl,ha,hb,q⟩:=h;cases rx;cases ry;obtain ⟨its,r,p,_⟩:=I.list ha;obtain ⟨its',r',p',_⟩:=I.list hb;cases r';cases r with
 |nil=>exact SeqAt.RcAt.lists (A:=X.A) (e:=λ_=>true) p.isList p'.isList rfl (by lia) (λj h1=>absurd h1 (by simp)) X.prog X.w X.xe _ ⟨.bl _,H,I,rfl,q⟩
 |cons r t=>exact SeqAt.RcAt.lists_lengths (A:=X.A) p.isList p'.isList rfl (by lia) X.prog X.w X.xe _ ⟨.bl _,H,I,rfl,q⟩
end
end L2
namespace TM
open PySem PySem.NumText
def dg (n:Nat):List Nat:=(Nat.toDigits 10 n).map Char.toNat
def aH5 {n:Nat}(h:n<10^60):(dg n).length<=60:=by
 unfold dg;rw [Af];exact PyProof.Rows.digits10_le (by decide) h
structure Fig (cs:List Nat):Prop where
 ne:cs≠[]
 len:cs.length<=60
 all:AllDigits cs
 no:cs.head?=some 48->cs.length=1
def Reads (L:List Nat)(t b:Nat):Prop:=
 (Fig L/\t=digitsVal L/\b=1)\/∃ p q,L=p++47::q/\Fig p/\Fig q/\t=digitsVal p/\b=digitsVal q/\2<=b/\Nat.gcd t b=1
def showL (t b:Nat):List Nat:=if b=1 then dg t else dg t++47::dg b
end TM
namespace TM
open PySem PySem.StrLaws PySem.Builtin PySem.Builtin.Str
abbrev cps (x:Str):List Nat:=x.cps.toList
abbrev sl:Str:=⟨#[47]⟩
def ext (h:cps x=cps y):x=y:=by
 obtain ⟨⟨a⟩⟩:=x;obtain ⟨⟨b⟩⟩:=y;have h':a=b:=h;rw [h']
theorem dS (x y:Str):cps (x++y)=cps x++cps y:=by
 show (x.cps++y.cps).toList=_;rw [Array.toList_append]
end TM
namespace L2
open PySem PySem.Spec PyProof.Rows PySem.W
def rCount:V->Gq->Hp->VK->Prop:=λx vs H Q=>∃ l xs y,x=.ref l/\vs=[y]/\H l=some (.lst xs)/\eW y=true/\xs.all eW=true/\Q (.int ((xs.countP λz=>eqV z y:Nat):Int)) H
def rIndex:V->Gq->Hp->VK->Prop:=λx vs H Q=>∃ l xs y,∃ j:Nat,∃ z,x=.ref l/\vs=[y]/\H l=some (.lst xs)/\eW y=true/\xs.all eW=true/\xs[j]?=some z/\eqV z y=true /\
 (∀ m z,m<j->xs[m]?=some z->eqV z y=false)/\Q (.int (j:Int)) H
section
variable {X:Cx}
end
def Nx (n i:Nat)(P:Prop):Prop:=∃ m',m'<n-i/\m'=n-(i+1)/\i+1<=n/\P
def Nx.mk {n i:Nat}{P:Prop}(h:i<n)(p:P):Nx n i P:=⟨n-(i+1),by lia,rfl,h,p⟩
def oM {Z:St}:BlkN X N' scope cl Z (Cm N'.length none):=by
 refine ⟨by simp,λi x v h1 h2=>?_⟩;rw [List.getElem?_replicate] at h2;split at h2<;>cases h2
def aB3 {D:Gj}{x:Str}{g:TG}{tt:TT}{te:TE}{Z0:St}{QD:Hp->Prop}{H1:Hp}(Pv:Nat->Gq->Hp->Prop)(h0:Pv 0 [] (upd H1 D (.lst [])))
  (hl:∀ i ys H,i<=x.cps.toList.length->Pv i ys H->H D=some (.lst ys)/\ys.length<Au)
  (hs:∀ i c ys H,x.cps.toList[i]?=some c->Pv i ys H->g (.str ⟨#[c]⟩) Z0 H λZ2 H2=>Keep Z0 Z2/\tt Z2 H2 λb H3=>if b=true then te Z2 H3 λy H4=>H4 D=some (.lst ys)/\Nx x.cps.toList.length i (Pv (i+1) (ys++[y]) (upd H4 D (.lst (ys++[y])))) else Nx x.cps.toList.length i (Pv (i+1) ys H3))
  (hd:∀ ys H,Pv x.cps.toList.length ys H->QD H) :
  ∃ W:Nat->Nat->Gq->Hp->Prop,(∃ m,W 0 m [] (upd H1 D (.lst []))) /\
   ∀ i m ys H,W i m ys H->H D=some (.lst ys)/\ys.length<Au /\
    (((Its x).stop i H/\QD H)\/((Its x).go i H/\∀ v H',(Its x).yld i H v H'->g v Z0 H' λZ2 H2=>Keep Z0 Z2/\tt Z2 H2 λb H3=>
     if b=true then te Z2 H3 λy H4=>H4 D=some (.lst ys)/\∃ m',m'<m/\W (i+1) m' (ys++[y]) (upd H4 D (.lst (ys++[y]))) else ∃ m',m'<m/\W (i+1) m' ys H3)):=by
 refine ⟨λi m ys H=>m=x.cps.toList.length-i/\i<=x.cps.toList.length/\Pv i ys H,⟨x.cps.toList.length,by simp,Bu _,h0⟩,?_⟩
 rintro i m ys H ⟨rfl,hi,p⟩
 obtain ⟨hD,hz⟩:=hl i ys H hi p;refine ⟨hD,hz,?_⟩
 by_cases hlt:i<x.cps.toList.length
 ·have e:x.cps[i]?=some x.cps.toList[i]:=by rw [<- Bd];exact Ae hlt
  refine .inr ⟨⟨_,e⟩,λv H' y=>?_⟩;obtain ⟨rfl,c,hc,rfl⟩:=y;exact hs i c ys _ (by rw [Bd];exact hc) p
 ·have e:i=x.cps.toList.length:=by lia
  subst e;refine .inl ⟨?_,hd ys H p⟩;show x.cps[x.cps.toList.length]?=none;rw [<- Bd];exact AY (Aj _)
end L2
namespace L2
open PySem PySem.Spec PyProof.Rows
def dcE (a:Gj):HO:=.ext λh=>∃ o,h.get? a=some o/\o.cls=.type "dict"
def tDict0:TE:=λ_ H Q=>∀ p,H p=none->Q (.ref p) (upd H p (dcE p))
section
variable {X:Cx}{pos:Pos}
def IsiD (K:Ab)(H:Hp)(v:V)(T:String)(b:Bool):Prop:=Isi K H v T b\/∃ a,v=.ref a/\H a=some (dcE a)/\T = "str" /\ b=false
def zZ:fH X (.builtin "isinstance") (λxs H Q=>∃ x T b,xs=[x,.ty T]/\IsiD X.K H x T b/\Q (.bl b) H):=by
 intro U s Z H xs us Q I r h;obtain ⟨x,T,b,rfl,hi|⟨a,rfl,hH,rfl,rfl⟩,q⟩:=h
 ·exact fG U s Z H _ us Q I r ⟨x,T,b,rfl,hi,q⟩
 ·obtain ⟨u,w',rfl,rx,ry⟩:=vals2 r
  cases ry;cases rx;obtain ⟨⟨o,e,c⟩,_⟩:=I.hok a _ hH;exact IsiPair.dict_str e c ⟨.bl false,H,I.tok _,rfl,q⟩
end
section
variable {prog:Aw}{w:World}{A:Around}{E:Ga}{s:Gm}
def aDm {i:Nat}(st:s.heap.IsTupleIter it t i)(hl:s.heap.IsTuple t its)(hx:its[i]?=some x)(q:∀ g,g.IsTupleIter it t (i+1)->Cf it s.heap g->Q x { s with heap:=g }):wpAny (model prog w) A (Bj (.ref it)) Q E s:=by
 obtain ⟨ob,e1,e2,e3⟩:=id st;obtain ⟨ot,e4,_,m,e5⟩:=hl;unfold Bj;refine Aa (Bs (name:=CN "__next__") st.typeIs Ee (Bp Ee st.typeIs F.entry_tuple_iterator_next ?_ (F.args_tuple_iterator_next_1 _)));refine Aa (m:=field (.ref it) 0) (BK e1 e3 (x:=.ref t) rfl ?_);show wpAny _ _ (if (AC t==BO)=true then _ else (field (.ref it) 1 >>= _)) _ _ s;rw [if_neg (show ¬ (AC t==BO)=true from (λz=>nomatch z))];refine Aa (BK e1 e3 (x:=.int i 0) rfl (Aa (m:=seqItems? (.ref t)) (CU e4 e5 ?_)));simp only [Ci,hx];refine Aa (EZ e1 e3 (by simp) (Ag ⟨x,rfl,Ag (q _ ⟨_,BN _ e1 (EM (Ez e3 _)),(Obj.cls_mapFields ..).trans e2,?_⟩ (EE ..))⟩));rw [Ez e3];simp [rawInt]
def aDl {i:Nat}(hh:A.handled=none)(st:s.heap.IsTupleIter it t i)(hl:s.heap.IsTuple t its)(hx:its[i]?=none)(q:∀ g e,Heap.ExtBut it s.heap g->(∃ o,g.get? e=some o/\o.cls=.type "StopIteration")->E (.ref e) { s with heap:=g }):wpAny (model prog w) A (Bj (.ref it)) Q E s:=by
 obtain ⟨ob,e1,e2,e3⟩:=id st;obtain ⟨ot,e4,_,m,e5⟩:=hl;unfold Bj;refine Aa (Bs (name:=CN "__next__") st.typeIs Ee (Bp Ee st.typeIs F.entry_tuple_iterator_next ?_ (F.args_tuple_iterator_next_1 _)));refine Aa (m:=field (.ref it) 0) (BK e1 e3 (x:=.ref t) rfl ?_);show wpAny _ _ (if (AC t==BO)=true then _ else (field (.ref it) 1 >>= _)) _ _ s;rw [if_neg (show ¬ (AC t==BO)=true from (λz=>nomatch z))];refine Aa (BK e1 e3 (x:=.int i 0) rfl (Aa (m:=seqItems? (.ref t)) (CU e4 e5 ?_)));simp only [Ci,hx];refine Aa (Dw (Aa (EZ e1 e3 (by simp) (Aa (m:=newExc (.type "StopIteration") []) ?_))));simp only [newExc,newTuple];refine Aa (Bc (Aa (m:=firstArgMember _ _) (Ew (a:=BO) (by first|rfl|(simp only [firstArgMember];rfl)) (Bc ?_ (by size_fits)))) (by size_fits));simp only [raiseNew];refine Aa (wpAny_handled ?_)
 first|rw [show A.in1.handled=none from hh]|rw [hh]
 exact Aa (Ag (wpAny_throw (q _ _ (((EE ..).extBut.push _).push _) ⟨_,Ai _ rfl,rfl⟩)))
def iW (hh:A.handled=none)(it t:Gj)(hne:t≠it)(its:Array Gk) :
  Draws prog w A it [it,t] its.size (λi v=>its[i]?=some v) (λi h=>h.IsTupleIter it t i/\h.IsTuple t its) where
 live:=λ_ _ z=>let ⟨o,e,_⟩:=z.1;⟨o,e⟩
 frame:=λ_ _ _ z k=>⟨z.1.at λo e=>k it (by simp) o e,z.2.at λo e=>k t (by simp) o e⟩
 item:=λi s Q E hi z k=>aDm z.1 z.2 (x:=its[i]) (by simp [hi]) λg z' sb=>k _ g s.toks (by simp [hi]) ⟨z',z.2.extBut sb.extBut hne⟩ sb
 done:=λs Q E z k=>aDl hh z.1 z.2 (by simp) k
structure Ap (z TI TO i1 i2:Gj)(f1 f2:List Gj):Prop where
 a1:∀ b∈f1,b≠z/\b≠TO/\b≠i2
 a2:∀ b∈f2,b≠z/\b≠TO/\b≠i1
 m1:i1∈f1
 m2:i2∈f2
 tz:TI≠z
 tO:TI≠TO
 t1:TI≠i1
 t2:TI≠i2
 oz:TO≠z
section
variable {z TI TO i1 i2:Gj}{f1 f2:List Gj}{n1 n2 k:Nat}{P1 P2:Nat->Gk->Prop}{S1 S2:Nat->Heap->Prop}{a b:Gk}
def aDi {Q:Ga}(D1:Draws prog w A i1 f1 n1 P1 S1)(D2:Draws prog w A i2 f2 n2 P2 S2)(ap:Ap z TI TO i1 i2 f1 f2)(hz:IsZip s.heap z TI TO .none)(hI:IsPair s.heap TI (.ref i1) (.ref i2))(hO:IsPair s.heap TO a b)
  (h1:S1 k s.heap) (h2:S2 k s.heap) (l1:k<n1) (l2:k<n2)
  (q:∀ x y T g t',P1 k x->P2 k y->T=s.heap.objs.size->IsZip g z TI TO (rawInt T)->IsPair g TO x y->S1 (k+1) g->S2 (k+1) g->IsPair g T x y->(∀ c o,c≠z->c≠TO->c≠i1->c≠i2->s.heap.get? c=some o->g.get? c=some o)->Q (.ref T) { s with heap:=g,toks:=t' }) :
  wpAny (model prog w) A (AG.«zip.__next__» ⟨[.ref z],[]⟩) (λfin s'=>∃ v,fin=.done (.ret v)/\Q v s') E s:=by
 have z1:=ap.a1 i1 ap.m1;have z2:=ap.a2 i2 ap.m2;refine Aa (m:=field (.ref z) 2) (BK hz rfl (x:=.bool false) rfl (Aa (m:=field (.ref z) 3) (BK hz rfl (x:=.ref TI) rfl (Aa (CU hI rfl (Aa (m:=Cv (.ref z)) ?_))))));unfold Cv;refine Aa (BK hz rfl (x:=.none) rfl (Ag ?_));simp only [if_true];refine Aa (Dw (Aa (BK hz rfl (x:=.ref TO) rfl (Aa (Cr hz (by simp) λga ca sa=>Aa ?_)))));replace ca:IsZip ga z TI TO .ellipsis:=ca;have ka:∀ c o,c≠z->s.heap.get? c=some o->ga.get? c=some o:=λc o n e=>sa.extBut _ _ n e;simp only [List.zipIdx_cons,List.zipIdx_nil,List.forIn_cons,List.forIn_nil];refine Aa (Aa (wpAny_onRaise (Aa (m:=Bj (.ref i1)) (D1.item k _ _ _ l1 (D1.frame _ _ _ h1 λc hc o e=>ka c o (ap.a1 c hc).1 e) λx gb tb px sb cb=>Ag ?_))));have kb:∀ c o,c≠z->c≠i1->s.heap.get? c=some o->gb.get? c=some o:=λc o n n' e=>cb.extBut _ _ n' (ka c o n e);have hOb:IsPair gb TO a b:=kb _ _ ap.oz (λe=>z1.2.1 e.symm) hO;refine Aa (CU hOb rfl (Aa (wpAny_updateSeq_pair hOb λgc hOc cc=>Aa (wpAny_letGo (Ag ?_)))));replace hOc:IsPair gc TO x b:=hOc;have kc:∀ c o,c≠z->c≠i1->c≠TO->s.heap.get? c=some o->gc.get? c=some o:=λc o n n' n2 e=>cc.extBut _ _ n2 (kb c o n n' e);have sc1:S1 (k+1) gc:=D1.frame _ _ _ sb λc hc o e=>cc.extBut _ _ (ap.a1 c hc).2.1 e;refine Aa (Aa (wpAny_onRaise (Aa (m:=Bj (.ref i2)) (D2.item k _ _ _ l2 (D2.frame _ _ _ h2 λc hc o e=>kc c o (ap.a2 c hc).1 (ap.a2 c hc).2.2 (ap.a2 c hc).2.1 e) λy gd td py sd cd=>Ag ?_))));have hOd:IsPair gd TO x b:=cd.extBut _ _ (λe=>z2.2.1 e.symm) hOc;refine Aa (CU hOd rfl (Aa (wpAny_updateSeq_pair hOd λge hOe ce=>Aa (wpAny_letGo (Ag (Ag ?_))))));replace hOe:IsPair ge TO x y:=hOe;have ke:∀ c o,c≠z->c≠TO->c≠i1->c≠i2->s.heap.get? c=some o->ge.get? c=some o:=λc o n n1 n2 n3 e=>ce.extBut _ _ n1 (cd.extBut _ _ n3 (kc c o n n2 n1 e));have hze:IsZip ge z TI TO .ellipsis:=ce.extBut _ _ (Bi ap.oz) (cd.extBut _ _ (Bi z2.1) (cc.extBut _ _ (Bi ap.oz) (cb.extBut _ _ (Bi z1.1) ca)));have se1:S1 (k+1) ge:=D1.frame _ _ _ sc1 λc hc o e=>ce.extBut _ _ (ap.a1 c hc).2.1 (cd.extBut _ _ (ap.a1 c hc).2.2 e);have se2:S2 (k+1) ge:=D2.frame _ _ _ sd λc hc o e=>ce.extBut _ _ (ap.a2 c hc).2.1 e;have szs:s.heap.objs.size=ge.objs.size:=by rw [ce.1,cd.1,cc.1,cb.1,sa.1]
 refine Aa (CU hOe rfl (Aa (wpAny_newTuple (Aa (m:=Fk (.ref z) (.ref ge.objs.size)) ?_))));unfold Fk;have zl:z<ge.objs.size:=Ao hze;refine Aa (Cr (show IsZip (ge.push { cls:=.type "tuple",data:=.seq #[x,y] }) z TI TO .ellipsis from Ac _ hze) (by simp) λgf cf sf=>?_);replace cf:IsZip gf z TI TO (rawInt ge.objs.size):=cf;refine Cr cf (by simp) λgg cg sg=>Ag ⟨_,rfl,?_⟩;replace cg:IsZip gg z TI TO (rawInt ge.objs.size):=cg;have up:∀ c o,c≠z->ge.get? c=some o->gg.get? c=some o:=λc o n e=>sg.extBut _ _ n (sf.extBut _ _ n (Ac _ e));have hT:IsPair gg ge.objs.size x y:=sg.extBut _ _ (Dr zl) (sf.extBut _ _ (Dr zl) (Ai _ rfl));exact q x y ge.objs.size gg _ px py szs.symm cg (up _ _ ap.oz hOe) (D1.frame _ _ _ se1 λc hc o e=>up c o (ap.a1 c hc).1 e) (D2.frame _ _ _ se2 λc hc o e=>up c o (ap.a2 c hc).1 e) hT λc o n n1 n2 n3 e=>up c o n (ke c o n n1 n2 n3 e)
def aDh (D1:Draws prog w A i1 f1 n1 P1 S1)(D2:Draws prog w A i2 f2 n2 P2 S2)(ap:Ap z TI TO i1 i2 f1 f2)(hz:IsZip s.heap z TI TO .none)(hI:IsPair s.heap TI (.ref i1) (.ref i2))(hO:IsPair s.heap TO a b)(h1:S1 k s.heap)(h2:S2 k s.heap)(hk:k=n1\/(k<n1/\k=n2))(q:∀ g e t',(∀ c o,c≠z->c≠TO->c≠i1->c≠i2->s.heap.get? c=some o->g.get? c=some o)->(∃ o,g.get? e=some o/\o.cls=.type "StopIteration")->E (.ref e) { s with heap:=g,toks:=t' }) :
  wpAny (model prog w) A (AG.«zip.__next__» ⟨[.ref z],[]⟩) Q E s:=by
 have z1:=ap.a1 i1 ap.m1;have z2:=ap.a2 i2 ap.m2;refine Aa (m:=field (.ref z) 2) (BK hz rfl (x:=.bool false) rfl (Aa (m:=field (.ref z) 3) (BK hz rfl (x:=.ref TI) rfl (Aa (CU hI rfl (Aa (m:=Cv (.ref z)) ?_))))));unfold Cv;refine Aa (BK hz rfl (x:=.none) rfl (Ag ?_));simp only [if_true];refine Aa (Dw (Aa (BK hz rfl (x:=.ref TO) rfl (Aa (Cr hz (by simp) λga ca sa=>Aa ?_)))));replace ca:IsZip ga z TI TO .ellipsis:=ca;have ka:∀ c o,c≠z->s.heap.get? c=some o->ga.get? c=some o:=λc o n e=>sa.extBut _ _ n e;simp only [List.zipIdx_cons,List.zipIdx_nil,List.forIn_cons,List.forIn_nil]
 rcases hk with e|⟨l1,e⟩
 ·subst e
  refine Aa (Aa (wpAny_onRaise (Aa (m:=Bj (.ref i1)) (D1.done _ _ _ (D1.frame _ _ _ h1 λc hc o e=>ka c o (ap.a1 c hc).1 e) λgb e cb he=>?_))));obtain ⟨oe,h3,h4⟩:=he;have hzb:IsZip gb z TI TO .ellipsis:=cb _ _ (Bi z1.1) ca;have hez:e≠z:=λx=>by rw [x,hzb] at h3;cases h3;simp at h4
  exact Cr hzb (by simp) λgc _ cc=>q gc e s.toks (λc o n _ n2 _ x=>cc.extBut _ _ n (cb _ _ n2 (ka c o n x))) ⟨oe,cc.extBut _ _ hez h3,h4⟩
 ·subst e
  refine Aa (Aa (wpAny_onRaise (Aa (m:=Bj (.ref i1)) (D1.item k _ _ _ l1 (D1.frame _ _ _ h1 λc hc o e=>ka c o (ap.a1 c hc).1 e) λx gb tb px sb cb=>Ag ?_))));have kb:∀ c o,c≠z->c≠i1->s.heap.get? c=some o->gb.get? c=some o:=λc o n n' e=>cb.extBut _ _ n' (ka c o n e);have hOb:IsPair gb TO a b:=kb _ _ ap.oz (λe=>z1.2.1 e.symm) hO;refine Aa (CU hOb rfl (Aa (wpAny_updateSeq_pair hOb λgc hOc cc=>Aa (wpAny_letGo (Ag ?_)))));have kc:∀ c o,c≠z->c≠i1->c≠TO->s.heap.get? c=some o->gc.get? c=some o:=λc o n n' n2 e=>cc.extBut _ _ n2 (kb c o n n' e);refine Aa (Aa (wpAny_onRaise (Aa (m:=Bj (.ref i2)) (D2.done _ _ _ (D2.frame _ _ _ h2 λc hc o e=>kc c o (ap.a2 c hc).1 (ap.a2 c hc).2.2 (ap.a2 c hc).2.1 e) λgd e cd he=>?_))));obtain ⟨oe,h3,h4⟩:=he;have hzd:IsZip gd z TI TO .ellipsis:=cd _ _ (Bi z2.1) (cc.extBut _ _ (Bi ap.oz) (cb.extBut _ _ (Bi z1.1) ca));have hez:e≠z:=λx=>by rw [x,hzd] at h3;cases h3;simp at h4
  exact Cr hzd (by simp) λge _ ce=>q ge e tb (λc o n n1 n2 n3 x=>ce.extBut _ _ n (cd _ _ n3 (kc c o n n2 n1 x))) ⟨oe,ce.extBut _ _ hez h3,h4⟩
def aIe {Q:Option Gk->Gm->Prop}(D1:Draws prog w A.in1 i1 f1 n1 P1 S1)(D2:Draws prog w A.in1 i2 f2 n2 P2 S2)(ap:Ap z TI TO i1 i2 f1 f2)(hz:IsZip s.heap z TI TO .none)(hI:IsPair s.heap TI (.ref i1) (.ref i2))(hO:IsPair s.heap TO a b)
  (h1:S1 k s.heap) (h2:S2 k s.heap) (l1:k<n1) (l2:k<n2)
  (q:∀ x y T g t',P1 k x->P2 k y->T=s.heap.objs.size->IsZip g z TI TO (rawInt T)->IsPair g TO x y->S1 (k+1) g->S2 (k+1) g->IsPair g T x y->(∀ c o,c≠z->c≠TO->c≠i1->c≠i2->s.heap.get? c=some o->g.get? c=some o)->Q (some (.ref T)) { s with heap:=g,toks:=t' }) :
  wpAny (model prog w) A (pyNext (.ref z)) Q E s:=by
 have ty:s.TypeIs (.ref z) "zip":=⟨_,hz,rfl⟩;unfold pyNext;exact Aa (DE (Bs (name:=CN "__next__") ty F.slot_zip_next (Bp F.slot_zip_next ty F.entry_zip_next (aDi D1 D2 ap hz hI hO h1 h2 l1 l2 λx y T g t' c1 c2 c3 c4 c5 c6 c7 c8 c9=>Ag (q x y T g t' c1 c2 c3 c4 c5 c6 c7 c8 c9)) (F.args_zip_next_1 _))))
def vB (D1:Draws prog w A.in1 i1 f1 n1 P1 S1)(D2:Draws prog w A.in1 i2 f2 n2 P2 S2)(ap:Ap z TI TO i1 i2 f1 f2)(hz:IsZip s.heap z TI TO .none)(hI:IsPair s.heap TI (.ref i1) (.ref i2))(hO:IsPair s.heap TO a b)(h1:S1 k s.heap)(h2:S2 k s.heap)(hk:k=n1\/(k<n1/\k=n2))(q:∀ g t',(∀ c o,c≠z->c≠TO->c≠i1->c≠i2->s.heap.get? c=some o->g.get? c=some o)->Q none { s with heap:=g,toks:=t' }):wpAny (model prog w) A (pyNext (.ref z)) Q E s:=by
 have ty:s.TypeIs (.ref z) "zip":=⟨_,hz,rfl⟩;unfold pyNext;refine Aa (DE (Bs (name:=CN "__next__") ty F.slot_zip_next (Bp F.slot_zip_next ty F.entry_zip_next (aDh D1 D2 ap hz hI hO h1 h2 hk λg e t' kp he=>?_) (F.args_zip_next_1 _))));obtain ⟨o,h3,h4⟩:=he;exact Aa (Fj (T:="StopIteration") (b:=true) ⟨o,h3,h4⟩ isSubtype_stop (Ag (q _ _ kp)))
end
end
def Itz (K:Ab)(a b:Gj):It:=
  ⟨λi H=>∃ xs ys,SqT K H a xs/\SqL K H b ys/\i<xs.length/\i<ys.length,
   λi H v H'=>∃ T,H T=none/\v=.ref T/\∀ xs ys,SqT K H a xs->SqL K H b ys->∃ x y,xs[i]?=some x/\ys[i]?=some y/\H'=upd H T (.tup [x,y]),
   λi H=>∃ xs ys,SqT K H a xs/\SqL K H b ys/\(i=xs.length\/(i<xs.length/\i=ys.length))⟩
def Inv.turnedL {X:Cx}{U:Ge}{Z:St}{H:Hp}{s:Gm}{h':Heap}{t':Nat}{ch:List Gj}(I:Inv X U Z H s)(k:∀ b o,b∉ch->s.heap.get? b=some o->h'.get? b=some o)(hf:∀ b∈ch,FpOk X U H b):Inv X U Z H { s with heap:=h',toks:=t' }:=by
 have nit:∀ b u,H b=some u->b∉ch:=λb u e z=>by rw [(hf b z).1] at e;cases e
 refine I.step (g':=s.gens) (d':=s.drawn) (ch:=ch) (λb hb=>⟨(hf b hb).2.2.2.1,(hf b hb).2.1,(hf b hb).2.2.2.2.1,(hf b hb).2.2.2.2.2⟩) (λb o _ _ hc e _=>k b o hc e) (λb o _ _ hc e _=>⟨o.slots,k b o hc e⟩) (λ_ _ _ _ n=>n)
  (λb o hc e=>⟨o,k b o hc e⟩) (λ_ _ e=>e) (λ_ _ _ e=>e) (λb ps e=>⟨#[],by rw [e];simp⟩) (λm hm=>?_) (λb u e=>?_) I.bare
 ·obtain ⟨o,es,ep,ho,r⟩:=hm
  exact ⟨o,es,ep,k _ o (λz=>(hf _ z).2.1 rfl) ho,r⟩
 ·refine (I.hok b u e).stay (λc v hc q=>k c v ?_ q) (λ_ q=>q) λ_ _ q=>q
  rcases hc with z|z
  ·rw [z];exact nit b u e
  ·exact nit c _ z
def ZipSt (n a b:Nat)(i:Nat)(h:Heap):Prop:=IsZip h (n+4) (n+2) (n+3) .none/\IsPair h (n+2) (.ref n) (.ref (n+1))/\(∃ x y,IsPair h (n+3) x y)/\h.IsTupleIter n a i/\h.IsListIter (n+1) b i
def aDd {n a b:Nat}(ha:a<n)(hb:b<n):Ap (n+4) (n+2) (n+3) n (n+1) [n,a] [n+1,b] where
 a1:=λc hc=>by
  have hc':c=n\/c=a:=by simpa using hc
  rcases hc' with e|e<;>(subst e;exact ⟨by show (_:Nat)≠_;lia,by show (_:Nat)≠_;lia,by show (_:Nat)≠_;lia⟩)
 a2:=λc hc=>by
  have hc':c=n+1\/c=b:=by simpa using hc
  rcases hc' with e|e<;>(subst e;exact ⟨by show (_:Nat)≠_;lia,by show (_:Nat)≠_;lia,by show (_:Nat)≠_;lia⟩)
 m1:=by simp
 m2:=by simp
 tz:=by show (_:Nat)≠_;lia
 tO:=by show (_:Nat)≠_;lia
 t1:=by show (_:Nat)≠_;lia
 t2:=by show (_:Nat)≠_;lia
 oz:=by show (_:Nat)≠_;lia
abbrev zo1 (h:Heap)(a:Gj):Heap:=h.push { cls:=.type "tuple_iterator",data:=.fields #[.ref a,.int 0 0] }
abbrev zo2 (h:Heap)(a b:Gj):Heap:=(zo1 h a).push { cls:=.type "list_iterator",data:=.fields #[.ref b,.int 0 0] }
abbrev zo3 (h:Heap)(a b:Gj):Heap:=(zo2 h a b).push { cls:=.type "tuple",data:=.seq #[.ref h.objs.size,.ref (zo1 h a).objs.size] }
abbrev zo4 (h:Heap)(a b:Gj):Heap:=(zo3 h a b).push { cls:=.type "tuple",data:=.seq #[.none,.none] }
abbrev zo5 (h:Heap)(a b:Gj):Heap:=(zo4 h a b).push { cls:=.type "zip",data:=.fields #[.none,.bool false,.bool false,.ref (zo2 h a b).objs.size,.ref (zo3 h a b).objs.size] }
def iZip (K:Ab)(ta:TA):TI:=λZ H R=>ta Z H λvs H1=>∃ a b,vs=[.ref a,.ref b]/\(∃ xs,SqT K H1 a xs)/\(∃ ys,SqL K H1 b ys)/\R (Itz K a b) H1
def aH9:BZ "zip" = some (.type "zip"):=by decide +kernel
def aEs {X:Cx}{K:Ab}(h:X.K=K)(hu:X.A.units+64<cLine):OpR X (BB .NotEq) (rNeI K):=h▸xE hu
section
variable {κ:Type}[DecidableEq κ]
def valV (kvs:List (κ×V))(k:κ):Gr:=(kvs.find? λkv=>decide (kv.1=k)).map (·.2)
def putK (kvs:List (κ×V))(k:κ)(v:V):List (κ×V):=
 if (kvs.any λkv=>decide (kv.1=k))=true then kvs.map (λkv=>if kv.1=k then (kv.1,v) else kv) else kvs++[(k,v)]
def aFn (kvs:List (κ×V))(k:κ):List (κ×V):=kvs.filter λkv=>decide (kv.1≠k)
theorem dG {p:κ×V}{r:List (κ×V)}{k:κ}(e:p.1=k):valV (p::r) k=some p.2:=by simp [valV,DM,e]
theorem dH {p:κ×V}{r:List (κ×V)}{k:κ}(e:¬ p.1=k):valV (p::r) k=valV r k:=by simp [valV,DM,e]
theorem eX (k:κ):∀ kvs:List (κ×V),(kvs.any λkv=>decide (kv.1=k))=(valV kvs k).isSome
 |[]=>rfl
 |p::r=>by
  rw [List.any_cons]
  by_cases e:p.1=k
  ·simp only [dG e,decide_eq_true e,Bool.true_or,Option.isSome_some]
  ·rw [dH e,decide_eq_false e,Bool.false_or];exact eX k r
theorem qW (k j:κ)(y:V):∀ kvs:List (κ×V),valV (kvs.map λkv=>if kv.1=k then (kv.1,y) else kv) j=(valV kvs j).map λx=>if j=k then y else x
 |[]=>rfl
 |p::r=>by
  have ih:=qW k j y r;rw [Ak]
  by_cases h:p.1=k
  ·rw [if_pos h]
   by_cases e:p.1=j
   ·rw [dG (p:=(p.1,y)) e,dG e,Dk,if_pos (e.symm.trans h)]
   ·rw [dH (p:=(p.1,y)) e,dH e,ih]
  ·rw [if_neg h]
   by_cases e:p.1=j
   ·rw [dG (p:=p) e,dG e,Dk,if_neg (λz=>h (e.trans z))]
   ·rw [dH (p:=p) e,dH e,ih]
theorem mW (k j:κ)(y:V):∀ kvs:List (κ×V),valV kvs k=none->valV (kvs++[(k,y)]) j=if j=k then some y else valV kvs j
 |[],_=>by
  by_cases e:k=j
  ·rw [if_pos e.symm];exact dG (p:=(k,y)) e
  ·rw [if_neg (λz=>e z.symm)];exact dH (p:=(k,y)) e
 |p::r,hn=>by
  rw [List.cons_append];have hk:¬ p.1=k:=λz=>by rw [dG z] at hn;cases hn
  rw [dH hk] at hn;have ih:=mW k j y r hn
  by_cases e:p.1=j
  ·rw [dG e,dG e,if_neg (λz=>hk (e.trans z))]
  ·rw [dH e,dH e,ih]
theorem qV (kvs:List (κ×V))(k j:κ)(y:V):valV (putK kvs k y) j=if j=k then some y else valV kvs j:=by
 unfold putK
 by_cases a:(kvs.any λkv=>decide (kv.1=k))=true
 ·rw [if_pos a,qW]
  rw [eX] at a
  by_cases e:j=k
  ·obtain ⟨x,hx⟩:=Option.isSome_iff_exists.mp a
   rw [if_pos e,e,hx,Dk,if_pos rfl]
  ·rw [if_neg e]
   cases valV kvs j with
   |none=>rfl
   |some x=>rw [Dk,if_neg e]
 ·rw [if_neg a]
  refine mW k j y kvs ?_;rw [eX] at a;cases q:valV kvs k with
  |none=>rfl
  |some x=>rw [q] at a;exact (a rfl).elim
def gG (kvs:List (κ×V))(k:κ)(v:V):(putK kvs k v).length<=kvs.length+1:=by
 unfold putK;split
 ·rw [Af];lia
 ·rw [Av,AX,List.length_nil];lia
theorem RelO.isSome_eq (r:RelO o u):o.isSome=u.isSome:=by
 cases o with
 |none=>cases u with
  |none=>rfl
  |some _=>exact (show False from r).elim
 |some _=>cases u with
  |none=>exact (show False from r).elim
  |some _=>rfl
theorem RelO.getD (r:RelO o u)(rd:RelV d d'):RelV (o.getD d) (u.getD d'):=by
 cases o with
 |none=>cases u with
  |none=>exact rd
  |some _=>exact (show False from r).elim
 |some _=>cases u with
  |none=>exact (show False from r).elim
  |some _=>exact r
theorem KV.val (r:KV kvs vs)(k:κ):RelO (valV kvs k) (valueAt vs k):=by
 unfold KV at r
 induction r with
 |nil=>exact Dp
 |@cons p q ps qs h t ih=>
  obtain ⟨h1,h2⟩:=h
  by_cases e:p.1=k
  ·have e':q.1=k:=h1.symm.trans e
   have b:valueAt (q::qs) k=some q.2:=by simp [valueAt,DM,e']
   rw [dG e,b];exact h2
  ·have e':¬ q.1=k:=λz=>e (h1.trans z)
   have b:valueAt (q::qs) k=valueAt qs k:=by simp [valueAt,DM,e']
   rw [dH e,b];exact ih
theorem KV.any (r:KV kvs vs)(k:κ):(kvs.any λkv=>decide (kv.1=k))=vs.any λkv=>decide (kv.1=k):=by
 unfold KV at r
 induction r with
 |nil=>rfl
 |cons h t ih=>rw [List.any_cons,List.any_cons,ih,h.1]
def KV.repl (r:KV kvs vs)(k:κ)(ry:RelV y u) :
  KV (kvs.map λkv=>if kv.1=k then (kv.1,y) else kv) (vs.map λkv=>if kv.1=k then (kv.1,u) else kv):=by
 unfold KV at r ⊢
 induction r with
 |nil=>exact .nil
 |@cons p q ps qs h t ih=>
  rw [Ak,Ak];refine .cons ?_ ih;obtain ⟨h1,h2⟩:=h
  by_cases e:p.1=k
  ·rw [if_pos e,if_pos (h1.symm.trans e)];exact ⟨h1,ry⟩
  ·rw [if_neg e,if_neg (λz=>e (h1.trans z))];exact ⟨h1,h2⟩
def KV.put (r:KV kvs vs)(k:κ)(ry:RelV y u):KV (putK kvs k y) (stored vs k u):=by
 unfold putK stored;rw [r.any k]
 by_cases e:(vs.any λkv=>decide (kv.1=k))=true
 ·rw [if_pos e,if_pos e];exact r.repl k ry
 ·rw [if_neg e,if_neg e];exact Paired.snoc r ⟨rfl,ry⟩
theorem KV.keys {kvs:List (κ×V)}{vs:List (κ×Gk)}(r:KV kvs vs):kvs.map (·.1)=vs.map (·.1):=by
 unfold KV at r
 induction r with
 |nil=>rfl
 |cons h t ih=>rw [Ak,Ak,ih,h.1]
theorem KV.length (r:KV kvs vs):kvs.length=vs.length:=Paired.length r
end
def uN {w:World}{k:Key}(r:RelV (kV k) u):(bD P w).is k u=true:=by
 cases k with
 |inl i=>obtain ⟨t,e⟩:=(show ∃ t,u=Value.int i t from r);subst e;exact qB P w i t
 |inr x=>obtain ⟨t,e⟩:=(show ∃ t,u=Value.str x t from r);subst e;exact qA P w x t
theorem nW {w:World}:∀ {ks:List Key} {us:Gi},Vals (ks.map kV) us->ItemsAre (bD P w) ks us
 |[],_,r=>by rw [List.map_nil] at r;cases r;exact .nil
 |k::ks,_,r=>by
  rw [Ak] at r;cases r with
  |cons h t=>exact .cons (uN h) (nW t)
abbrev KT (H:Hp):List (List Key×V)->List (List Key×Gj×Gk)->Prop:=Paired λp q=>p.1=q.1/\H q.2.1=some (.tup (p.1.map kV))/\RelV p.2 q.2.2
theorem KT.val (r:KT H kvs xs)(k:List Key):RelO (valV kvs k) ((atKey xs k).map (·.2)):=by
 induction r with
 |nil=>exact Dp
 |@cons p q ps qs h t ih=>
  obtain ⟨h1,_,h2⟩:=h
  by_cases e:p.1=k
  ·have e':q.1=k:=h1.symm.trans e
   have b:atKey (q::qs) k=some q.2:=by simp [atKey,DM,e']
   rw [dG e,b];exact h2
  ·have e':¬ q.1=k:=λz=>e (h1.trans z)
   have b:atKey (q::qs) k=atKey qs k:=by simp [atKey,DM,e']
   rw [dH e,b];exact ih
def KT.repl (r:KT H kvs xs)(k:List Key)(ry:RelV y u) :
  KT H (kvs.map λkv=>if kv.1=k then (kv.1,y) else kv) (xs.map (putAt k u)):=by
 induction r with
 |nil=>exact .nil
 |@cons p q ps qs h t ih=>
  rw [Ak,Ak];refine .cons ?_ ih;obtain ⟨h1,h2,h3⟩:=h;unfold putAt
  by_cases e:p.1=k
  ·rw [if_pos e,if_pos (h1.symm.trans e)];exact ⟨h1,h2,ry⟩
  ·rw [if_neg e,if_neg (λz=>e (h1.trans z))];exact ⟨h1,h2,h3⟩
def KT.put (r:KT H kvs xs)(k:List Key)(hb:H b=some (.tup (k.map kV)))(ry:RelV y u) :
  KT H (putK kvs k y) (storedH xs k b u):=by
 have e:(kvs.any λkv=>decide (kv.1=k))=(atKey xs k).isSome:=by
  rw [eX,(r.val k).isSome_eq,Option.isSome_map]
 unfold putK storedH;rw [e]
 by_cases q:(atKey xs k).isSome=true
 ·rw [if_pos q,if_pos q];exact r.repl k ry
 ·rw [if_neg q,if_neg q];exact Paired.snoc r ⟨rfl,hb,ry⟩
def KT.keeps (r:KT H kvs xs)(ht:∀ b ys,H b=some (.tup ys)->H' b=some (.tup ys)):KT H' kvs xs:=
 Paired.mapP r λ_ _ z=>⟨z.1,ht _ _ z.2.1,z.2.2⟩
section
variable {P:Aw}{w:World}{H:Hp}{h:Heap}{a:Gj}
def aGv (ok:HOk P w H h)(e:Rd H a u):ObjOk P w H h a u:=e.ok ok
def zI (ok:HOk P w H h)(e:Rd H a (.dK kvs)):kvs.length<=Au/\(a==Dx)=false/\∃ vs,KV kvs vs/\h.DictOf (bD P w) a vs:=
 show ObjOk P w H h a (.dK kvs) from aGv ok e
def uS (ok:HOk P w H h)(e:H a=some (.dK kvs)):kvs.length<=Au/\(a==Dx)=false/\∃ vs,KV kvs vs/\h.DictOf (bD P w) a vs:=zI ok (.inl e)
def sQ (ok:HOk P w H h)(e:H a=some (.tup (ks.map kV))):(tupleKind (bD P w)).is h ks a:=by
 obtain ⟨_,its,r,o,h1,h2,n,h3⟩:=(show ObjOk P w H h a (.tup (ks.map kV)) from ok a _ e);exact ⟨o,its.toArray,n,h1,h2,h3,by simpa using nW r⟩
def zH (ok:HOk P w H h)(e:Rd H a (.dT kvs)):kvs.length<=Au/\(a==Dx)=false /\
  ∃ xs,KT H kvs xs/\h.DictOfH (tupleKind (bD P w)) a xs:=by
 obtain ⟨z,y,xs,r,o,es,ep,h1,h2,h3,h4,h5⟩:=(show ObjOk P w H h a (.dT kvs) from aGv ok e);refine ⟨z,y,xs,r,o,es,ep,h1,h2,h3,h4,λx hx=>?_,h5⟩;have all:∀ {l:List (List Key×V)} {m:List (List Key×Gj×Gk)},KT H l m->∀ x∈m,(tupleKind (bD P w)).is h x.1 x.2.1:=by
  intro l m q
  induction q with
  |nil=>intro x hx;exact nomatch hx
  |@cons p q ps qs hq t ih=>
   intro x hx
   rcases Ay.mp hx with e|hx
   ·subst e
    exact sQ ok (by rw [<- hq.1];exact hq.2.1)
   ·exact ih x hx
 exact all r x hx
def aJg (ok:HOk P w H h)(e:H a=some (.dT kvs)):kvs.length<=Au/\(a==Dx)=false /\
  ∃ xs,KT H kvs xs/\h.DictOfH (tupleKind (bD P w)) a xs:=zH ok (.inl e)
end
def DGet (H:Hp)(a:Gj)(y:V)(r:Gr):Prop:=
 (∃ kvs k,Rd H a (.dK kvs)/\y=kV k/\r=valV kvs k)\/∃ kvs k b,Rd H a (.dT kvs)/\y=.ref b/\H b=some (.tup (k.map kV))/\r=valV kvs k
def DPut (H:Hp)(a:Gj)(y v:V)(H':Hp):Prop:=
 (∃ kvs k,H a=some (.dK kvs)/\y=kV k/\kvs.length<Au/\H'=upd H a (.dK (putK kvs k v))) \/
 ∃ kvs k b,H a=some (.dT kvs)/\y=.ref b/\H b=some (.tup (k.map kV))/\kvs.length<Au/\H'=upd H a (.dT (putK kvs k v))
theorem DGet.k {k:Key}(e:H a=some (.dK kvs)):DGet H a (kV k) (valV kvs k):=.inl ⟨kvs,k,.inl e,rfl,rfl⟩
theorem DPut.k {k:Key}(e:H a=some (.dK kvs))(hl:kvs.length<Au):DPut H a (kV k) v (upd H a (.dK (putK kvs k v))):=.inl ⟨kvs,k,e,rfl,hl,rfl⟩
section
variable {X:Cx}{U:Ge}{Z:St}{H:Hp}{s:Gm}{a:Gj}{y v:V}{u r:Gk}{o:Gr}{A:Around}{E:Ga}
def Inv.big (I:Inv X U Z H s):Dx<s.heap.objs.size:=by
 have h:AD<s.heap.objs.size:=(I.mod.glob.keeps I.bk).lt;exact El (by decide) h
def zP (hu:A.units+1<cLine)(I:Inv X U Z H s)(g:DGet H a y (some v))(ry:RelV y u)(h:∀ w' s',Inv X U Z H s'->RelV v w'->Q w' s') :
  wpAny (model X.prog X.w) A (getItem (.ref a) u) Q E s:=by
 rcases g with ⟨kvs,k,e,ey,l⟩|⟨kvs,k,b,e,ey,eb,l⟩
 ·subst ey
  obtain ⟨z,hd,vs,rel,dd⟩:=zI I.hok e;obtain ⟨w',hw,rw'⟩:=RelO.some_of (v:=v) (o:=valueAt vs k) (by rw [l];exact rel.val k);exact wpAny_getItem_of (uN ry) dd.mapOf hw (h w' _ (I.tok _) rw')
 ·subst ey
  cases (show u=AC b from ry);obtain ⟨z,hd,xs,rel,dd⟩:=zH I.hok e;obtain ⟨w',hw,rw'⟩:=RelO.some_of (v:=v) (o:=(atKey xs k).map (·.2)) (by rw [l];exact rel.val k);obtain ⟨p,hp,hp2⟩:=AZ.mp hw;refine wpAny_getItem_heap (tupleKind_room_in1 hu) (sQ I.hok eb) dd hp ?_;rw [hp2];exact h w' _ (I.tok _) rw'
def qM {t':Nat}(I:Inv X U Z H s)(mu:Mut (H a))(hs:Cf a s.heap h')(he:∃ q,h'.get? a=some q)(new:ObjOk X.prog X.w (upd H a ob) h' a ob) :
  Inv X U Z (upd H a ob) { s with heap:=h',toks:=t' }:=
 I.write (x:=a) (e:=a) mu (.inl rfl) (λb q hb z=>(hs.2 b hb).trans z) he new
def aC7 {w:World}(z:kvs.length<=Au)(hd:(a==Dx)=false)(rel:KV kvs vs)(dd:h'.DictOf (bD P w) a vs) :
  ObjOk P w H' h' a (.dK kvs):=⟨z,hd,vs,rel,dd⟩
def zO (hu:A.units+1<cLine)(I:Inv X U Z H s)(g:DPut H a y v H')(ry:RelV y u)(rv:RelV v r)(h:∀ s',Inv X U Z H' s'->Q () s') :
  wpAny (model X.prog X.w) A (setItem (.ref a) u r) Q E s:=by
 rcases g with ⟨kvs,k,e,ey,l,eH⟩|⟨kvs,k,b,e,ey,eb,l,eH⟩
 ·subst ey eH
  obtain ⟨z,hd,vs,rel,dd⟩:=uS I.hok e;have hz:vs.length<=Au:=by rw [<- rel.length];exact z
  have hl:(putK kvs k v).length<=Au:=by have:=gG kvs k v;lia
  refine wpAny_setItem_pairs (hsz:=hz) (uN ry) dd λh' dd' hs=>h _ ?_;have he:∃ q,h'.get? a=some q:=let ⟨q,_,_,hq,_⟩:=dd';⟨q,hq⟩;exact qM I (by rw [e];exact Dp) hs he (aC7 hl hd (rel.put k rv) dd')
 ·subst ey eH
  cases (show u=AC b from ry);obtain ⟨z,hd,xs,rel,dd⟩:=aJg I.hok e;have hz:xs.length<=Au:=by rw [<- Paired.length rel];exact z
  have hl:(putK kvs k v).length<=Au:=by have:=gG kvs k v;lia
  refine wpAny_setItem_heap (hsz:=hz) (tupleKind_room_in1 hu) (sQ I.hok eb) dd λh' dd' hs=>h _ ?_;obtain ⟨q,es,ep,hq,h2,h3,h4,_,h5⟩:=dd';refine qM I (by rw [e];exact Dp) hs ⟨q,hq⟩ ⟨hl,hd,_,(rel.put k eb rv).keeps λc ys ec=>?_,q,es,ep,hq,h2,h3,h4,h5⟩;rw [aK (aI5 ec e (λz=>nomatch z))];exact ec
end
section
variable {X:Cx}{U:Ge}{Z:St}{H:Hp}{s:Gm}{a:Gj}{kvs:Gp}{k:Key}{u:Gk}{A:Around}{E:Ga}
end
def NoSl (i:Expr):Prop:=∀ ov iv,subscripted i false ov iv=operate [ov,iv] (getItem ov iv)
def aDp {prog:Aw}{w:World}{A:Around}{E:Ga}{s:Gm}{env:Env}{value slice:Expr}{pos:Pos}{T id:String}{Q:Ga}
  (hl:typeLookup (.type T) "__getitem__" = pure (some (.builtin id))) (hs:NoSl slice)
  (h:wpAny (model prog w) A (eval value env) (λo s₁=>wpAny (model prog w) A (eval slice env) (λi s₂=>s₂.TypeIs o T/\wpAny (model prog w) A (getItem o i) Q E s₂) E s₁) E s) :
  wpAny (model prog w) A (eval (.Subscript value slice pos) env) Q E s:=by
 refine Subscript_ (BR h (λo s₁ h₁=>BR h₁ (λi s₂ h₂=>?_) λ_ _ x=>x) λ_ _ x=>x);obtain ⟨hT,h₂⟩:=h₂;unfold subscriptTail;refine Aa ?_;rw [getitemInPython_of_ne hT.not_modules];refine Aa (wpAny_specialOf hT hl ?_);have fin:wpAny (model prog w) A (subscripted slice false o i) (λr s₃=>wpAny (model prog w) A (letTemporaryGo value o r >>= λ_=>pure r) Q E s₃) E s₂:=by
  rw [hs o i];exact wpAny_operating (BR h₂ (λr s₃ h₃=>Aa (wpAny_letTemporaryGo (Ag h₃))) λ_ _ x=>x)
 first
  |exact Ag (Aa fin)
  |exact Aa (Ag (Aa fin))
  |exact Aa fin
def qK {Z:St}(I:Inv X U Z H s)(g:DGet H a y o):s.TypeIs (.ref a) "dict":=by
 rcases g with ⟨kvs,k,e,_,_⟩|⟨kvs,k,b,e,_,_,_⟩
 ·obtain ⟨_,_,vs,_,dd⟩:=zI I.hok e
  exact dd.typeIs
 ·obtain ⟨_,_,xs,_,dd⟩:=zH I.hok e
  exact dd.typeIs
inductive RDGet (Q:VK)(x y:V)(H:Hp):Prop
 |mk (a:Gj) (v:V) (e:x=.ref a) (g:DGet H a y (some v)) (h:Q v H)
def aIm (td ty:TE):TE:=λZ H Q=>td Z H λx H1=>ty Z H1 λy H2=>RDGet Q x y H2
def tDIn (ty td:TE):TE:=λZ H Q=>ty Z H λy H1=>td Z H1 λx H2=>∃ a o,x=.ref a/\DGet H2 a y o/\Q (.bl o.isSome) H2
def tDNotIn (ty td:TE):TE:=λZ H Q=>ty Z H λy H1=>td Z H1 λx H2=>∃ a o,x=.ref a/\DGet H2 a y o/\Q (.bl (!o.isSome)) H2
inductive RDPut (N:Hp->Prop)(x y v:V)(H:Hp):Prop
 |mk (a:Gj) (H4:Hp) (e:x=.ref a) (g:DPut H a y v H4) (h:N H4)
def aIr (td ty tv:TE):TS:=λD Z H=>tv Z H λv H1=>td Z H1 λx H2=>ty Z H2 λy H3=>RDPut (D.nx Z) x y v H3
def sDAug (td ty tv:TE)(rd:V->V->Hp->VK->Prop):TS:=λD Z H=>td Z H λx H1=>ty Z H1 λy H2=>∃ a v,x=.ref a/\DGet H2 a y (some v) /\
 tv Z H2 λy2 H3=>rd v y2 H3 λz H4=>∃ H5,DPut H4 a y z H5/\D.nx Z H5
def sDDel (td ty:TE):TS:=λD Z H=>td Z H λx H1=>ty Z H1 λy H2=>∃ a kvs k,x=.ref a/\H2 a=some (.dK kvs)/\y=kV k/\(valV kvs k).isSome=true/\D.nx Z (upd H2 a (.dK (aFn kvs k)))
section
variable {X:Cx}{o i e value:Expr}{pos pos' tpos:Pos}{td ty tv:TE}
def jW (hu:X.A.units+1<cLine)(ho:PE X o td)(hi:PE X i ty)(hs:NoSl i):PE X (.Subscript o i pos) (aIm td ty):=by
 intro U s Z H Q I h;refine aDp PySem.F.slot_dict_getitem.lookup hs (thn (ho U s Z H _ I h) λu s1 ⟨x,H1,I1,rx,q1⟩=>thn (hi U s1 Z H1 _ I1 q1) λiv s2 ⟨y,H2,I2,ry,a,v,ex,g,q2⟩=>?_);subst ex;obtain rfl:u=AC a:=rx;exact ⟨qK I2 g,zP hu I2 g ry λw' s3 I3 rw'=>⟨v,H2,I3,rw',q2⟩⟩
def pS (hu:X.A.units+1<cLine)(ho:PE X o td)(hi:PE X i ty)(hv:PE X value tv)(hs:Fd value (some (.Subscript o i pos')) pos.line X.env=pure false) :
  PS X (.Assign [.Subscript o i pos'] value pos) (aIr td ty tv):=by
 intro U s Z H D I h;refine wpAny_Assign_Subscript (thn (hv U s Z H _ I h) λr s1 ⟨v,H1,I1,rv,q1⟩=>thn (ho U s1 Z H1 _ I1 q1) λu s2 ⟨x,H2,I2,rx,q2⟩=>thn (hi U s2 Z H2 _ I2 q2) λiv s3 ⟨y,H3,I3,ry,a,H4,ex,g,q3⟩=>?_) hs;subst ex;obtain rfl:u=AC a:=rx;exact zO hu I3 g ry rv λs4 I4=>⟨Z,H4,I4,q3⟩
end
def tD {w:World}(h:Heap)(hb:Dx<h.objs.size):ObjOk P w H (h.push { cls:=.type "dict",data:=.dict #[] }) h.objs.size (.dK []):=
 ⟨Bu _,beq_eq_false_iff_ne.mpr (Bi (As hb)),[],.nil,Heap.DictOf.new h⟩
def aGa:TE:=λ_ H Q=>∀ p,H p=none->Q (.ref p) (upd H p (.dK []))
def tDNewT:TE:=λ_ H Q=>∀ p,H p=none->Q (.ref p) (upd H p (.dT []))
section
variable {X:Cx}{pos:Pos}
def rP:PE X (.Dict [] [] pos) aGa:=λU s Z H Q I h=>
 wpAny_Dict_empty ⟨.ref s.heap.objs.size,_,I.laid (a:=s.heap.objs.size) (o:=.dK []) (t':=s.toks) (λ_ _ q=>Ac _ q) (Aj _) (tD s.heap I.big),rfl,h _ (I.hok.fresh (Aj _))⟩
end
def vI:List (TE×TE)->St->Hp->(List (V×V)->Hp->Prop)->Prop
  |[],_,H,Q=>Q [] H
  |(tk,tv)::r,Z,H,Q=>tk Z H λx H1=>tv Z H1 λy H2=>vI r Z H2 λps H3=>Q ((x,y)::ps) H3
abbrev VV:List (V×V)->List (Gk×Gk)->Prop:=Paired λp q=>RelV p.1 q.1/\RelV p.2 q.2
def PPs (X:Cx)(pos:Pos)(keys:List (Option Expr))(values:List Expr)(trs:List (TE×TE)):Prop:=
 ∀ (U:Ge) (s:Gm) (Z:St) (H:Hp) (Q:List (V×V)->Hp->Prop),Inv X U Z H s->vI trs Z H Q ->
  wpAny (model X.prog X.w) X.A (evalPairs (pairTrees keys values X.env pos)) (λvs s'=>∃ ps H',Inv X U Z H' s'/\VV ps vs/\Q ps H') X.xe s
def wO :PPs X pos [] [] []:=λU s Z H Q I h=>pairTrees_nil_walk ⟨[],H,I,.nil,h⟩
def rO {k v:Expr}{tk tv:TE}(hk:PE X k tk)(hv:PE X v tv)(hr:PPs X pos ks vs trs) :
  PPs X pos (some k::ks) (v::vs) ((tk,tv)::trs):=λU s Z H Q I h=>
 pairTrees_cons_walk (thn (hk U s Z H _ I h) λu s1 ⟨x,H1,I1,rx,q1⟩=>thn (hv U s1 Z H1 _ I1 q1) λw2 s2 ⟨y,H2,I2,ry,q2⟩=>
  thn (hr U s2 Z H2 _ I2 q2) λws s3 ⟨ps,H3,I3,rel,q3⟩=>⟨(x,y)::ps,H3,I3,.cons ⟨rx,ry⟩ rel,q3⟩)
def lI (kvs more:Gp):Gp:=more.foldl (λacc kv=>putK acc kv.1 kv.2) kvs
def KV.merge:∀ {more:Gp} {rs:List (Key×Gk)} {kvs:Gp} {vs:List (Key×Gk)},KV more rs->KV kvs vs->KV (lI kvs more) (merged vs rs):=by
 intro more rs kvs vs r;unfold KV at r
 induction r generalizing kvs vs with
 |nil=>intro q;exact q
 |@cons p q ps qs h t ih=>
  intro r0;have e:KV (putK kvs p.1 p.2) (stored vs q.1 q.2):=by
   have:=r0.put p.1 h.2;rw [<- h.1];exact this
  exact ih e
theorem gX:∀ (more kvs:Gp),(lI kvs more).length<=kvs.length+more.length
 |[],kvs=>by show kvs.length<=kvs.length+0;lia
 |p::r,kvs=>by
  have h1:=gX r (putK kvs p.1 p.2);have h2:=gG kvs p.1 p.2;show (lI (putK kvs p.1 p.2) r).length<=_;rw [AX];lia
theorem lN {w:World}:∀ {kvs:Gp} {ws:List (Gk×Gk)},VV (kvs.map λkv=>(kV kv.1,kv.2)) ws->∃ rs,Carries (bD P w) ws rs/\KV kvs rs
 |[],_,r=>by rw [List.map_nil] at r;cases r;exact ⟨[],Dp,.nil⟩
 |p::kvs,_,r=>by
  rw [Ak] at r;cases r with
  |@cons a b as bs h t=>
   obtain ⟨rs,c,q⟩:=lN (P:=P) (w:=w) t;obtain ⟨b1,b2⟩:=b;exact ⟨(p.1,b2)::rs,⟨uN h.1,rfl,c⟩,.cons ⟨rfl,h.2⟩ q⟩
def aIl (trs:List (TE×TE)):TE:=λZ H Q=>∀ p,H p=none->vI trs Z (upd H p (.dK [])) λps H2=>H2 p=some (.dK [])/\∃ kvs:Gp,ps=kvs.map (λkv=>(kV kv.1,kv.2))/\kvs.length<=15/\Q (.ref p) (upd H2 p (.dK (lI [] kvs)))
def wX {keys:List (Option Expr)}(h:PPs X pos keys values trs)(hall:keys.all (·.isSome)=true)(hl:keys.length=values.length)(h0:keys≠[])(h15:keys.length<=15):PE X (.Dict keys values pos) (aIl trs):=by
 intro U s Z H Q I q;have hn:=I.hok.fresh (Aj s.heap.objs.size);have I1:=I.laid (a:=s.heap.objs.size) (o:=.dK []) (h':=s.heap.push { cls:=.type "dict",data:=.dict #[] }) (t':=s.toks) (λ_ _ q=>Ac _ q) (Aj _) (tD s.heap I.big);refine wpAny_Dict_walk (knd:=bD X.prog X.w) hall hl h0 h15 (thn (h U _ Z _ _ I1 (q _ hn)) λws s2 ⟨ps,H2,I2,rel,e,kvs,ep,lk,q2⟩=>?_);subst ep;obtain ⟨rs,c,rk⟩:=lN (P:=X.prog) (w:=X.w) rel;obtain ⟨z,hd,vs0,r0,dd⟩:=uS I2.hok e;cases r0;refine ⟨rs,c,dd,λh' dd' hs=>⟨.ref s.heap.objs.size,_,?_,rfl,q2⟩⟩;have hz:(lI [] kvs).length<=Au:=by
  have h1:=gX kvs [];rw [List.length_nil] at h1;rw [sizeLine_eq];lia
 have he:∃ q,h'.get? s.heap.objs.size=some q:=let ⟨q,_,_,hq,_⟩:=dd';⟨q,hq⟩;exact qM I2 (by rw [e];exact Dp) hs he (aC7 hz hd (rk.merge .nil) dd')
structure M1 (X:Cx)(o:Expr)(m:Str)(apos:Pos)(e:Expr)(cpos:Pos):Prop where
 base:EJ o m X.env (eval o X.env)=eval o X.env
 few:((backTo cpos (AL [e] X.env)).all (λx=>!x.1)&&(backToKw cpos (keywordEach [] X.env)).all (λx=>x.1.isSome)
  && decide (([e]:List Expr).length+([]:List Keyword).length+(if ([]:List Keyword).isEmpty then 0 else 1)<30))=true
 line:(apos.endLine==cpos.line)=true
 trees:backTo cpos (AL [e] X.env)=[(false,eval e X.env)]
structure M2 (X:Cx)(o:Expr)(m:Str)(apos:Pos)(e f:Expr)(cpos:Pos):Prop where
 base:EJ o m X.env (eval o X.env)=eval o X.env
 few:((backTo cpos (AL [e,f] X.env)).all (λx=>!x.1)&&(backToKw cpos (keywordEach [] X.env)).all (λx=>x.1.isSome)
  && decide (([e,f]:List Expr).length+([]:List Keyword).length+(if ([]:List Keyword).isEmpty then 0 else 1)<30))=true
 line:(apos.endLine==cpos.line)=true
 trees:backTo cpos (AL [e,f] X.env)=[(false,eval e X.env),(false,eval f X.env)]
def IsD (H:Hp)(a:Gj):Prop:=(∃ kvs,Rd H a (.dK kvs))\/∃ kvs,Rd H a (.dT kvs)
def aCz {Z:St}(I:Inv X U Z H s)(d:IsD H a) :
  s.TypeIs (.ref a) "dict" /\ (∀ b,AC a=.ref b->∃ ob,s.heap.get? b=some ob/\ob.dict=none)/\(a==Dx)=false:=by
 rcases d with ⟨kvs,e⟩|⟨kvs,e⟩
 ·obtain ⟨_,hd,vs,_,dd⟩:=zI I.hok e
  refine ⟨dd.typeIs,λb q=>?_,hd⟩;cases q;obtain ⟨ob,_,_,h1,h2,_⟩:=dd;exact ⟨ob,h1,h2.2.1⟩
 ·obtain ⟨_,hd,xs,_,dd⟩:=zH I.hok e
  refine ⟨dd.typeIs,λb q=>?_,hd⟩;cases q;obtain ⟨ob,_,_,h1,h2,_⟩:=dd;exact ⟨ob,h1,h2.2.1⟩
section
variable {X:Cx}{U:Ge}{Z:St}{H:Hp}{s:Gm}{a:Gj}{y d:V}{u r:Gk}{o:Gr}{A:Around}{E:Ga}
def aH7 (hu:A.units+1<cLine)(I:Inv X U Z H s)(g:DGet H a y o)(ry:RelV y u)(rd:RelV d r)(h:∀ w' s',Inv X U Z H s'->RelV (o.getD d) w'->Q w' s') :
  wpAny (model X.prog X.w) A (call (.builtin "dict.get") [.ref a,u,r]) Q E s:=by
 rcases g with ⟨kvs,k,e,ey,l⟩|⟨kvs,k,b,e,ey,eb,l⟩
 ·subst ey
  obtain ⟨z,hd,vs,rel,dd⟩:=zI I.hok e;refine call_meetsIn DF dd.typeIs PySem.F.entry_dict_get (PySem.F.args_dict_get_3 _ _ _) (meets_dict_get_default (bD X.prog X.w) a (uN ry) hd r) ⟨_,dd.mapOf,h _ _ (I.tok _) ?_⟩;rw [l];exact (rel.val k).getD rd
 ·subst ey
  cases (show u=AC b from ry);obtain ⟨z,hd,xs,rel,dd⟩:=zH I.hok e;refine call_meetsIn DF dd.typeIs PySem.F.entry_dict_get (PySem.F.args_dict_get_3 _ _ _) (meetsH_dict_get_default (tupleKind (bD X.prog X.w)) a b hd r) ⟨tupleKind_room_in1 hu,k,xs,sQ I.hok eb,dd,h _ _ (I.tok _) ?_⟩;rw [l];exact (rel.val k).getD rd
end
def tDGet1 (td ty:TE):TE:=λZ H Q=>td Z H λx H1=>∃ a,x=.ref a/\IsD H1 a/\ty Z H1 λy H2=>∃ o,DGet H2 a y o/\Q (o.getD .non) H2
def aGb (td ty tx:TE):TE:=λZ H Q=>td Z H λx H1=>∃ a,x=.ref a/\IsD H1 a/\ty Z H1 λy H2=>tx Z H2 λz H3=>∃ o,DGet H3 a y o/\Q (o.getD z) H3
def tDPop1 (td ty:TE):TE:=λZ H Q=>td Z H λx H1=>∃ a,x=.ref a/\IsD H1 a/\ty Z H1 λy H2=>∃ kvs k v,H2 a=some (.dK kvs)/\y=kV k/\valV kvs k=some v/\Q v (upd H2 a (.dK (aFn kvs k)))
def tDPop2 (td ty tx:TE):TE:=λZ H Q=>td Z H λx H1=>∃ a,x=.ref a/\IsD H1 a/\ty Z H1 λy H2=>tx Z H2 λz H3=>∃ kvs k,H3 a=some (.dK kvs)/\y=kV k /\
 (∀ v,valV kvs k=some v->Q v (upd H3 a (.dK (aFn kvs k))))/\(valV kvs k=none->Q z H3)
section
variable {X:Cx}{o e f:Expr}{apos cpos:Pos}{td ty tx:TE}
def rQ (hu:X.A.units+1<cLine)(ho:PE X o td)(he:PE X e ty)(hf:PE X f tx)(m:M2 X o "get" apos e f cpos):PE X (.Call (.Attribute o "get" apos) [e,f] [] cpos) (aGb td ty tx):=by
 intro U s Z H Q I h;refine wpAny_Call_method m.base m.few m.line Fv DF PySem.F.type_dict_get (thn (ho U s Z H _ I h) λu s1 ⟨x,H1,I1,rx,a,ex,d,q1⟩=>?_);subst ex;obtain rfl:u=AC a:=rx;obtain ⟨t1,t2,_⟩:=aCz I1 d;refine ⟨t1,t2,?_⟩;rw [m.trees];refine DD rfl (ES (En (thn (he U s1 Z H1 _ I1 q1) λiv s2 ⟨y,H2,I2,ry,q2⟩=>
  En (thn (hf U s2 Z H2 _ I2 q2) λfv s3 ⟨z,H3,I3,rz,ov,g,q3⟩=>Calls.spliced_nil ?_))))
 exact aH7 hu I3 g ry rz λw' s4 I4 rw'=>⟨_,H3,I4,rw',q3⟩
end
section
variable {X:Cx}{U:Ge}{Z:St}{H:Hp}{s:Gm}{a:Gj}{kvs:Gp}{A:Around}{E:Ga}
end
section
variable {X:Cx}{U:Ge}{Z:St}{H:Hp}{s:Gm}{a:Gj}{y:V}{u:Gk}{A:Around}{E:Ga}
end
def hW :∀ {us:Gi},Vals (ss.map V.str) us->EK us ss:=by
 induction ss with
 |nil=>intro us r;rw [List.map_nil] at r;cases r;exact .nil
 |cons n ns ih=>
  intro us r;rw [Ak] at r;cases r with
  |cons r1 r2=>
   obtain ⟨t,rfl⟩:=r1;exact .cons _ _ (ih r2)
theorem eK:∀ {us:Gi} {ss:Gh},EK us ss->Vals (ss.map V.str) us
 |_,_,.nil=>.nil
 |_,_,.cons _ _ h=>.cons ⟨_,rfl⟩ (eK h)
def sJ {w:World}{e:Nat}(hv:Vals xs its)(hz:xs.length<=Au)(ho:h.get? a=some (seqObj "list" its.toArray e)):ObjOk P w H h a (.lst xs):=⟨hz,its,e,hv,ho⟩
section
variable {X:Cx}
def aGy (K:Ab):Gq->Hp->VK->Prop:=λxs H Q=>∃ a,∃ ss:Gh,xs=[.ref a]/\SqL K H a (ss.map V.str)/\ss.length<64/\∀ (p:Gj) (ss':Gh),ss'.Perm ss->sortedS ss'=true->H p=none->Q (.ref p) (upd H p (.lst (ss'.map V.str)))
def lO:fH X (.builtin "sorted") (aGy X.K):=by
 intro U s Z H xs us Q I r h;obtain ⟨a,ss,rfl,hq,h64,q⟩:=h;obtain ⟨u,rfl,rx⟩:=vals1 r;cases rx;obtain ⟨its,r',pl,hz⟩:=I.list hq;have hl:=r'.length;rw [Af] at hl;refine sorted_strs (pl.isList) (hW r') (by lia) λout ss' a1 a2 a3=>?_;obtain ⟨e,he⟩:=sortedAll_at s.heap its out;refine ⟨.ref (s.heap.objs.size+1),_,I.laid (a:=s.heap.objs.size+1) (o:=.lst (ss'.map V.str)) (t':=s.toks) (λ_ _=>sortedAll_old) (Dj _) (sJ (its:=out.toList) (e:=e) (eK a1) ?_ (by rw [ET];exact he)),rfl,q _ ss' a2 a3 (I.hok.fresh (Dj _))⟩;rw [Af,a2.length_eq];exact cJ (by lia)
def rSortI (K:Ab):Gq->Hp->VK->Prop:=λxs H Q=>∃ a,∃ ns:List Int,xs=[.ref a]/\SqL K H a (ns.map V.int)/\ns.length<64/\∀ (p:Gj) (ns':List Int),ns'.Perm ns->ns'.Pairwise (·<=·)->H p=none->Q (.ref p) (upd H p (.lst (ns'.map V.int)))
theorem nR {w:World}:∀ {ss:Gh} {vs:List (Key×Gk)} {acc:Gi},vs.map (·.1)=ss.map AM->acc.length=vs.length->(∀ (j:Nat) (v:Gk),acc[j]?=some v->∃ k x,vs[j]?=some (k,x)/\(bD P w).is k v=true)->EK acc ss
 |[],[],[],_,_,_=>.nil
 |[],_::_,_,e,_,_=>by simp at e
 |_::_,[],_,e,_,_=>by simp at e
 |[],[],_::_,_,l,_=>by simp at l
 |_::_,_::_,[],_,l,_=>by simp at l
 |x::ss,(k,y)::vs,v::acc,e,l,h=>by
  simp only [Ak,List.cons.injEq] at e;obtain ⟨e1,e2⟩:=e;obtain ⟨k',x',h1,h2⟩:=h 0 v rfl;simp at h1;obtain ⟨rfl,rfl⟩:=h1;subst e1;obtain ⟨t,rfl⟩:=Dq (x:=x) (v:=v) h2;exact .cons _ _ (nR e2 (by simpa using l) λj v hv=>h (j+1) v (by simpa using hv))
def pB {Z:St}(hh:A.handled=none)(I:Inv X U Z H s)(hH:H a=some (.dK kvs))(h:∀ (h':Heap) (tk:Nat) (acc:Gi) (vs:List (Key×Gk)),KV kvs vs->acc.length=vs.length->(∀ (j:Nat) (v:Gk),acc[j]?=some v->∃ k x,vs[j]?=some (k,x)/\(bD X.prog X.w).is k v=true)->(∀ b o,s.heap.get? b=some o->h'.get? b=some o) ->
   wpAny (model X.prog X.w) A.in1 (call (.builtin "list.sort") [.ref h'.objs.size]) (λ_ s'=>Q (.ref h'.objs.size) s') E { s with heap:=h'.push (seqObj "list" acc.toArray 0),toks:=tk }) :
  wpAny (model X.prog X.w) A (call (.builtin "sorted") [.ref a]) Q E s:=by
 obtain ⟨z,lo,vs,rel,dd⟩:=uS I.hok hH;obtain ⟨ep,hat⟩:=dd.dictAt;have hlen:=rel.length;refine Fp kind_sorted plain_sorted entry_sorted (args_sorted1 _) ?_;unfold AG.«sorted»;refine Aa (m:=checkCount "sorted" 1 1 _) (Ag ?_);refine Aa (PySem.W.kdu_collect (A:=A.in1) (PySem.W.kdl_dict (knd:=bD X.prog X.w) (kvs:=vs) (ep:=ep) lo) hh hat (by rw [<- hlen];exact z) λh' tk acc hk hacc=>?_);have hl:acc.toList.length=vs.length:=by rw [BE];exact hacc.1
 refine Aa (wpAny_newList ?_ (by rw [hl,<- hlen];exact z));have hg:=h h' tk acc.toList vs rel hl (λj v e=>hacc.2 j v (by rw [<- Bd];exact e)) hk;refine Aa (Br (BR hg (λ_ s' x=>?_) λ_ _ e=>e));exact Ag ⟨_,rfl,x⟩
def aEg:Gq->Hp->VK->Prop:=λxs H Q=>∃ a kvs,∃ ss:Gh,xs=[.ref a]/\H a=some (.dK kvs)/\kvs.map (·.1)=ss.map AM/\kvs.length<64/\∀ (p:Gj) (ss':Gh),ss'.Perm ss->sortedS ss'=true->H p=none->Q (.ref p) (upd H p (.lst (ss'.map V.str)))
def qP (hc:X.calm=true):fH X (.builtin "sorted") aEg:=by
 intro U s Z H xs us Q I r h;obtain ⟨a,kvs,ss,rfl,hH,hk,h64,q⟩:=h;obtain ⟨u,rfl,rx⟩:=vals1 r;cases rx;refine pB (I.ok.hd hc) I hH λh' tk acc vs rel hl hacc keep=>?_;have hS:=nR (ss:=ss) (by rw [<- rel.keys];exact hk) hl hacc;have hlen:=rel.length;have hssl:ss.length=kvs.length:=by
  have:=congrArg List.length hk;rw [Af,Af] at this;exact this.symm
 have hoL:(h'.push (seqObj "list" acc.toArray 0)).get? h'.objs.size=some (seqObj "list" acc.toArray 0):=Ai _ rfl;refine Bp slot_list_sort ⟨_,hoL,rfl⟩ entry_list_sort (list_sort_treeK strKind_oneLt hoL hS.keysOf (λv₁ v₂ rest e=>keyKind_strs (by rw [<- e];exact hS)) (by lia) λst' hp hs=>⟨_,rfl,?_⟩) (args_list_sort _);obtain ⟨ss',a1,a2,a3⟩:=sorted_out_str hS hp hs;obtain ⟨e,he⟩:∃ e,(sortedHeap (h'.push (seqObj "list" acc.toArray 0)) h'.objs.size acc ((arrOf st').map (·.2))).get? h'.objs.size=some (seqObj "list" ((arrOf st').map (·.2)) e):=sortedHeap_at hoL;have I1:=I.kept (t':=tk) keep;refine ⟨.ref h'.objs.size,_,I1.laid (a:=h'.objs.size) (o:=.lst (ss'.map V.str)) (t':=tk) (λb o hb'=>?_) (Aj _) (sJ (its:=((arrOf st').map (·.2)).toList) (e:=e) (eK a1) ?_ (by rw [ET];exact he)),rfl,q _ ss' a2 a3 (I1.hok.fresh (Aj _))⟩
 ·have lt:=Ao hb'
  rw [sortedHeap_old (As lt) (by rw [BH];exact Cg lt)];exact Ac _ hb'
 ·rw [Af,a2.length_eq]
  exact cJ (by lia)
def rSortDI:Gq->Hp->VK->Prop:=λxs H Q=>∃ a kvs,∃ ns:List Int,xs=[.ref a]/\H a=some (.dK kvs)/\kvs.map (·.1)=ns.map Sum.inl/\kvs.length<64/\∀ (p:Gj) (ns':List Int),ns'.Perm ns->ns'.Pairwise (·<=·)->H p=none->Q (.ref p) (upd H p (.lst (ns'.map V.int)))
end
variable {X:Cx}
def tRev (K:Ab)(te:TE)(tk:TO):TE:=λZ H Q=>te Z H λx H1=>tk Z H1 λst H2=>st=some (-1)/\∃ a xs,x=.ref a/\SqL K H2 a xs/\∀ p,H2 p=none->Q (.ref p) (upd H2 p (.lst xs.reverse))
def tListRng (ta:TA):TE:=λZ H Q=>ta Z H λvs H1=>∃ i j:Int,vs=[.int i,.int j]/\(-(2^62)<=i/\i<2^62/\-(2^62)<=j/\j<2^62)/\(j-i).toNat<=1000/\∀ p,H1 p=none->Q (.ref p) (upd H1 p (.lst (rngV i (j-i).toNat)))
def tListVals (td:TE):TE:=λZ H Q=>td Z H λx H1=>∃ a kvs,x=.ref a/\H1 a=some (.dK kvs)/\∀ p,H1 p=none->Q (.ref p) (upd H1 p (.lst (kvs.map (·.2))))
def Itz2 (K:Ab)(a b:Gj):It:=
  ⟨λi H=>∃ xs ys,SqT K H a xs/\SqT K H b ys/\i<xs.length/\i<ys.length,
   λi H v H'=>∃ T,H T=none/\v=.ref T/\∀ xs ys,SqT K H a xs->SqT K H b ys->∃ x y,xs[i]?=some x/\ys[i]?=some y/\H'=upd H T (.tup [x,y]),
   λi H=>∃ xs ys,SqT K H a xs/\SqT K H b ys/\(i=xs.length\/(i<xs.length/\i=ys.length))⟩
def aDe (n a b:Nat)(i:Nat)(h:Heap):Prop:=IsZip h (n+4) (n+2) (n+3) .none/\IsPair h (n+2) (.ref n) (.ref (n+1))/\(∃ x y,IsPair h (n+3) x y)/\h.IsTupleIter n a i/\h.IsTupleIter (n+1) b i
def vD {P:Aw}{w:World}{K:Ab}{es:List Expr}{k1:Nat}{p1:Pos}{n a b:Nat}(ha:a<n)(hb:b<n) :
  Turn P w K (.Tuple es k1 p1) (Itz2 K a b) [n+4,n+2,n+3,n,n+1] (n+4) (aDe n a b) where
 mem:=by simp
 obj:=λi h st c hc=>by
  obtain ⟨c1,c2,⟨x,y,c3⟩,⟨o4,d4,_,f4⟩,⟨o5,d5,_,f5⟩⟩:=st;have hc':c=n+4\/c=n+2\/c=n+3\/c=n\/c=n+1:=by simpa using hc
  rcases hc' with e|e|e|e|e
  ·subst e;exact ⟨_,c1,λv z=>by cases z⟩
  ·subst e;exact ⟨_,c2,λv z=>by cases z⟩
  ·subst e;exact ⟨_,c3,λv z=>by cases z⟩
  ·subst e;exact ⟨_,d4,λv z=>by rw [f4] at z;cases z⟩
  ·subst e;exact ⟨_,d5,λv z=>by rw [f5] at z;cases z⟩
 keep:=λi h h' st k=>by
  obtain ⟨c1,c2,⟨x,y,c3⟩,c4,c5⟩:=st;exact ⟨k _ (by simp) _ c1,k _ (by simp) _ c2,⟨x,y,k _ (by simp) _ c3⟩,c4.at λo e=>k _ (by simp) o e,c5.at λo e=>k _ (by simp) o e⟩
 item:=by
  intro X hP hw hK hc i U s Z H E I hf st hg;subst hP hw hK;obtain ⟨xs,ys,hx,hy,l1,l2⟩:=hg;obtain ⟨its,r1,tx,_⟩:=I.tuple hx;obtain ⟨its',r2,ty,_⟩:=I.tuple hy;have e1:=r1.length;have e2:=r2.length;obtain ⟨c1,c2,⟨x0,y0,c3⟩,c4,c5⟩:=st;have hh:X.A.in1.handled=none:=I.ok.hd hc;refine aIe (iW hh n a (by show (_:Nat)≠_;lia) its.toArray) (iW hh (n+1) b (by show (_:Nat)≠_;lia) its'.toArray) (aDd ha hb) c1 c2 c3 ⟨c4,tx⟩ ⟨c5,ty⟩ (by rw [An];lia) (by rw [An];lia) λx y T g t' px py hT cz cO s1 s2 cT kp=>⟨.ref T,rfl,?_⟩;subst hT;refine wpAny_letOwnedTupleGo_zip (s:={ s with heap:=g,toks:=t' }) cz λg' cz' sb=>?_;obtain ⟨vx,hvx⟩:∃ v,xs[i]?=some v:=⟨_,Ae l1⟩;obtain ⟨vy,hvy⟩:∃ v,ys[i]?=some v:=⟨_,Ae l2⟩;obtain ⟨ux,hux,rx⟩:=r1.get hvx;obtain ⟨uy,huy,ry⟩:=r2.get hvy;have ex:x=ux:=by
   have:its.toArray[i]?=some x:=px;rw [<- Bd,Fe,hux] at this;exact (AF this).symm
  have ey:y=uy:=by
   have:its'.toArray[i]?=some y:=py;rw [<- Bd,Fe,huy] at this;exact (AF this).symm
  subst ex ey;have hfr:H s.heap.objs.size=none:=I.hok.fresh (Aj _);have I0:Inv X U Z (upd H s.heap.objs.size (.tup [vx,vy])) { s with heap:=s.heap.push { cls:=.type "tuple",data:=.seq #[x,y] },toks:=t' }:=
   I.laid (λc u q=>Ac _ q) (Aj _) ⟨⟨by show 2<=Au;decide,_,Ai s.heap rfl,rfl⟩,[x,y],.cons rx (.cons ry .nil),⟨_,Ai s.heap rfl,rfl,_,rfl⟩⟩
  have lz:n+4<s.heap.objs.size:=Ao c1;have fpn:∀ c∈[n+4,n+2,n+3,n,n+1],c≠s.heap.objs.size:=λc hc'=>by
   have hc'':c=n+4\/c=n+2\/c=n+3\/c=n\/c=n+1:=by simpa using hc'
   rcases hc'' with e|e|e|e|e<;>(subst e;exact As (by lia))
  have hf0:∀ c∈[n+4,n+2,n+3,n,n+1],FpOk X U (upd H s.heap.objs.size (.tup [vx,vy])) c:=λc hc'=>⟨by rw [aK (fpn c hc')];exact (hf c hc').1,(hf c hc').2⟩;have I1:Inv X U Z (upd H s.heap.objs.size (.tup [vx,vy])) { s with heap:=g',toks:=t' }:=by
   refine Inv.turnedL (s:={ s with heap:=s.heap.push { cls:=.type "tuple",data:=.seq #[x,y] },toks:=t' }) (h':=g') (t':=t') (ch:=[n+4,n+2,n+3,n,n+1]) I0 (λc o hc' e=>?_) hf0;replace e:(s.heap.push { cls:=.type "tuple",data:=.seq #[x,y] }).get? c=some o:=e;have hn:∀ d∈[n+4,n+2,n+3,n,n+1],c≠d:=λd hd z=>hc' (by rw [z];exact hd);refine sb.extBut _ _ (hn _ (by simp)) ?_
   by_cases ec:c=s.heap.objs.size
   ·rw [ec] at e ⊢
    rw [Ai s.heap rfl] at e;cases e;exact cT
   ·rw [DS _ _ _ ec] at e
    exact kp c o (hn _ (by simp)) (hn _ (by simp)) (hn _ (by simp)) (hn _ (by simp)) e
  refine ⟨.ref s.heap.objs.size,_,I1,rfl,⟨_,hfr,rfl,λxs' ys' hx' hy'=>⟨vx,vy,by rw [I.tuple_inj hx' hx];exact hvx,by rw [I.tuple_inj hy' hy];exact hvy,rfl⟩⟩,?_,λc hc'=>(hf0 c hc').1⟩;have nz:∀ d:Nat,d<n+4->d≠n+4:=λd hd=>As hd;exact ⟨cz',sb.extBut _ _ (nz _ (by lia)) (kp _ _ (nz _ (by lia)) (by show (_:Nat)≠_;lia) (by show (_:Nat)≠_;lia) (by show (_:Nat)≠_;lia) c2),⟨x,y,sb.extBut _ _ (nz _ (by lia)) cO⟩,s1.1.extBut sb.extBut (nz _ (by lia)),s2.1.extBut sb.extBut (nz _ (by lia))⟩
 done:=by
  intro X hP hw hK hc i U s Z H E I hf st hg;subst hP hw hK;obtain ⟨xs,ys,hx,hy,l⟩:=hg;obtain ⟨its,r1,tx,_⟩:=I.tuple hx;obtain ⟨its',r2,ty,_⟩:=I.tuple hy;have e1:=r1.length;have e2:=r2.length;obtain ⟨c1,c2,⟨x0,y0,c3⟩,c4,c5⟩:=st;have hh:X.A.in1.handled=none:=I.ok.hd hc;refine vB (iW hh n a (by show (_:Nat)≠_;lia) its.toArray) (iW hh (n+1) b (by show (_:Nat)≠_;lia) its'.toArray) (aDd ha hb) c1 c2 c3 ⟨c4,tx⟩ ⟨c5,ty⟩ (by rw [An,An];lia) λg t' kp=>⟨rfl,I.turnedL (ch:=[n+4,n+2,n+3,n,n+1]) (λc o hc' e=>?_) hf⟩;have hn:∀ d∈[n+4,n+2,n+3,n,n+1],c≠d:=λd hd z=>hc' (by rw [z];exact hd);exact kp c o (hn _ (by simp)) (hn _ (by simp)) (hn _ (by simp)) (hn _ (by simp)) e
 self:=λ_ _ _ _ _ st h=>wpAny_pyIter_zip st.1 h
abbrev yo1 (h:Heap)(a:Gj):Heap:=h.push { cls:=.type "tuple_iterator",data:=.fields #[.ref a,.int 0 0] }
abbrev yo2 (h:Heap)(a b:Gj):Heap:=(yo1 h a).push { cls:=.type "tuple_iterator",data:=.fields #[.ref b,.int 0 0] }
abbrev yo3 (h:Heap)(a b:Gj):Heap:=(yo2 h a b).push { cls:=.type "tuple",data:=.seq #[.ref h.objs.size,.ref (yo1 h a).objs.size] }
abbrev yo4 (h:Heap)(a b:Gj):Heap:=(yo3 h a b).push { cls:=.type "tuple",data:=.seq #[.none,.none] }
abbrev yo5 (h:Heap)(a b:Gj):Heap:=(yo4 h a b).push { cls:=.type "zip",data:=.fields #[.none,.bool false,.bool false,.ref (yo2 h a b).objs.size,.ref (yo3 h a b).objs.size] }
def aAi (a b:Gj)(xs ys:Array Gk):Meets (AG.«zip.__new__» ⟨[.type "zip",.ref a,.ref b],[]⟩) (λ_ R s=>s.heap.IsTuple a xs/\s.heap.IsTuple b ys/\R (.ok (.ret (.ref (yo4 s.heap a b).objs.size))) { s with heap:=yo5 s.heap a b }):=.of_wp λprog w A R s h=>by
 obtain ⟨hp,g,d,tk,os⟩:=s;obtain ⟨q1,q2,q⟩:=h;have hsub:=sub_zip;have u1:Heap.IsTuple (Shared.heap ⟨hp,g,d,tk,os⟩) a xs:=q1;have u2:Heap.IsTuple (Shared.heap ⟨hp.push { cls:=.type "tuple_iterator",data:=.fields #[.ref a,.int 0 0] },g,d,tk,os⟩) b ys:=Heap.IsTuple.push q2 _
 wp_walk using EG u1,EG u2
 exact ⟨_,rfl,q⟩
def uV {w:World}(q1:s.heap.IsTuple a xs)(q2:s.heap.IsTuple b ys)(q:∀ g,aDe s.heap.objs.size a b 0 g->(∀ c o,s.heap.get? c=some o->g.get? c=some o)->Q (.ref (s.heap.objs.size+4)) { s with heap:=g }):wpAny (model prog w) A (call (.type "zip") [.ref a,.ref b]) Q E s:=by
 refine callType_new F.called_zip (by decide) (F.typeCall_zip_2 _ _) (F.newCall_zip_2 _ _) (λobj=>F.args_object_init_3 obj _ _) F.entry_zip_new (aAi a b xs ys) ⟨q1,q2,?_⟩;have z1:(yo1 s.heap a).objs.size=s.heap.objs.size+1:=BH ..;have z2:(yo2 s.heap a b).objs.size=s.heap.objs.size+2:=by rw [BH,z1]
 have z3:(yo3 s.heap a b).objs.size=s.heap.objs.size+3:=by rw [BH,z2]
 have z4:(yo4 s.heap a b).objs.size=s.heap.objs.size+4:=by rw [BH,z3]
 have o5:(yo5 s.heap a b).get? (yo4 s.heap a b).objs.size=some _:=Ai _ rfl;have o4:(yo5 s.heap a b).get? (yo3 s.heap a b).objs.size=some _:=Ac _ (Ai _ rfl);have o3:(yo5 s.heap a b).get? (yo2 s.heap a b).objs.size=some _:=Ac _ (Ac _ (Ai _ rfl));have o2:(yo5 s.heap a b).get? (yo1 s.heap a).objs.size=some _:=Ac _ (Ac _ (Ac _ (Ai _ rfl)));have o1:(yo5 s.heap a b).get? s.heap.objs.size=some _:=Ac _ (Ac _ (Ac _ (Ac _ (Ai _ rfl))));rw [z2,z3,z4] at o5;rw [z1,z2] at o3;rw [z3] at o4;rw [z1] at o2;show _/\_;rw [z4];exact ⟨⟨_,o5,rfl⟩,q _ ⟨o5,o3,⟨_,_,o4⟩,⟨_,o1,rfl,rfl⟩,⟨_,o2,rfl,rfl⟩⟩ λc o x=>Ac _ (Ac _ (Ac _ (Ac _ (Ac _ x))))⟩
def aJa (K:Ab)(ta:TA):TI:=λZ H R=>ta Z H λvs H1=>∃ a b,vs=[.ref a,.ref b]/\(∃ xs,SqT K H1 a xs)/\(∃ ys,SqT K H1 b ys)/\R (Itz2 K a b) H1
def aEk {k1:Nat}{p pos:Pos}(hg:Gl X "zip")(hm:X.mg "zip" = none)(ha:PA X [e1,e2] ta)(hs:AL [e1,e2] X.env=[(false,eval e1 X.env),(false,eval e2 X.env)]:=by rfl)(hs2:AL [e2] X.env=[(false,eval e2 X.env)]:=by rfl) :
  PI X (.Tuple es k1 p1) (.Call (.Name "zip" p) [e1,e2] [] pos) (aJa X.K ta):=by
 intro U s Z H R I h;refine Call_ (iJ I hg hm aH9 (CB (thn (ha pos U s Z H _ I h) λus s1 ⟨vs,H1,I1,r1,q1⟩=>?_) (by rw [hs,hs2]) (by rw [hs2];rfl)));obtain ⟨a,b,rfl,⟨xs,hx⟩,⟨ys,hy⟩,q⟩:=q1;cases r1 with
 |cons r rr=>
  cases rr with
  |cons r' rr=>
   cases rr;cases r;cases r';obtain ⟨its,_,tx,_⟩:=I1.tuple hx;obtain ⟨its',_,ty,_⟩:=I1.tuple hy;have la:a<s1.heap.objs.size:=by obtain ⟨o,e,_⟩:=tx;exact Ao e
   have lb:b<s1.heap.objs.size:=by obtain ⟨o,e,_⟩:=ty;exact Ao e
   refine uV tx (ty) λg st kp=>wpAny_pyIter_zip st.1 ?_;have I2:Inv X U Z H1 { s1 with heap:=g }:=I1.kept (t':=s1.toks) kp;refine ⟨s1.heap.objs.size+4,_,_,_,H1,rfl,I2,vD la lb,st,λc hc=>?_,q⟩;refine I1.fpOk ?_ (I1.hok.fresh ?_)
   all_goals
    have hc':c=s1.heap.objs.size+4\/c=s1.heap.objs.size+2\/c=s1.heap.objs.size+3\/c=s1.heap.objs.size\/c=s1.heap.objs.size+1:=by simpa using hc
    rcases hc' with e|e|e|e|e<;>(subst e;lia)
variable {X:Cx}
def rListD:Gq->Hp->VK->Prop:=λxs H Q=>∃ a kvs,∃ ss:Gh,xs=[.ref a]/\H a=some (.dK kvs)/\kvs.map (·.1)=ss.map AM/\∀ p,H p=none->Q (.ref p) (upd H p (.lst (ss.map V.str)))
def tListRng3 (ta:TA):TE:=λZ H Q=>ta Z H λvs H1=>∃ i j c:Int,vs=[.int i,.int j,.int c]/\(-(2^20)<=i/\i<2^20/\-(2^20)<=j/\j<2^20/\1<=c/\c<2^20)/\(j-i)/c<=900 /\
 ∀ p (ms:List Int),(∀ x∈ms,i<=x/\x<j)->(ms.length:Int)<=max 0 ((j-i-1)/c+1)->H1 p=none->Q (.ref p) (upd H1 p (.lst (ms.map V.int)))
variable {X:Cx}
def Inv.freeze {Z:St}(I:Inv X U Z H s)(hH:H d=some (.dK kvs))(ho:s.heap.get? d=some ob) :
  Inv X U Z (upd H d (.frz ob (.dK kvs))) s:=by
 have nd:∀ b u,H b=some u->u≠.dK kvs->b≠d:=λb u e n z=>by
  rw [z,hH] at e;exact n (AF e).symm
 refine I.step (g':=s.gens) (d':=s.drawn) (t':=s.toks) (h':=s.heap) (ch:=[]) (λ_ z=>nomatch z) (λb o _ _ _ e _=>e) (λb o _ _ _ e _=>⟨o.slots,e⟩) (λb o _ e n=>?_) (λb o _ e=>⟨o,e⟩) (λb xs e=>?_) (λb o u e=>?_) (λb ps e=>⟨#[],?_⟩) (λm hm=>hm) (λb u e=>?_) I.bare
 ·rw [aK (λz=>by rw [z,hH] at n;cases n)]
  exact n
 ·rw [aK (nd b _ e (by intro z;cases z))]
  exact e
 ·rw [aK (nd b _ e (by intro z;cases z))]
  exact e
 ·rw [aK (nd b _ e (by intro z;cases z)),e]
  simp
 ·have st:∀ {a:Gj} {u:HO},ObjOk X.prog X.w H s.heap a u->ObjOk X.prog X.w (upd H d (.frz ob (.dK kvs))) s.heap a u:=λx=>
   x.stay (λc v _ q=>q) (λc q=>by rw [aK (nd c _ q (by intro z;cases z))];exact q) λc xs q=>by rw [aK (nd c _ q (by intro z;cases z))];exact q
  by_cases e':b=d
  ·subst e'
   rw [aB] at e;cases e;exact ⟨ho,st (I.hok b _ hH)⟩
  ·rw [aK e'] at e
   exact st (I.hok b u e)
def Itd (d:Gj)(ob:Obj)(kvs:Gp):It:=
 ⟨λi H=>H d=some (.frz ob (.dK kvs))/\i<kvs.length,λi H v H'=>H'=H/\∃ kv,kvs[i]?=some kv/\v=kV kv.1,λi H=>H d=some (.frz ob (.dK kvs))/\kvs.length<=i⟩
def aFf {w:World}{k:Key}(h:(bD P w).is k v=true):RelV (kV k) v:=by
 cases k with
 |inl n=>
  obtain ⟨t,rfl⟩:=Value.isInt_shape (k:=n) (v:=v) h;exact ⟨t,rfl⟩
 |inr x=>
  obtain ⟨t,rfl⟩:=Dq (x:=x) (v:=v) h;exact ⟨t,rfl⟩
def vG {P:Aw}{w:World}{K:Ab}{tg:Expr}(d it:Gj)(ob:Obj)(kvs:Gp)(vs:List (Key×Gk))(ep:Nat)(rel:KV kvs vs)(hob:∀ h:Heap,h.get? d=some ob->h.DictAt (bD P w) d vs ep) :
  Turn P w K tg (Itd d ob kvs) [it] it (λi h=>h.IsKeyIter it d i vs.length ep) where
 mem:=by simp
 obj:=λi h st b hb=>by
  have e:b=it:=by simpa using hb
  subst e;obtain ⟨o,e,c,d⟩:=st;exact ⟨o,e,λv z=>by rw [d] at z;cases z⟩
 keep:=λi h h' st k=>st.at λo e=>k it (by simp) o e
 item:=by
  intro X hP hw hK hc i U s Z H E I hf st hg;subst hP hw hK;obtain ⟨hfz,hi⟩:=hg;have ho:s.heap.get? d=some ob:=(show ObjOk X.prog X.w H s.heap d (.frz ob (.dK kvs)) from I.hok d _ hfz).1;have hat:=hob _ ho;have hl:=rel.length;obtain ⟨⟨k,x⟩,hx⟩:∃ p,vs[i]?=some p:=⟨_,Ae (by lia)⟩;obtain ⟨f0,f1,f2,f3,f4,f5⟩:=hf it (by simp);refine wpAny_pyNext_dict_item st hat hx λkey h' hkey st' sb=>?_;have I1:Inv X U Z H { s with heap:=h' }:=I.turned (t':=s.toks) (λb o hb e=>(sb.2 b hb).trans e) f0 f1 f3 f4 f5;obtain ⟨kv,hkv⟩:∃ kv,kvs[i]?=some kv:=⟨_,Ae hi⟩;have ek:kv.1=k:=by
   have:=congrArg (λl=>l[i]?) rel.keys;simp only [Aq,hkv,hx,Dk] at this;exact AF this
  obtain ⟨o,e,c,d'⟩:=id st';exact ⟨key,rfl,yY (s:={ s with heap:=h' }) e c d' (by decide) ⟨kV k,H,I1,aFf hkey,⟨rfl,kv,hkv,by rw [ek]⟩,st',λb hb=>(hf b hb).1⟩⟩
 done:=by
  intro X hP hw hK hc i U s Z H E I hf st hg;subst hP hw hK;obtain ⟨hfz,hi⟩:=hg;have ho:s.heap.get? d=some ob:=(show ObjOk X.prog X.w H s.heap d (.frz ob (.dK kvs)) from I.hok d _ hfz).1;have hat:=hob _ ho;have hl:=rel.length;obtain ⟨f0,f1,f2,f3,f4,f5⟩:=hf it (by simp);exact wpAny_pyNext_dict_end (I.ok.hd hc) st hat (AY (by lia)) λh' eb=>⟨rfl,I.turned (t':=s.toks) (λb o hb e=>eb b o hb e) f0 f1 f3 f4 f5⟩
 self:=λ_ _ _ _ _ st h=>wpAny_pyIter_keyiter st h
def aJe (tl:TE):TI:=λZ H R=>tl Z H λx H1=>∃ d kvs,x=.ref d/\H1 d=some (.dK kvs)/\∀ ob,R (Itd d ob kvs) (upd H1 d (.frz ob (.dK kvs)))
def wV {tg l:Expr}{tl:TE}(hl:PE X l tl):PI X tg l (aJe tl):=by
 intro U s Z H R I h;refine thn (hl U s Z H _ I h) λv s1 ⟨x,H1,I1,r1,q1⟩=>?_;obtain ⟨d,kvs,e,hH,q⟩:=q1;subst e;cases r1;obtain ⟨z,lo,vs,rel,dd⟩:=uS I1.hok hH;obtain ⟨ep,hat⟩:=dd.dictAt;obtain ⟨ob,es,ho,rest⟩:=id hat;refine wpAny_pyIter_dict lo hat ?_;have I2:=I1.freeze hH ho;refine ⟨s1.heap.objs.size,[s1.heap.objs.size],_,_,_,rfl,I2.kept (t':=s1.toks) λb o e=>Ac _ e,vG d _ ob kvs vs ep rel (λh e=>⟨ob,es,e,rest⟩),⟨_,Ai _ rfl,rfl,rfl⟩,λb hb=>?_,q ob⟩;have e:b=s1.heap.objs.size:=by simpa using hb
 subst e;exact I2.fpOk (Aj _) (I2.hok.fresh (Aj _))
def aBz {d:Gj}{ob:Obj}{kvs:Gp}{g:TG}{tb:TS}{D:Ends}{Z:St}{H:Hp}(Pv:Nat->Gs)(h0:Pv 0 Z H)(hl:∀ i Z H,i<=kvs.length->Pv i Z H->H d=some (.frz ob (.dK kvs)))
  (hs:∀ i kv Z H,kvs[i]?=some kv->Pv i Z H->g (kV kv.1) Z H λZ2 H2=>tb { D with nx:=Pv (i+1),ct:=Pv (i+1),bk:=D.nx } Z2 H2) (hd:∀ Z H,Pv kvs.length Z H->D.nx Z H) :
  ∃ W:Nat->Nat->Gs,(∃ m,W 0 m Z H)/\∀ i m Z H,W i m Z H ->
   ((Itd d ob kvs).stop i H/\D.nx Z H)\/((Itd d ob kvs).go i H/\∃ N:Gs,(∀ Z' H',N Z' H'->∃ m',m'<m/\W (i+1) m' Z' H')/\∀ v H',(Itd d ob kvs).yld i H v H'->g v Z H' λZ2 H2=>tb { D with nx:=N,ct:=N,bk:=D.nx } Z2 H2):=by
 refine ⟨λi m Z H=>m=kvs.length-i/\i<=kvs.length/\Pv i Z H,⟨kvs.length,by simp,Bu _,h0⟩,?_⟩
 rintro i m Z H ⟨rfl,hi,p⟩
 have q:=hl i Z H hi p
 by_cases hlt:i<kvs.length
 ·refine .inr ⟨⟨q,hlt⟩,Pv (i+1),λZ' H' p'=>⟨kvs.length-(i+1),by lia,rfl,hlt,p'⟩,λv H' y=>?_⟩
  obtain ⟨rfl,kv,hkv,rfl⟩:=y;exact hs i kv Z H' hkv p
 ·have e:i=kvs.length:=by lia
  subst e;exact .inl ⟨⟨q,Aj _⟩,hd Z H p⟩
end L2
namespace L2
open PySem PySem.Spec PyProof.Rows PySem.W
def mS (CX:CXT)(X:Cx)(Z:St)(E:XK):Prop:=∀ (U:Ge) (H:Hp) (s:Gm) (e:Gk) (s':Gm),Inv X U Z H s->CX X.stack H s E e s'->X.xe e s'
section
variable {X:Cx}
def aEd {k:Nat}{Z:St}(F:FnOk X.prog X.w X.K X.mg X.base CX k f fd ps sp)(hr:Room k X.A)(hb:Binds X.K fd ps [])(hx:mS CX X Z E)(I:Inv X U Z H s)(r:Vals vs us)(h:sp (vs++[]) H Q E):wpAny (model X.prog X.w) X.A (call (.ref f) us) (EP X U Z Q) X.xe s:=by
 have r2:Vals (vs++[]) (us++[]):=r.append .nil;have hl:(us++[]).length=ps.length:=by rw [<- r2.length];exact F.len _ _ _ _ h
 refine EA (Ck (F.run X.A X.stack s H ⟨us,[]⟩ (us++[]) (vs++[]) Q E hr I.env0 (hb s us I.kIn hl) r2 h) λr s' hq=>?_);cases r with
 |error e=>exact hx U H s e s' I hq
 |ok fl=>
  cases fl with
  |ret u=>exact I.after hq
  |next=>exact CA hq
  |brk=>exact CA hq
  |cont=>exact CA hq
def aEq {k:Nat}{p pos:Pos}{Z:St}(C:Cal X.prog X.w X.K X.mg X.base CX k x ps sp)(hr:Room k X.A)(hg:Gl X x)(hx:mS CX X Z E)(ha:PA X (e::es) t)(hdb:(x==("__debug__":Str))=false:=by decide)(he:AL (e::es) X.env=(false,eval e X.env)::AL es X.env:=by rfl)(hpl:(backTo pos (AL es X.env)).any (·.1)=false:=by rfl) :
  PE X (.Call (.Name x p) (e::es) [] pos) (λZ' H Q=>Z'=Z/\aAp sp [] E t Z' H Q):=by
 obtain ⟨f,fd,hm,hk,hb,F⟩:=C.ex;intro U s Z' H Q I h;obtain ⟨es',h⟩:=h;subst es';refine Dm (fV I hg hm ?_ hdb);refine Ek (h₀:=X.base) I.ok.mod.kin hk (thn (ha pos U s Z' H _ I h) λus s1 ⟨vs,H1,I1,r,q⟩=>⟨I1.kIn,?_⟩) he hpl;exact aEd F hr hb hx I1 r q
def tTryS (K:Frag)(i j:Nat)(Dc:Gj)(tb:St->XK->TS):TS:=λD Z H=>tb Z (λcls dd H'=>∃ C,cls=.ref C/\ExK K C/\subIn K (.ref C) (.ref Dc)=some true/\∀ a,H' a=none->D.nx (((Z.set i (some (.ref a))).set j (some (.ref a))).set i none) (upd H' a (excD a C dd))) D Z H
end
end L2
namespace L2
open PySem PySem.Spec PyProof.Rows
variable {X:Cx}
def rSortDSR:Gq->Hp->VK->Prop:=λxs H Q=>∃ a kvs,∃ ss:Gh,xs=[.ref a]/\Rd H a (.dK kvs)/\kvs.map (·.1)=ss.map AM/\kvs.length<64/\∀ (p:Gj) (ss':Gh),ss'.Perm ss->sortedS ss'=true->H p=none->Q (.ref p) (upd H p (.lst (ss'.map V.str)))
def tListValsR (td:TE):TE:=λZ H Q=>td Z H λx H1=>∃ a kvs,x=.ref a/\Rd H1 a (.dK kvs)/\∀ p,H1 p=none->Q (.ref p) (upd H1 p (.lst (kvs.map (·.2))))
def Fz (H H':Hp):Prop:=∀ b o,H b=some o->H' b=some o\/∃ ob kvs,o=.dK kvs/\H' b=some (.frz ob (.dK kvs))
def Hld (d:Gj)(ob:Obj)(kvs:Gp)(H H':Hp):Prop:=H' d=some (.frz ob (.dK kvs))/\(∀ b,b≠d->H' b=H b)/\(H d=some (.dK kvs)\/H d=some (.frz ob (.dK kvs)))
section
variable {X:Cx}
def iDictR (tl:TE):TI:=λZ H R=>tl Z H λx H1=>∃ d kvs,x=.ref d/\Rd H1 d (.dK kvs)/\∀ ob H2,Hld d ob kvs H1 H2->R (Itd d ob kvs) H2
def rDictD:Gq->Hp->VK->Prop:=λxs H Q=>∃ a kvs,xs=[.ref a]/\Rd H a (.dK kvs)/\∀ p,H p=none->Q (.ref p) (upd H p (.dK kvs))
def DDeq (K:Ab)(H:Hp)(ka kb:Gp):Prop:=ka.length=kb.length/\∀ kv∈ka,∃ v' d,valV kb kv.1=some v'/\Dv K H 30 kv.2 d/\Dv K H 30 v' d
def rNeDD (K:Ab):R2:=λx y H Q=>∃ a b ka kb,x=.ref a/\y=.ref b/\Rd H a (.dK ka)/\Rd H b (.dK kb)/\DDeq K H ka kb/\Q (.bl false) H
def rEqDD (K:Ab):R2:=λx y H Q=>∃ a b ka kb,x=.ref a/\y=.ref b/\Rd H a (.dK ka)/\Rd H b (.dK kb)/\DDeq K H ka kb/\Q (.bl true) H
end
def EqIn (P:Aw)(w:World)(A:Around)(s:Gm)(y x:Gk):Prop:=∀ (E:Ga) (Q:Bool->Gm->Prop),Q true s->wpAny (model P w) A (eqBool y x) Q E s
section
open AutoSeq1 MeetsSeq MeetsSeq2 MeetsSeq3 SeqAt
variable {P:Aw}{w:World}
end
section
variable {X:Cx}
def rNeLD (K:Ab):R2:=λx y H Q=>∃ a b xs ys,x=.ref a/\y=.ref b/\SqL K H a xs/\SqL K H b ys/\xs.length=ys.length /\
 (∀ (j:Nat) x y,xs[j]?=some x->ys[j]?=some y->∃ da db ka kb,x=.ref da/\y=.ref db/\Rd H da (.dK ka)/\Rd H db (.dK kb)/\DDeq K H ka kb)/\Q (.bl false) H
end
end L2
namespace HT
open PySem PyProof.Rows
def lexLtS:Gh->Gh->Bool
 |[],[]=>false
 |[],_::_=>true
 |_::_,[]=>false
 |x::xs,y::ys=>if x=y then lexLtS xs ys else decide (x.cps.toList<y.cps.toList)
theorem lexLtS_cons (x y:Str)(xs ys:Gh):lexLtS (x::xs) (y::ys)=if x=y then lexLtS xs ys else decide (x.cps.toList<y.cps.toList):=rfl
section
open PySem.SeqAt
open PySem.AutoSeq1 (wpAny_loadPart')
open PySem.MeetsSeq PySem.MeetsSeq2 PySem.MeetsSeq3
end
section
variable {prog:Aw}{w:World}{A:Around}{E:Ga}{s:Gm}
end
end HT
namespace L2
open PySem PySem.Spec PyProof.Rows
section
variable {X:Cx}
def rLtTS (K:Ab):R2:=λx y H Q=>∃ a b ns ms,x=.ref a/\y=.ref b/\SqT K H a (ns.map V.str)/\SqT K H b (ms.map V.str)/\Q (.bl (HT.lexLtS ns ms)) H
end
end L2
namespace HT
open PySem PySem.Spec PyProof.Rows
section
variable {prog:Aw}{w:World}{A:Around}{E:Ga}{s:Gm}
def cat_tup0 {t b:Gj}{ws:Gi}{Q:Ga}(ht:IsTup s.heap t #[])(hb:IsTup s.heap b ws.toArray)(h:Q (.ref b) s):wpAny (model prog w) A (Eg .Add (.ref t) (.ref b)) Q E s:=by
 obtain ⟨⟨cls,dd,data,sl⟩,ho,hc,n,hd⟩:=id ht;obtain ⟨⟨cls2,dd2,data2,sl2⟩,ho2,hc2,n2,hd2⟩:=id hb;simp only at hc hd hc2 hd2;subst hc hd hc2 hd2;exact concat_meets ⟨_,ho,rfl⟩ ⟨_,ho2,rfl⟩ noFill_tuple_add seq_tuple_add PySem.F.slot_tuple_add Fw (Fo _ _)
   (tuple_addW0 t b #[] ws.toArray n n2 dd dd2 sl sl2 (by simp)) ⟨ho,ho2,h⟩
end
end HT
namespace L2
open PySem PySem.Spec PyProof.Rows
section
variable {X:Cx}
def aCo (K:Ab):R2:=λx y H Q=>∃ a b ys,x=.ref a/\y=.ref b/\SqT K H a []/\SqT K H b ys/\Q (.ref b) H
def aA8:OpR X (Eg .Add) (aCo X.K):=by
 intro U s Z H x y v u Q I rx ry h;obtain ⟨a,b,ys,rfl,rfl,ha,hb,q⟩:=h;cases rx;cases ry;obtain ⟨its,r1,p1,_⟩:=I.tuple ha;obtain ⟨its2,r2,p2,_⟩:=I.tuple hb;cases r1;exact HT.cat_tup0 p1 p2 ⟨.ref b,H,I,rfl,q⟩
def aCn (K:Ab):R2:=λx y H Q=>aCo K x y H Q\/aG0 K x y H Q
def aA7:OpR X (Eg .Add) (aCn X.K):=by
 intro U s Z H x y v u Q I rx ry h
 rcases h with h|h
 ·exact aA8 U s Z H x y v u Q I rx ry h
 ·exact aEu U s Z H x y v u Q I rx ry h
def rRepT (K:Ab):R2:=λx y H Q=>∃ a k xs,x=.ref a/\y=.int k/\SqT K H a xs/\xs≠[]/\2<=k/\k<=1000/\xs.length<=1000/\∀ p,H p=none->Q (.ref p) (upd H p (.tup (Cm k.toNat xs).flatten))
end
def Itr3 (lo c:Int)(n:Nat):It:=⟨λi _=>i<n,λi H x H'=>H'=H/\x=.int (lo+(i:Nat)*c),λi _=>n<=i⟩
def iRng3 (ta:TA):TI:=λZ H R=>ta Z H λvs H1=>∃ i j c:Int,vs=[.int i,.int j,.int c]/\(-(2^20)<=i/\i<=2^20/\-(2^20)<=j/\j<=2^20/\0<c/\c<=2^20)/\R (Itr3 i c (if i<j then (j-i-1)/c+1 else 0).toNat) H1
def tSortR (K:Ab)(te:TE):TE:=λZ H Q=>te Z H λx H1=>∃ (a:Gj) (ns:List Int),x=.ref a/\SqL K H1 a (ns.map V.int)/\ns.length<64 /\
 ∀ (p:Gj) (ns':List Int),ns'.Perm ns->ns'.Pairwise (· ≥ ·)->H1 p=none->Q (.ref p) (upd H1 p (.lst (ns'.map V.int)))
abbrev rngObj (n:Int)(t u v:Tok):Obj:={ cls:=.type "range",data:=.fields #[.int 0 t,.int n u,.int 1 v] }
abbrev rngIt (n:Int):Obj:={ cls:=.type "range_iterator",data:=.fields #[rawInt (n-1),rawInt n,rawInt (-1)] }
section
variable {prog:Aw}{w:World}{A:Around}{E:Ga}{s:Gm}
end
def iRev (ta:TA):TI:=λZ H R=>ta Z H λvs H1=>∃ n:Int,vs=[.int n]/\0<=n/\n<2^62/\R (Itr3 (n-1) (-1) n.toNat) H1
def Itv (K:Ab)(a:Gj)(n:Nat):It:=
 ⟨λi H=>∃ xs,SqL K H a xs/\xs.length=n/\i<n,λi H x H'=>H'=H/\∀ xs,SqL K H a xs->xs[n-1-i]?=some x,λi H=>n<=i⟩
def iRevL (K:Ab)(ta:TA):TI:=λZ H R=>ta Z H λvs H1=>∃ a xs,vs=[.ref a]/\SqL K H1 a xs/\R (Itv K a xs.length) H1
end L2
namespace L2
open PySem PySem.Spec PyProof.Rows PySem.W
structure Cal1 (P:Aw)(w:World)(K:Frag)(mg:Gb)(base:Heap)(CX:CXT)(k:Nat)(x:Str)(ps:Gh)(sp:Sp)(dv:V):Prop where
 ex:∃ (f:Gj) (fd:Az) (u:Gk),mg x=some (.ref f)/\keepIn K (.ref f)=true/\Binds K fd ps [u]/\RelV dv u/\FnOk P w K mg base CX k f fd ps sp
end L2
namespace L2
open PySem PySem.Spec PyProof.Rows
def eV {lo:Int}{n:Nat}{g:TG}{tb:TS}{D:Ends}{Z:St}{H:Hp}(Pv:Nat->Gs)(h0:Pv 0 Z H)
  (hs:∀ i Z H (D':Ends),(∀ Z' H',Pv (i+1) Z' H'->D'.nx Z' H')->i<n->Pv i Z H->g (.int (lo+i)) Z H (tb D')) (hd:∀ Z H,Pv n Z H->D.nx Z H) :
  ∃ W:Nat->Nat->Gs,(∃ m,W 0 m Z H)/\∀ i m Z H,W i m Z H ->
   ((Itr lo n).stop i H/\D.nx Z H)\/((Itr lo n).go i H/\∃ N:Gs,(∀ Z' H',N Z' H'->∃ m',m'<m/\W (i+1) m' Z' H')/\∀ x H',(Itr lo n).yld i H x H'->g x Z H' λZ2 H2=>tb { D with nx:=N,ct:=N,bk:=D.nx } Z2 H2):=
 eF Pv h0 (λi Z H hi p=>hs i Z H { D with nx:=Pv (i+1),ct:=Pv (i+1),bk:=D.nx } (λ_ _ h=>h) hi p) hd
def nX {d:Gj}{ob:Obj}{kvs:Gp}{g:TG}{tb:TS}{D:Ends}{Z:St}{H:Hp}(Pv:Nat->Gs)(h0:Pv 0 Z H)(hl:∀ i Z H,i<=kvs.length->Pv i Z H->H d=some (.frz ob (.dK kvs)))
  (hs:∀ i kv Z H (D':Ends),(∀ Z' H',Pv (i+1) Z' H'->D'.nx Z' H')->kvs[i]?=some kv->Pv i Z H->g (kV kv.1) Z H (tb D')) (hd:∀ Z H,Pv kvs.length Z H->D.nx Z H) :
  ∃ W:Nat->Nat->Gs,(∃ m,W 0 m Z H)/\∀ i m Z H,W i m Z H ->
   ((Itd d ob kvs).stop i H/\D.nx Z H)\/((Itd d ob kvs).go i H/\∃ N:Gs,(∀ Z' H',N Z' H'->∃ m',m'<m/\W (i+1) m' Z' H')/\∀ v H',(Itd d ob kvs).yld i H v H'->g v Z H' λZ2 H2=>tb { D with nx:=N,ct:=N,bk:=D.nx } Z2 H2):=
 aBz Pv h0 hl (λi x Z H hx p=>hs i x Z H { D with nx:=Pv (i+1),ct:=Pv (i+1),bk:=D.nx } (λ_ _ h=>h) hx p) hd
section
variable {D:Ends}{Z:L2.St}{H:Hp}
def cut3 (h:let u3:TS:=t3;let u2:TS:=tSeq t2 u3;tSeq t1 u2 D Z H):(tSeq t1 (tSeq t2 (t3))) D Z H:=h
def cut5 (h:let u5:TS:=t5;let u4:TS:=tSeq t4 u5;let u3:TS:=tSeq t3 u4;let u2:TS:=tSeq t2 u3;tSeq t1 u2 D Z H):(tSeq t1 (tSeq t2 (tSeq t3 (tSeq t4 (t5))))) D Z H:=h
def cut7 (h:let u7:TS:=t7;let u6:TS:=tSeq t6 u7;let u5:TS:=tSeq t5 u6;let u4:TS:=tSeq t4 u5;let u3:TS:=tSeq t3 u4;let u2:TS:=tSeq t2 u3;tSeq t1 u2 D Z H):(tSeq t1 (tSeq t2 (tSeq t3 (tSeq t4 (tSeq t5 (tSeq t6 (t7))))))) D Z H:=h
def aJh (h:let u12:TS:=t12;let u11:TS:=tSeq t11 u12;let u10:TS:=tSeq t10 u11;let u9:TS:=tSeq t9 u10;let u8:TS:=tSeq t8 u9;let u7:TS:=tSeq t7 u8;let u6:TS:=tSeq t6 u7;let u5:TS:=tSeq t5 u6;let u4:TS:=tSeq t4 u5;let u3:TS:=tSeq t3 u4;let u2:TS:=tSeq t2 u3;tSeq t1 u2 D Z H):(tSeq t1 (tSeq t2 (tSeq t3 (tSeq t4 (tSeq t5 (tSeq t6 (tSeq t7 (tSeq t8 (tSeq t9 (tSeq t10 (tSeq t11 (t12)))))))))))) D Z H:=h
end
end L2
namespace L2
open PySem PySem.Spec PyProof.Rows PySem.W
section
variable {X:Cx}
end
end L2
namespace TM
open PySem PySem.Spec PyProof.Rows PySem.W
def aG2 {α:Type}[BEq α][LawfulBEq α](f:Nat->α):∀ (j:Nat) (l:List α),(∀ i,i<j->f i∈l)->(∀ i k,i<j->k<j->f i=f k->i=k)->j<=l.length:=by
 intro j
 induction j with
 |zero=>
  intro l _ _;exact Bu _
 |succ j ih=>
  intro l hm hi;have h1:=hm j (Cd _);have:=ih (l.erase (f j)) (λi hij=>(List.mem_erase_of_ne (λe=>by
   have:=hi i j (by lia) (by lia) e;lia)).mpr (hm i (by lia))) (λi k a b e=>hi i k (by lia) (by lia) e)
  rw [List.length_erase_of_mem h1] at this;have:0<l.length:=List.length_pos_of_mem h1;lia
def rd (c j:Nat):Nat:=97+(c-97+j)%26
abbrev LET:Str:="abcdefghijklmnopqrstuvwxyz"
def tK {j:Nat}(h:j<26):(cps LET)[j]?=some (97+j):=by
 have all:∀ k:Fin 26,(cps LET)[k.val]?=some (97+k.val):=by decide +kernel
 exact all ⟨j,h⟩
end TM
namespace GM
structure Fr (M t b N:Int):Prop where
 am:Amt t b
 e:t*M=N*b
def Fr.of {M t b:Int}(am:Amt t b)(d:b∣M):Fr M t b (t*(M/b)):=⟨am,by rw [BI,Int.ediv_mul_cancel d]⟩
def Fr.zero {M:Int}:Fr M 0 1 0:=⟨aFq (by decide),by simp⟩
def Fr.plus {M t1 b1 N1 t2 b2 N2:Int}(h1:Fr M t1 b1 N1)(h2:Fr M t2 b2 N2):Fr M ((t1*b2+t2*b1)/G (t1*b2+t2*b1) (b1*b2)) (b1*b2/G (t1*b2+t2*b1) (b1*b2)) (N1+N2):=by
 have a1:=h1.am.b1;have a2:=h2.am.b1;have n1:=Bv h1.am.t0 (show 0<=b2 by lia);have n2:=Bv h2.am.t0 (show 0<=b1 by lia);have hb:1<=b1*b2:=by
  have:=Int.mul_le_mul a1 a2 (by decide) (by lia);lia
 refine ⟨kC (by lia) hb,?_⟩;have crs:=gW (t1*b2+t2*b1) (b1*b2);generalize (t1*b2+t2*b1)/G (t1*b2+t2*b1) (b1*b2)=x at *
 generalize b1*b2/G (t1*b2+t2*b1) (b1*b2)=y at *
 refine Bl (show b1*b2≠0 by lia) ?_
 calc x*M*(b1*b2)=(x*(b1*b2))*M:=by rw [BI,BD M,<- BI]
  _=((t1*b2+t2*b1)*y)*M:=by rw [crs]
  _=((t1*M)*b2+(t2*M)*b1)*y:=by
   rw [AQ,Int.add_mul,AQ t1,AQ t2]
  _=((N1*b1)*b2+(N2*b2)*b1)*y:=by rw [h1.e,h2.e]
  _=(N1+N2)*y*(b1*b2):=by
   rw [AQ (N1+N2),Int.add_mul N1,BI N1,BI N2,BD b2 b1]
def Fr.uniq {M t b N t' b':Int}(hM:0<M)(h:Fr M t b N)(h':Fr M t' b' N):t=t'/\b=b':=by
 have c:t'*b=t*b':=by
  refine Bl (show M≠0 by lia) ?_
  calc t'*b*M=(t'*M)*b:=by rw [AQ]
   _=(N*b')*b:=by rw [h'.e]
   _=(N*b)*b':=by rw [AQ]
   _=t*M*b':=by rw [h.e]
   _=t*b'*M:=by rw [AQ]
 obtain ⟨e1,e2⟩:=lJ h.am.t0 h.am.b1 h'.am c;rw [h.am.g,Int.ediv_one] at e1 e2;exact ⟨e1,e2⟩
def Fr.nonneg {M t b N:Int}(hM:0<M)(h:Fr M t b N):0<=N:=by
 have a1:=h.am.b1;have n1:=Bv h.am.t0 (show 0<=M by lia);rw [h.e] at n1
 by_cases z:0<=N
 ·exact z
 ·have:=Int.mul_neg_of_neg_of_pos (show N<0 by lia) (show 0<b by lia)
  lia
def Fr.dvd {M t b N:Int}(h:Fr M t b N):b∣M:=by
 have d:b∣M*t:=⟨N,by rw [BD M,h.e,BD]⟩;have g:Int.gcd b t=1:=by
  have:=h.am.g;unfold G at this;rw [Int.gcd_comm];lia
 have d':b.natAbs∣M.natAbs*t.natAbs:=by
  rw [<- Int.natAbs_mul];exact Int.natAbs_dvd_natAbs.mpr d
 have c:Nat.Coprime b.natAbs t.natAbs:=g;exact Int.natAbs_dvd_natAbs.mp (c.dvd_of_dvd_mul_right d')
def Fr.nought {M t b N:Int}(hM:0<M)(h:Fr M t b N):N=0↔t=0:=by
 have a1:=h.am.b1;constructor
 ·intro z
  have:=h.e;rw [z,Bo] at this
  rcases DP.mp this with q|q
  ·exact q
  ·lia
 ·intro z
  have:=h.e;rw [z,Bo] at this
  rcases DP.mp this.symm with q|q
  ·exact q
  ·lia
end GM
namespace K51
open PySem PySem.Spec PyProof.Rows L2 GM TM
def top (i:Nat):Stmt:=PySem.Challenge.pw_phialhouse_k51_serves_as_well.main.body.getD i (.Pass ⟨0,0,0,0⟩)
abbrev aD8:Stmt:=top 13
abbrev sGcd:Stmt:=top 14
abbrev sLow:Stmt:=top 15
abbrev aD9:Stmt:=top 16
abbrev aD5:Stmt:=top 17
abbrev wF:Stmt:=top 18
abbrev vZ:Stmt:=top 19
abbrev aD7:Stmt:=top 20
abbrev pO:Stmt:=top 24
abbrev gN:Stmt:=top 25
abbrev pF:Stmt:=top 26
abbrev jI:Stmt:=top 27
abbrev pI:Stmt:=top 29
abbrev pE:Stmt:=top 38
abbrev jG:Stmt:=top 39
abbrev pR:Stmt:=top 40
abbrev nH:Stmt:=top 41
abbrev pJ:Stmt:=top 42
abbrev pQ:Stmt:=top 44
abbrev pG:Stmt:=top 45
abbrev aD4:Stmt:=top 47
abbrev jO:Stmt:=top 48
abbrev aEc:Stmt:=top 50
abbrev wD:Stmt:=top 51
abbrev pN:Stmt:=top 52
abbrev sAdd:Stmt:=top 53
abbrev aD3:Stmt:=top 54
abbrev sBy:Stmt:=top 55
abbrev vY:Stmt:=top 56
abbrev wI:Stmt:=top 57
abbrev wC:Stmt:=top 58
abbrev jH:Stmt:=top 59
abbrev sSum:Stmt:=top 60
abbrev aEa:Stmt:=top 61
abbrev pH:Stmt:=top 62
abbrev wK:Stmt:=top 63
abbrev aEb:Stmt:=top 64
abbrev wJ:Stmt:=top 65
abbrev aD6:Stmt:=top 66
abbrev lY:Stmt:=top 67
abbrev sRow:Stmt:=top 68
abbrev pP:Stmt:=top 69
abbrev sEnd:Stmt:=top 70
abbrev jJ:Stmt:=top 71
abbrev sLaw:Stmt:=top 73
structure Txt (mg:Gb):Prop where
 isi:mg "isinstance" = none
 int':mg "int" = none
 bool':mg "bool" = none
 tup':mg "tuple" = none
 str':mg "str" = none
 len:mg "len" = none
 range:mg "range" = none
 min':mg "min" = none
 max':mg "max" = none
 abs':mg "abs" = none
 list':mg "list" = none
 sorted':mg "sorted" = none
 zip':mg "zip" = none
 set':mg "set" = none
 all':mg "all" = none
 enum':mg "enumerate" = none
 val:mg "ValueError" = none
 dict':mg "dict" = none
 rev':mg "reversed" = none
def aDs:Sp:=λvs H Q _=>∃ a b:Int,vs=[.int a,.int b]/\0<=a/\0<=b/\Q (.int (G a b)) H
def mX (K:Ab):Sp:=λvs H Q _=>∃ (a:Gj) (ns:List Int) (k:Int),vs=[.ref a,.int k]/\SqL K H a (ns.map V.int)/\0<=k/\∀ c:Int,Q (.int c) H
structure Wr (x:Str):Prop where
 l1:1<=x.length
 l8:x.length<=8
 lt:∀ c∈cps x,97<=c/\c<=122
instance (x:Str):Decidable (Wr x):=decidable_of_iff ((1<=x.length/\x.length<=8)/\∀ c∈cps x,97<=c/\c<=122) ⟨λh=>⟨h.1.1,h.1.2,h.2⟩,λh=>⟨⟨h.l1,h.l8⟩,h.lt⟩⟩
instance (x:Str):Decidable (Wr x):=decidable_of_iff ((1<=x.length/\x.length<=8)/\∀ c∈cps x,97<=c/\c<=122) ⟨λh=>⟨h.1.1,h.1.2,h.2⟩,λh=>⟨⟨h.l1,h.l8⟩,h.lt⟩⟩
abbrev ltP (p q:Str×Str):Prop:=HT.lexLtS [p.1,p.2] [q.1,q.2]=true
def PsL (K:Ab)(H:Hp)(us:Gq)(ps:Gf):Prop:=us.length=ps.length/\∀ (i:Nat) u p,us[i]?=some u->ps[i]?=some p->∃ q,u=.ref q/\SqT K H q [.str p.1,.str p.2]
def aIa (ps:Gf):Prop:=∀ (i:Nat) p q,ps[i]?=some p->ps[i+1]?=some q->ltP p q
section
variable {P:Aw}{w:World}{K:Ab}{mg:Gb}{base:Heap}
def sU {a0 b0 a b:Int}(e:G a b=G a0 b0)(hb:0<=b)(h:¬ b=0):0<=a%b/\G b (a%b)=G a0 b0:=⟨Int.emod_nonneg a h,by rw [aIc];exact e⟩
def aAw:FnScope ["one","other","rest"] ["one","other"] (aH sGcd):=fnScOk (by decide +kernel)
def aHg {f:Gj}{fd:Az}(F:Fun K "common_divisor" "common_divisor" sGcd f fd):FnOk P w K mg base CX0 1 f fd ["one","other"] aDs:=by
 refine F.ok aAw (λvs H Q E h=>?_) (λcdv A outer s H vs Q E hr h=>?_)
 ·obtain ⟨a,b,rfl,_⟩:=h
  rfl
 ·obtain ⟨a,b,rfl,ha,hb,k⟩:=h
  refine ⟨_,aD (rM AO (aL mE (pv 1) aG)
   (aD (aJ (i:=2) aAw.nd (aP bQ (pv 0) (pv 1)))
   (aD (aJ (i:=0) aAw.nd (pv 1))
   (aE (aJ (i:=1) aAw.nd (pv 2))))))
   (aE (aM (pv 0))),?_⟩
  refine qU (λZ H'=>H'=H/\∃ (x y:Int) (r:Gr),Z=[some (.int x),some (.int y),r]/\0<=x/\0<=y/\G x y=G a b) (λZ _=>match Z with|[_,some (.int y),_]=>y.toNat|_=>0) ⟨rfl,a,b,none,rfl,ha,hb,rfl⟩ ?_ ?_
  ·rintro Z H' ⟨rfl,x,y,r,rfl,hx,hy,e⟩
   refine ⟨_,rfl,rfl,_,rfl,?_⟩;refine ite2 (λhc=>?_) (λhc=>?_)
   ·have hy0:¬ y=0:=by
     intro z;subst z;simp at hc
    have t:=sU e hy hy0;refine ⟨_,rfl,_,rfl,_,_,rfl,rfl,(by show 0<y;lia),_,rfl,_,rfl,⟨rfl,y,x%y,_,rfl,hy,t.1,t.2⟩,?_⟩;have:=Int.emod_lt_of_pos x (show 0<y by lia);have:=t.1;show (x%y).toNat<y.toNat;lia
   ·have hy0:y=0:=by
     by_cases z:y=0
     ·exact z
     ·exfalso
      apply hc
      simp [z]
    subst hy0;rw [aDg hx] at e;exact ⟨_,rfl,by rw [e];exact k⟩
  ·rintro Z H' Q1 Q2 hq ⟨v,e,z,q⟩
   exact ⟨v,e,z,by obtain ⟨k,e,q⟩:=q;exact ⟨k,e,hq _ _ q⟩⟩
def b6 {n:Nat}{x:Int}(h:Bt n x)(hn:n<=1000000:=by decide):Bt 1000000 x:=h.mono hn
def bR (n:Nat){x c:Int}(h0:0<=x)(h:x<c)(hc:c<=((2^n:Nat):Int):=by decide +kernel):Bt n x:=by
 show x.natAbs<2^n;lia
def bY (x:Int){m:Int}(h:0<m):0<=x%m/\x%m<m:=⟨Int.emod_nonneg x (by lia),Int.emod_lt_of_pos x h⟩
def aDc:BZ "int" = some (.type "int"):=by decide +kernel
def aAc:BZ "bool" = some (.type "bool"):=by decide +kernel
def dB:BZ "tuple" = some (.type "tuple"):=by decide +kernel
def aDa:BZ "str" = some (.type "str"):=by decide +kernel
theorem bl {c:Int}(h0:0<=c:=by decide)(h:c<18446744073709551616:=by decide):Bt 1000000 c:=b6 (bR 64 h0 h)
def bk {c:Int}(h0:0<=c:=by decide)(h:c<18446744073709551616:=by decide):Bt 1000 c:=(bR 64 h0 h).mono (by decide)
def aGq:FnScope ["_law_script","_law_k"] ["_law_script","_law_k"] (aH aEc):=fnScOk (by decide +kernel)
def aE6 {f:Gj}{fd:Az}(F:Fun K "_law_cell_at" "_law_cell_at" aEc f fd)(T:Txt mg):FnOk P w K mg base CX0 1 f fd ["_law_script","_law_k"] (mX K):=by
 refine F.okA aGq (λcdv A outer s H vs Q E hr h=>?_)
 ·obtain ⟨a,ns,j,rfl,hS,h0,k⟩:=h
  refine ⟨_,(aD (bH (aL xF (pv 1) (aT aY rfl T.len BA (aA (pv 0) aC)))
    (aE (aM (aZ aX (pv 0) (pv 1) (λ_ _=>rfl))))
    aQ)
   (aE (aM aG))),?_⟩
  refine ⟨_,rfl,_,rfl,a,_,rfl,.inl hS,_,_,rfl,rfl,_,rfl,ite2 (λhc=>?_) (λ_=>k _)⟩;have hc':j<((ns.map V.int).length:Int):=of_decide_eq_true hc;rw [Af] at hc';obtain ⟨i,rfl⟩:=AN h0;obtain ⟨c,hc⟩:∃ c,ns[i]?=some c:=⟨_,Ae (show i<ns.length by lia)⟩;exact ⟨_,rfl,_,rfl,a,_,(i:Int),.int c,rfl,rfl,hS,aW (by rw [Aq,hc];rfl),k c⟩
def oJ:BZ "abs" = some (.builtin "abs"):=by decide +kernel
theorem lenC (x:Str):x.length=(cps x).length:=by simp [Str.length,cps]
theorem lenA (x y:Str):(x++y).length=x.length+y.length:=by rw [lenC,dS,Av,<- lenC,<- lenC]
def dW {x:Str}{ws:Gh}:inV (.str x) (ws.map V.str)=true↔x∈ws:=by
 unfold inV;rw [List.any_map,List.any_eq_true];constructor
 ·rintro ⟨y,hy,e⟩
  have:y=x:=by simpa [eqV] using e
  exact this▸hy
 ·intro h
  exact ⟨x,h,by simp [eqV]⟩
def eG (ws:Gh):(ws.map V.str).all eW=true:=by
 rw [List.all_map,CG];intro x _;rfl
def uH {ws:Gh}{x:Str}(h:ws.Nodup)(n:x∉ws):(ws++[x]).Nodup:=by
 rw [List.nodup_append];refine ⟨h,by simp,λy hy z hz e=>?_⟩;rw [AA.mp hz] at e;exact n (e▸hy)
def lM {X:Cx}{scope:Scope}(h:∀ y∈scope.names,y.2=.local\/y.2=.globalImplicit):ClOk X scope []:=by
 refine ⟨closureFor_none λx hx z=>?_,λx c e=>by simp at e,λx e=>?_⟩
 ·rcases h x hx with q|q<;>rw [q] at z<;>cases z
 ·exfalso
  have e':∃ k,(k=CC\/k=AW)/\(relabel scope X.env).names.lookup x=some k:=by
   rcases e with e|e
   ·exact ⟨_,.inl rfl,e⟩
   ·exact ⟨_,.inr rfl,e⟩
  obtain ⟨k,hk,e⟩:=e';have hm:=CQ e;obtain ⟨y,hy,hy2⟩:=AE.mp hm;have hl:=h y hy;obtain ⟨n,kk⟩:=y;simp only at hl
  rcases hl with hl|hl<;>subst hl<;>simp at hy2<;>rcases hk with rfl|rfl<;>exact absurd hy2.2 (by decide)
def list_eq {α:Type}{ys l:List α}(hl:ys.length=l.length)(h:∀ (i:Nat) x y,l[i]?=some x->ys[i]?=some y->y=x):ys=l:=by
 refine ED λi=>?_
 by_cases hi:i<l.length
 ·have e1:=Ae hi
  have e2:ys[i]?=some (ys[i]'(by lia)):=Ae (by lia);rw [e1,e2,h i _ _ e1 e2]
 ·rw [AY (by lia),AY (by lia)]
end
end K51
namespace L2
open PySem PySem.Spec PyProof.Rows
def jn (sep:Str):Gh->Str
 |[x]=>x
 |l=>AG.Str.glued sep l
def rJoin (K:Ab):V->Gq->Hp->VK->Prop:=λz vs H Q=>∃ sep a ss,z=.str sep/\vs=[.ref a]/\SqL K H a (ss.map V.str)/\sep.length<=10/\ss.length<=100/\(∀ x∈ss,x.length<=1000)/\Q (.str (jn sep ss)) H
def aFk {x:Str}{g:TG}{tb:TS}{D:Ends}{Z:St}{H:Hp}(Pv:Nat->Gs)(h0:Pv 0 Z H)
  (hs:∀ i c Z H,x.cps[i]?=some c->Pv i Z H->g (.str ⟨#[c]⟩) Z H λZ2 H2=>tb { D with nx:=Pv (i+1),ct:=Pv (i+1),bk:=D.nx } Z2 H2) (hd:∀ Z H,Pv x.cps.size Z H->D.nx Z H) :
  ∃ W:Nat->Nat->Gs,(∃ m,W 0 m Z H)/\∀ i m Z H,W i m Z H ->
   ((Its x).stop i H/\D.nx Z H)\/((Its x).go i H/\∃ N:Gs,(∀ Z' H',N Z' H'->∃ m',m'<m/\W (i+1) m' Z' H')/\∀ v H',(Its x).yld i H v H'->g v Z H' λZ2 H2=>tb { D with nx:=N,ct:=N,bk:=D.nx } Z2 H2):=by
 refine ⟨λi m Z H=>m=x.cps.size-i/\i<=x.cps.size/\Pv i Z H,⟨x.cps.size,by simp,Bu _,h0⟩,?_⟩
 rintro i m Z H ⟨rfl,hi,p⟩
 by_cases hlt:i<x.cps.size
 ·refine .inr ⟨⟨x.cps[i],Fq hlt⟩,Pv (i+1),λZ' H' p'=>⟨x.cps.size-(i+1),by lia,rfl,hlt,p'⟩,λv H' y=>?_⟩
  obtain ⟨e,c,hc,rfl⟩:=y;subst e;exact hs i c Z _ hc p
 ·have e:i=x.cps.size:=by lia
  subst e;exact .inl ⟨Array.getElem?_eq_none (Aj _),hd Z H p⟩
section
variable {X:Cx}
def tx:V->Str
 |.int n=>toString n
 |.str x=>x
 |_=>Str.empty
def TxOk (v:V):Prop:=(∃ n:Nat,v=.int n/\n<10^60)\/∃ x,v=.str x/\x.length<=100
end
end L2
namespace K51
open PySem PySem.Spec PyProof.Rows L2 GM TM
def SmB (a:Gj)(H H':Hp):Prop:=∀ b o,b≠a->H b=some o->H' b=some o
def SmB.refl {a:Gj}{H:Hp}:SmB a H H:=λ_ _ _ h=>h
theorem SmB.trans {a:Gj}{H H1 H2:Hp}(h:SmB a H H1)(k:SmB a H1 H2):SmB a H H2:=λb o n e=>k b o n (h b o n e)
def SmB.of {a:Gj}{H H':Hp}(h:Same H H'):SmB a H H':=λb o _ e=>h b o e
theorem SmB.upd {a:Gj}{H:Hp}{o:HO}:SmB a H (upd H a o):=λb u n e=>by rw [aK n];exact e
theorem SmB.same {a:Gj}{H H':Hp}(h:SmB a H H')(n:H a=none):Same H H':=λb o e=>h b o (λz=>by rw [z,n] at e;cases e) e
def SmB.own {a p:Gj}{H H':Hp}{o:HO}(h:SmB a H H')(n:H p=none):SmB a H (L2.upd H' p o):=λb u nb e=>by
 have ne:b≠p:=λz=>by rw [z,n] at e;cases e
 rw [aK ne];exact h b u nb e
theorem SmB.none {a p:Gj}{H H':Hp}(h:SmB a H H')(n:H' p=none)(pa:p≠a):H p=none:=by
 cases e:H p with
 |none=>rfl
 |some o=>
  have:=h p o pa e;rw [n] at this;cases this
def Lf (H:Hp)(a:Gj):Prop:=∃ n:Int,H a=some (.lst [.int n])/\0<=n
def Lf.keep {H H':Hp}{a:Gj}(h:Lf H a)(s:Same H H'):Lf H' a:=by
 obtain ⟨n,e,r⟩:=h;exact ⟨n,s _ _ e,r⟩
def Lf.there {H:Hp}{a b:Gj}(h:Lf H a)(n:H b=none):b≠a:=λz=>by
 obtain ⟨_,e,_⟩:=h;rw [<- z,n] at e;cases e
def Lf.own {H:Hp}{a p:Gj}{o:HO}(h:Lf H a)(n:p≠a):Lf (upd H p o) a:=by
 obtain ⟨m,e,r⟩:=h;exact ⟨m,by rw [aK (Bi n)];exact e,r⟩
def jA:Sp:=λvs H Q _=>∃ c k:Int,vs=[.int c,.int k]/\0<=k/\k<=1000/\∀ n:Int,0<=n->n<2147483647->Q (.int n) H
def eL:Sp:=λvs H Q _=>∃ t b:Int,vs=[.int t,.int b]/\0<=t/\1<=b/\Bt 9000 b/\∀ p H',Same H H'->H p=none->H' p=some (.tup [.int (t/G t b),.int (b/G t b)])->Q (.ref p) H'
def hZ:Sp:=λvs H Q _=>∃ (a:Gj) (m:Int),vs=[.ref a,.int m]/\Lf H a/\1<=m/\Bt 9000 m/\∀ (d:Int) H',0<=d->d<m->SmB a H H'->Lf H' a->Q (.int d) H'
def vR:Sp:=λvs H Q _=>∃ a:Gj,vs=[.ref a]/\Lf H a/\∀ (ws:Gh) p H',ws.length=6->ws.Nodup->(∀ x∈ws,Wr x)->SmB a H H'->H p=none->p≠a->H' p=some (.lst (ws.map V.str))->Q (.ref p) H'
structure Rm (t b:Int):Prop where
 t1:1<=t
 b1:1<=b
 g:G t b=1
 st:Bt 100 t
 sb:Bt 100 b
def aCe:Sp:=λvs H Q _=>∃ n:Int,vs=[.int n]/\0<=n/\n<2147483647/\∀ t b p H',Rm t b->b<=12->Same H H'->H p=none->H' p=some (.tup [.int t,.int b])->Q (.ref p) H'
def sL {t b:Int}(h0:1<=t)(h1:1<=b)(ht:Bt 100 t)(hb:Bt 100 b):Rm (t/G t b) (b/G t b):=by
 have a:=kC (t:=t) (b:=b) (by lia) h1;have g:=qS (a:=t) (b:=b) (by lia);have l:=Int.le_of_dvd (by lia) (aAh t b);refine ⟨(Int.le_ediv_iff_mul_le g).mpr (by lia),(Int.le_ediv_iff_mul_le g).mpr (by have:=aAg (a:=t) (b:=b) (by lia);lia),a.3,ht.le a.1 (Da _ (by lia)),hb.le (by have:=a.2;lia) (Da _ (by lia))⟩
def nQ {t b:Int}(h1:1<=b)(hs:Bt 9000 b):0<G t b/\Bt 9000 (G t b):=by
 have p:=qS (a:=t) (b:=b) (by lia);exact ⟨p,hs.le (by lia) (aAg (by lia))⟩
def b9 {c:Int}(h0:0<=c:=by decide)(h:c<18446744073709551616:=by decide):Bt 9000 c:=(bR 64 h0 h).mono (by decide)
def e18:(10:Int)^Int.toNat 18=1000000000000000000:=by decide +kernel
section
variable {P:Aw}{w:World}{K:Ab}{mg:Gb}{base:Heap}
def aD0:FnScope ["_law_cell","_law_k"] ["_law_cell","_law_k"] (aH wD):=fnScOk (by decide +kernel)
def aBi {f:Gj}{fd:Az}(F:Fun K "_law_mixed" "_law_mixed" wD f fd):FnOk P w K mg base CX0 1 f fd ["_law_cell","_law_k"] jA:=by
 refine F.okA aD0 (λcdv A outer s H vs Q E hr h=>?_)
 ·obtain ⟨c,k,rfl,k0,k1,q⟩:=h
  refine ⟨_,aE (aM (aP bQ (aP bL (aP bJ (aP bJ (aP bQ (pv 0) aG) (aP bL (pv 1) (pv 1))) aG) aG) aG)),?_⟩;have c1:=bY c (m:=1000003) (by decide);have bk1:Bt 32 k:=bR 32 (c:=1001) k0 (by lia);have b3:Bt 66 (c%1000003+k*k+1):=((bR 64 (c:=1000003) c1.1 c1.2).add (bk1.mul bk1)).add (bR 65 (x:=1) (c:=2) (by decide) (by decide));refine ⟨_,rfl,_,_,rfl,rfl,(by show (0:Int)<1000003;decide),_,rfl,_,rfl,_,_,rfl,rfl,⟨b6 bk1,b6 bk1⟩,_,_,rfl,rfl,_,_,rfl,rfl,_,_,rfl,rfl,⟨b6 b3,bl⟩,_,_,rfl,rfl,(by show (0:Int)<2147483647;decide),?_⟩;have e:=bY ((c%1000003+k*k+1)*48271) (m:=2147483647) (by decide);exact q _ e.1 e.2
def iR:FnScope ["_law_top","_law_bottom","_law_one","_law_other_here"] ["_law_top","_law_bottom"] (aH pN):=fnScOk (by decide +kernel)
def xV {f:Gj}{fd:Az}(F:Fun K "_law_lowest" "_law_lowest" pN f fd):FnOk P w K mg base CX0 1 f fd ["_law_top","_law_bottom"] eL:=by
 refine F.ok iR (λvs H Q E h=>?_) (λcdv A outer s H vs Q E hr h=>?_)
 ·obtain ⟨a,b,rfl,_⟩:=h
  rfl
 ·obtain ⟨a,b,rfl,ha,hb,bb,k⟩:=h
  refine ⟨_,(aD (aJ (i:=2) iR.nd (pv 0))
   (aD (aJ (i:=3) iR.nd (pv 1))
   (aD (rM AO (aL aG8 (pv 3) aG)
   (aE (aG1 (i:=2) (j:=3) rfl iR.nd rfl rfl (by decide) rfl rfl (aA (pv 3) (aA (aP bQ (pv 2) (pv 3)) aC)) rfl)))
   (aE (aM (aU (aA (aP bO (pv 0) (pv 2)) (aA (aP bO (pv 1) (pv 2)) aC)))))))),?_⟩
  refine ⟨_,rfl,_,rfl,?_⟩;refine qU (λZ H'=>H'=H/\∃ (x y:Int),Z=[some (.int a),some (.int b),some (.int x),some (.int y)]/\0<=x/\0<=y/\G x y=G a b) (λZ _=>match Z with|[_,_,_,some (.int y)]=>y.toNat|_=>0) ⟨rfl,a,b,rfl,ha,by lia,rfl⟩ ?_ ?_
  ·rintro Z H' ⟨rfl,x,y,rfl,hx,hy,e⟩
   refine ⟨_,rfl,_,_,rfl,rfl,_,rfl,?_⟩;refine ite2 (λhc=>?_) (λhc=>?_)
   ·have hy0:0<y:=of_decide_eq_true hc
    have t:=sU e hy (by lia);refine ⟨_,rfl,_,rfl,_,rfl,_,_,rfl,rfl,(by show 0<y;lia),_,_,rfl,⟨rfl,y,x%y,rfl,hy,t.1,t.2⟩,?_⟩;have:=Int.emod_lt_of_pos x (show 0<y by lia);have:=t.1;show (x%y).toNat<y.toNat;lia
   ·have hy0:y=0:=by
     have:¬ 0<y:=λz=>hc (decide_eq_true z);lia
    subst hy0;rw [aDg hx] at e;subst e;have g:=nQ (t:=a) hb bb;refine ⟨_,rfl,_,rfl,_,_,rfl,rfl,g,_,rfl,_,rfl,_,_,rfl,rfl,g,zLn2,λp hp=>?_⟩;exact k p _ (Gu hp) hp aB
  ·rintro Z H' Q1 Q2 hq ⟨v,e,i,j,e1,e2,z,ez,q⟩
   exact ⟨v,e,i,j,e1,e2,z,ez,hq _ _ q⟩
def vW:FnScope ["_law_left","_law_many","_law_found"] ["_law_left","_law_many"] (aH wI):=fnScOk (by decide +kernel)
def aBo {f:Gj}{fd:Az}(F:Fun K "_law_digit" "_law_digit" wI f fd):FnOk P w K mg base CX0 1 f fd ["_law_left","_law_many"] hZ:=by
 refine F.okA vW (λcdv A outer s H vs Q E hr h=>?_)
 ·obtain ⟨a,m,rfl,⟨n,ha,n0⟩,m1,bm,k⟩:=h
  refine ⟨_,(aD (aJ (i:=2) vW.nd (aP bQ (aZ aX (pv 0) aG (λ_ _=>rfl)) (pv 1)))
   (aD (fQ (aP bO (aZ aX (pv 0) aG (λ_ _=>rfl)) (pv 1)) (jU (pv 0) aG set_list))
   (aE (aM (pv 2))))),?_⟩
  refine ⟨_,rfl,a,_,0,.int n,rfl,rfl,Gw ha,aW (j:=0) rfl,_,rfl,_,_,rfl,rfl,(by show 0<m;lia),?_⟩;refine ⟨_,rfl,a,_,0,.int n,rfl,rfl,Gw ha,aW (j:=0) rfl,_,rfl,_,_,rfl,rfl,⟨by lia,bm⟩,_,rfl,a,_,0,0,rfl,rfl,ha,rfl,?_⟩;have e:=bY n (show (0:Int)<m by lia);exact ⟨_,rfl,k _ _ e.1 e.2 SmB.upd ⟨_,aB,Int.ediv_nonneg n0 (by lia)⟩⟩
def aIp:FnScope ["_law_number"] ["_law_number"] (aH aD6):=fnScOk (by decide +kernel)
def aHh {f:Gj}{fd:Az}(F:Fun K "_law_few" "_law_few" aD6 f fd)(cL:Cal P w K mg base CX0 1 "_law_lowest" ["_law_top","_law_bottom"] eL):FnOk P w K mg base CX0 2 f fd ["_law_number"] aCe:=by
 refine F.okA aIp (λcdv A outer s H vs Q E hr h=>?_)
 ·obtain ⟨n,rfl,n0,nl,k⟩:=h
  refine ⟨_,aE (aM (aI cL hr (aA (aP bJ aG (aP bQ (pv 0) aG)) (aA (aP bJ aG (aP bQ (aP bO (pv 0) aG) aG)) aC)))),?_⟩;have e1:=bY n (m:=12) (by decide);have e2:=bY (n/12) (m:=4) (by decide);refine ⟨_,rfl,_,_,rfl,rfl,(by show (0:Int)<12;decide),_,_,rfl,rfl,_,rfl,_,_,rfl,rfl,⟨by decide,b9⟩,_,_,rfl,rfl,(by show (0:Int)<4;decide),_,_,rfl,rfl,?_⟩;exact ⟨_,_,rfl,by lia,by lia,b9 (by lia) (by lia),λp H' sm np hp=>k _ _ p H' (sL (by lia) (by lia) (bR 100 (c:=2000000000000000000) (by lia) (by lia)) (bR 100 (c:=2000000000000000000) (by lia) (by lia))) (Int.le_trans (Da _ (by lia)) (by lia)) sm np hp⟩
end
def one (c:Nat):Str:=⟨#[c]⟩
theorem mK (c:Nat):cps (one c)=[c]:=rfl
def aFv {c:Nat}(h:97<=c/\c<=122):Wr (one c):=⟨(by show 1<=1;decide),(by show 1<=8;decide),λx hx=>by
 rw [mK] at hx;rw [AA.mp hx];exact h⟩
def one_inj {c d:Nat}(e:one c=one d):c=d:=by
 have:=congrArg cps e;rw [mK,mK] at this;exact (List.cons.inj this).1
def vQ:Sp:=λvs H Q _=>∃ c:Int,vs=[.int c]/\∀ (ws:Gh) p H',ws.length=6->ws.Nodup->(∀ x∈ws,Wr x)->Same H H'->H p=none->H' p=some (.lst (ws.map V.str))->Q (.ref p) H'
section
variable {P:Aw}{w:World}{K:Ab}{mg:Gb}{base:Heap}
def eZ:FnScope ["_law_left","_law_letters","_law_found","_law_k","_law_word","_law_j","_law_tail"] ["_law_left"] (aH wC):=fnScOk (by decide +kernel)
def aBh {f:Gj}{fd:Az}(F:Fun K "_law_names" "_law_names" wC f fd)(T:Txt mg)(cD:Cal P w K mg base CX0 1 "_law_digit" ["_law_left","_law_many"] hZ):FnOk P w K mg base CX0 2 f fd ["_law_left"] vR:=by
 refine F.okA eZ (λcdv A outer s H vs Q E hr h=>?_)
 ·obtain ⟨a,rfl,lf,k⟩:=h
  refine ⟨_,(aD (aJ (i:=1) eZ.nd aS)
   (aD (aJ (i:=2) eZ.nd (cV aC))
   (aD (dA AO rfl (cQ rfl T.range (aA aG aC)) (aR (i:=3) eZ.nd)
    (aD (aJ (i:=4) eZ.nd aS)
    (aD (dA AO rfl (cQ rfl T.range (aA (aP bJ aG (aI cD hr (aA (pv 0) (aA aG aC)))) aC)) (aR (i:=5) eZ.nd)
     (aE (aJ (i:=4) eZ.nd (aP fX (pv 4) (aZ yQ (pv 1) (aI cD hr (aA (pv 0) (aA aG aC))) (λ_ _=>rfl))))))
    (aD (dA AO rfl (aCr (pv 1)) (aR (i:=6) eZ.nd)
     (aE (bH (aL eT (pv 4) (pv 2) rfl) (aE (aJ (i:=4) eZ.nd (pv 6))) aQ)))
    (aE (dP (pW Cj Cc Cb dM (pv 2) (aA (pv 4) aC))))))))
   (aE (aM (pv 2)))))),?_⟩
  have zL:LET.length<=Au:=by decide +kernel
  refine ⟨zLn0,λp hp=>?_⟩;have pa:p≠a:=lf.there hp;refine ⟨6,rfl,by decide,by decide,?_⟩;refine eF (λi Z H'=>∃ (ws:Gh) (v3 v4 v5 v6:Gr),Z=[some (.ref a),some (.str LET),some (.ref p),v3,v4,v5,v6]/\ws.length=i/\ws.Nodup/\(∀ x∈ws,Wr x)/\SmB a H H'/\Lf H' a/\H' p=some (.lst (ws.map V.str)))
   ⟨[],none,none,none,none,rfl,rfl,Ea,(λ_ h=>nomatch h),SmB.refl.own hp,lf.own pa,aB⟩ ?_ ?_
  ·rintro i Z H2 hi ⟨ws,v3,v4,v5,v6,rfl,wl,nd,wr,s2,lf2,hp2⟩
   have hi6:i<6:=hi;refine ⟨_,rfl,a,8,rfl,lf2,by decide,b9,λe H3 e0 el s3 lf3=>⟨_,_,rfl,rfl,1+e,rfl,by lia,by lia,?_⟩⟩;refine eF (λj Z H'=>∃ (x:Str) (v5:Gr),Z=[some (.ref a),some (.str LET),some (.ref p),some (.int (0+i)),some (.str x),v5,v6]/\x.length=j/\(∀ c∈cps x,97<=c/\c<=122)/\SmB a H H'/\Lf H' a/\H' p=some (.lst (ws.map V.str)))
    ⟨"",v5,rfl,rfl,(λ_ h=>nomatch h),s2.trans s3,lf3,s3 _ _ pa hp2⟩ ?_ ?_
   ·rintro j Z H4 hj ⟨x,u5,rfl,xl,xc,s4,lf4,hp4⟩
    refine ⟨_,rfl,_,rfl,_,rfl,a,26,rfl,lf4,by decide,b9,λg H5 g0 gl s5 lf5=>?_⟩;obtain ⟨gn,rfl⟩:=AN g0;have lx:x.length<=8:=by lia
    refine ⟨LET,(gn:Int),97+gn,rfl,rfl,zL,aW (tK (by lia)),_,_,rfl,rfl,cJ (by show x.length+1<=1000;lia),?_⟩;refine ⟨_,_,rfl,?_,λc hc=>?_,s4.trans s5,lf5,s5 _ _ pa hp4⟩
    ·rw [lenA,xl]
     rfl
    ·rw [dS] at hc
     rcases AS.mp hc with h|h
     ·exact xc c h
     ·have:c=97+gn:=by simpa [cps] using h
      lia
   ·rintro Z H4 ⟨x,u5,rfl,xl,xc,s4,lf4,hp4⟩
    have wx:Wr x:=⟨by lia,by lia,xc⟩;refine ⟨_,rfl,LET,rfl,?_⟩;refine aFk (λj Z H'=>∃ (y:Str) (v6:Gr),Z=[some (.ref a),some (.str LET),some (.ref p),some (.int (0+i)),some (.str y),u5,v6]/\H'=H4/\Wr y/\(y∉ws\/j=0\/∃ q,j=q+1/\y=one (97+q)/\∀ r,r<q->one (97+r)∈ws)) ⟨x,v6,rfl,rfl,wx,.inr (.inl rfl)⟩ ?_ ?_
    ·rintro j c Z H5 hc ⟨y,v6',rfl,rfl,wy,inv⟩
     have hj:j<26:=by
      have:=(Cq.mp hc).1;exact this
     have ec:c=97+j:=by
      have h1:=tK hj;have h2:(cps LET)[j]?=some c:=by simpa [cps] using hc
      rw [h1] at h2;exact (AF h2).symm
     subst ec;refine ⟨_,rfl,_,rfl,p,_,rfl,.inl (Gw hp4),rfl,eG ws,_,rfl,ite2 (λhin=>?_) (λhno=>?_)⟩
     ·have hin':y∈ws:=dW.mp hin
      refine ⟨_,rfl,one (97+j),_,rfl,rfl,aFv (by lia),.inr (.inr ⟨j,rfl,rfl,λr hr=>?_⟩)⟩
      rcases inv with h|h|⟨q,e,ey,h⟩
      ·exact absurd hin' h
      ·lia
      ·by_cases z:r=q
       ·rw [z,<- ey]
        exact hin'
       ·exact h r (by lia)
     ·exact ⟨y,_,rfl,rfl,wy,.inl λz=>hno (dW.mpr z)⟩
    ·rintro Z H5 ⟨y,v6',rfl,rfl,wy,inv⟩
     have ny:y∉ws:=by
      rcases inv with h|h|⟨q,e,ey,h⟩
      ·exact h
      ·exact absurd h (by decide)
      ·exfalso
       have q25:q=25:=by
        have:LET.cps.size=26:=by decide +kernel
        lia
       have:=aG2 (λr=>one (97+r)) 25 ws (λr hr=>h r (by lia)) (λr1 r2 _ _ e=>by have:=one_inj e;lia);lia
     refine ⟨_,rfl,.inl ⟨rfl,_,Gw hp4⟩,_,rfl,p,_,_,rfl,rfl,hp4,bP (by rw [Af];lia),?_⟩;refine ⟨ws++[y],_,_,_,_,rfl,by rw [Av,wl];rfl,uH nd ny,λz hz=>?_,s4.own hp,lf4.own pa,by rw [Be];exact aB⟩
     rcases AS.mp hz with h|h
     ·exact wr z h
     ·rw [AA.mp h]
      exact wy
  ·rintro Z H2 ⟨ws,v3,v4,v5,v6,rfl,wl,nd,wr,s2,lf2,hp2⟩
   exact ⟨_,rfl,k ws p H2 wl nd wr s2 hp pa hp2⟩
def ndW1:(["_law_tail","_law_word"]:Gh).Nodup:=by decide +kernel
def ndW2:(["_law_k","_law_word","_law_letters","_law_number"]:Gh).Nodup:=by decide +kernel
abbrev lR:Gh:=["","a","aa","ab","b","ba"]
def aFo {x y:Str}(h:cps x=cps y):x=y:=by
 obtain ⟨⟨x⟩⟩:=x;obtain ⟨⟨y⟩⟩:=y;simp [cps] at h;rw [h]
def aAe {x y z:Str}(h:x++y=x++z):y=z:=by
 have:=congrArg cps h;rw [dS,dS] at this;exact aFo (List.append_cancel_left this)
def aB9 {x y:Str}(l1:1<=x.length)(l:x.length+y.length<=8)(hx:∀ c∈cps x,97<=c/\c<=122)(hy:∀ c∈cps y,97<=c/\c<=122):Wr (x++y):=by
 refine ⟨by rw [lenA];lia,by rw [lenA];exact l,λc hc=>?_⟩;rw [dS] at hc
 rcases AS.mp hc with h|h
 ·exact hx c h
 ·exact hy c h
def qZ:∀ t∈lR,t.length<=2/\∀ c∈cps t,97<=c/\c<=122:=by decide +kernel
def aAn:lR.Nodup:=by decide +kernel
def vM {ys:Gq}{ws:Gh}(hl:ys.length=ws.length)(h:∀ (i:Nat) y b,ys[i]?=some y->ws[i]?=some b->y=.str b):ys=ws.map V.str:=by
 refine list_eq (by rw [Af];exact hl) λi x y hx hy=>?_;rw [Aq] at hx;cases e:ws[i]? with
 |none=>rw [e] at hx;cases hx
 |some b=>
  rw [e] at hx;cases hx;exact h i y b hy e
theorem kA {α β:Type}{f:α->β}:∀ {l:List α},(∀ x∈l,∀ y∈l,f x=f y->x=y)->l.Nodup->(l.map f).Nodup
 |[],_,_=>Ea
 |x::r,h,n=>by
  rw [BF] at n;rw [Ak,BF];refine ⟨λz=>?_,kA (λa ha b hb=>h a (Ah _ ha) b (Ah _ hb)) n.2⟩;obtain ⟨y,hy,e⟩:=AE.mp z;have:=h y (Ah _ hy) x (Ar ..) e;rw [this] at hy;exact n.1 hy
def iA:FnScope ["_law_cell","_law_letters","_law_number","_law_word","_law_k"] ["_law_cell"] (aH jH):=fnScOk (by decide +kernel)
def aA9 {f:Gj}{fd:Az}(F:Fun K "_law_wares" "_law_wares" jH f fd)(T:Txt mg)(cN:Cal P w K mg base CX0 2 "_law_names" ["_law_left"] vR)(cM:Cal P w K mg base CX0 2 "_law_mixed" ["_law_cell","_law_k"] jA):FnOk P w K mg base CX0 3 f fd ["_law_cell"] vQ:=by
 refine F.okA iA (λcdv A outer s H vs Q E hr h=>?_)
 ·obtain ⟨c,rfl,k⟩:=h
  refine ⟨_,(aD (aJ (i:=1) iA.nd aS)
   (aD (bH (aL bW (aP bQ (pv 0) aG) aG)
    (aE (aM (aI cN hr (aA (cV (aA (aP bO (aT gZ rfl T.abs' oJ (aA (pv 0) aC)) aG) aC)) aC))))
    aQ)
   (aD (aJ (i:=2) iA.nd (aI cM hr (aA (pv 0) (aA aG aC))))
   (aD (aJ (i:=3) iA.nd aS)
   (aD (dA AO rfl (cQ rfl T.range (aA (aP bJ aG (aP bQ (pv 2) aG)) aC)) (aR (i:=4) iA.nd)
    (aE (aJ (i:=3) iA.nd (aP fX (pv 3) (aZ yQ (pv 1) (aP bQ (aP bO (aI cM hr (aA (pv 0) (aA (aP bJ (pv 4) aG) aC))) aG) aG) (λ_ _=>rfl))))))
   (aD (bH (aL bW (aP bQ (aP bO (pv 2) aG) aG) aG)
    (aE (aM (eO (N':=["_law_tail","_law_word"]) (λZ=>[none,some 3].map λt=>t.bind λj=>(Z[j]?).join) rfl rfl (by decide +kernel) (by decide +kernel)
     (kY (sc:=aH jH) rfl (by decide +kernel)) (λ_ _ _=>eR (sc:=aH jH) (N:=["_law_cell","_law_letters","_law_number","_law_word","_law_k"]) [none,some 3] rfl rfl rfl rfl (by decide +kernel))
     (gC (aU (aA aS (aA aS (aA aS (aA aS (aA aS (aA aS aC)))))))) (λ_ _ _ _ _ _=>aR (i:=0) ndW1) (λ_ _ _ _ _ _=>dY)
     (λ_ _ _ _ _ _=>aP fX (pv 1) (pv 0)))))
    aQ)
   (aE (aM (eO (N':=["_law_k","_law_word","_law_letters","_law_number"]) (λZ=>[none,some 3,some 1,some 2].map λt=>t.bind λj=>(Z[j]?).join) rfl rfl (by decide +kernel) (by decide +kernel)
     (kY (sc:=aH jH) rfl (by decide +kernel)) (λ_ _ _=>eR (sc:=aH jH) (N:=["_law_cell","_law_letters","_law_number","_law_word","_law_k"]) [none,some 3,some 1,some 2] rfl rfl rfl rfl (by decide +kernel))
     (cQ rfl T.range (aA aG aC)) (λ_ _ _ _ _ _=>aR (i:=0) ndW2) (λ_ _ _ _ _ _=>dY)
     (λ_ _ _ _ _ _=>aP fX (pv 1) (aZ yQ (pv 2) (aP bQ (aP bJ (aP bO (pv 3) aG) (aP bL aG (pv 0))) aG) (λ_ _=>rfl)))))))))))),?_⟩
  have zL:LET.length<=Au:=by decide +kernel
  refine ⟨_,rfl,_,_,rfl,rfl,(by show (0:Int)<2;decide),rfl,_,rfl,ite2 (λ_=>?_) (λ_=>?_)⟩
  ·refine ⟨_,rfl,c,rfl,?_⟩
   have ha:0<=(if c<0 then -c else c):=by split<;>lia
   generalize (if c<0 then -c else c)=n at *
   refine ⟨_,_,rfl,rfl,⟨by decide,b9⟩,zLn1,λz hz=>⟨z,rfl,⟨_,aB,Int.ediv_nonneg ha (by decide)⟩,λws p H' wl nd wr sm hp pz hp'=>?_⟩⟩;have hpn:H p=none:=by
    cases e:H p with
    |none=>rfl
    |some o=>
     have:=Gu (o:=.lst [.int (n/2)]) hz _ _ e;rw [hp] at this;cases this
   exact k ws p H' wl nd wr (λb o e=>sm b o (λq=>by rw [q,hz] at e;cases e) (Gu hz _ _ e)) hpn hp'
  refine ⟨_,rfl,c,0,rfl,by decide,by decide,λn n0 nl=>?_⟩;have e5:=bY n (m:=5) (by decide);refine ⟨_,rfl,_,_,rfl,rfl,(by show (0:Int)<5;decide),_,_,rfl,rfl,_,rfl,by lia,by lia,?_⟩;refine eF (λi Z H'=>∃ (x:Str) (v4:Gr),Z=[some (.int c),some (.str LET),some (.int n),some (.str x),v4]/\x.length=i/\(∀ d∈cps x,97<=d/\d<=122)/\H'=H) ⟨"",none,rfl,rfl,(λ_ h=>nomatch h),rfl⟩ ?_ ?_
  ·rintro i Z H' hi ⟨x,v4,rfl,xl,xc,rfl⟩
   refine ⟨_,rfl,_,rfl,_,rfl,_,rfl,_,_,rfl,rfl,c,_,rfl,by lia,by lia,λm m0 ml=>?_⟩;have e:=bY (m/64) (m:=26) (by decide);obtain ⟨gn,hg⟩:=AN e.1;refine ⟨_,_,rfl,rfl,⟨by decide,b9⟩,_,_,rfl,rfl,(by show (0:Int)<26;decide),LET,_,97+gn,rfl,rfl,zL,(by rw [hg];exact aW (tK (by lia))),_,_,rfl,rfl,cJ (by show x.length+1<=1000;lia),?_⟩;refine ⟨_,_,rfl,?_,λd hd=>?_,rfl⟩
   ·rw [lenA,xl]
    rfl
   ·rw [dS] at hd
    rcases AS.mp hd with h|h
    ·exact xc d h
    ·have:d=97+gn:=by simpa [cps] using h
     lia
  ·rintro Z H' ⟨x,v4,rfl,xl,xc,rfl⟩
   have xl1:1<=x.length:=by lia
   have xl5:x.length<=5:=by lia
   refine ⟨_,rfl,_,_,rfl,rfl,⟨by decide,b9⟩,_,_,rfl,rfl,(by show (0:Int)<2;decide),rfl,_,rfl,ite2 (λ_=>?_) (λ_=>?_)⟩
   ·refine ⟨zLn6,λq hq=>⟨q,rfl,⟨_,Gv aB⟩,λD hD=>?_⟩⟩
    refine fZ (Ys.tup (xs:=lR.map V.str) (Gv aB)) (λi _ y _=>∀ t,lR[i]?=some t->y=.str (x++t)) (λ_ _ _ _ _ h _=>h) hD (by decide) (λi y H2 R hy sm hR=>?_) (λys H2 sm hD' yl hy=>?_)
    ·rw [Aq] at hy
     cases et:lR[i]? with
     |none=>rw [et] at hy;cases hy
     |some t=>
      rw [et] at hy;cases hy;have:=(qZ t (Al et)).1;refine ⟨(Keep.refl _).set rfl,_,rfl,_,rfl,_,_,rfl,rfl,cJ (by lia),hR _ _ (Same.refl _) λt' e'=>?_⟩;rw [et] at e';cases e';rfl
    ·have ey:=vM (ws:=lR.map λt=>x++t) (yl.trans (by rfl)) λi y b h1 h2=>by
      rw [Aq] at h2;cases et:lR[i]? with
      |none=>rw [et] at h2;cases h2
      |some t=>
       rw [et] at h2;cases h2;exact hy i (.str t) y (by rw [Aq,et];rfl) h1 t et
     subst ey;refine k _ D H2 rfl (kA (λa _ b _ e=>aAe e) aAn) (λz hz=>?_) ((Gu hq).trans sm) ?_ hD'
     ·obtain ⟨t,ht,rfl⟩:=AE.mp hz
      have tt:=qZ t ht;exact aB9 xl1 (by lia) xc tt.2
     ·cases e:H' D with
      |none=>rfl
      |some o=>
       have h9:upd H' q (.tup (lR.map V.str)) D=none:=hD;have:=Gu (o:=.tup (lR.map V.str)) hq _ _ e;rw [h9] at this;cases this
   ·refine ⟨6,rfl,by decide,by decide,λD hD=>?_⟩
    refine fZ (Ys.rng (lo:=0) (n:=6)) (λi _ y _=>y=.str (x++one (97+((n/10+3*((0:Int)+i))%26).toNat))) (λ_ _ _ _ _ h _=>h) hD (by decide) (λi y H2 R hy sm hR=>?_) (λys H2 sm hD' yl hy=>?_)
    ·obtain ⟨hi,rfl⟩:=rK hy
     have e:=bY (n/10+3*((0:Int)+i)) (m:=26) (by decide);have bi:Bt 64 ((0:Int)+i):=bR 64 (c:=100) (by lia) (by lia);obtain ⟨gn,hg⟩:=AN e.1;refine ⟨(Keep.refl _).set rfl,_,rfl,_,rfl,_,rfl,_,_,rfl,rfl,⟨by decide,b9⟩,_,rfl,_,_,rfl,rfl,⟨bl,b6 bi⟩,_,_,rfl,rfl,_,_,rfl,rfl,(by show (0:Int)<26;decide),LET,_,97+gn,rfl,rfl,zL,(by rw [hg];exact aW (tK (by lia))),_,_,rfl,rfl,cJ (by show x.length+1<=1000;lia),hR _ _ (Same.refl _) ?_⟩;rw [hg];rfl
    ·have ey:=vM (ws:=(AV 6).map λi=>x++one (97+((n/10+3*((0:Int)+(i:Nat)))%26).toNat)) (yl.trans (by rfl)) λi y b h1 h2=>by
      rw [Aq] at h2;cases et:(AV 6)[i]? with
      |none=>rw [et] at h2;cases h2
      |some t=>
       rw [et] at h2;cases h2;have ti:i=t:=by
        obtain ⟨hl,e⟩:=Ad.mp et
        simpa using e
       subst ti;obtain ⟨v,hv⟩:∃ v,(rngV 0 6)[i]?=some v:=⟨_,Ae (by rw [fA];have:=(Ad.mp et).1;simpa using this)⟩;exact hy i v y hv h1
     subst ey;refine k _ D H2 rfl (kA (λa ha b hb e=>?_) List.nodup_range) (λz hz=>?_) sm hD hD'
     ·have h1:=one_inj (aAe e)
      have ha':=CM.mp ha;have hb':=CM.mp hb;lia
     ·obtain ⟨t,ht,rfl⟩:=AE.mp hz
      have e:=bY (n/10+3*((0:Int)+(t:Nat))) (m:=26) (by decide);refine aB9 xl1 (by show x.length+1<=8;lia) xc (λd hd=>?_);rw [mK] at hd;rw [AA.mp hd];lia
end
def jB:∀ {ss:Gh},sortedS ss=true->ss.Pairwise (λa b=>a.cps.toList<=b.cps.toList)
 |[],_=>.nil
 |x::r,h=>by
  have key:∀ (r:Gh) (x:Str),risingS x r=true->(∀ y∈r,x.cps.toList<=y.cps.toList)/\r.Pairwise (λa b=>a.cps.toList<=b.cps.toList):=by
   intro r
   induction r with
   |nil=>intro x _;exact ⟨(λ_ h=>nomatch h),.nil⟩
   |cons y r ih=>
    intro x hx;have hx':(!ltCps y.cps.toList x.cps.toList&&risingS y r)=true:=hx;simp only [BG,Bool.not_eq_true'] at hx';obtain ⟨h1,h2⟩:=hx';rw [ltCps_eq] at h1;have le:x.cps.toList<=y.cps.toList:=List.not_lt.mp (of_decide_eq_false h1);obtain ⟨i1,i2⟩:=ih y h2;refine ⟨λz hz=>?_,.cons i1 i2⟩
    rcases Ay.mp hz with rfl|hz
    ·exact le
    ·exact List.le_trans le (i1 z hz)
  obtain ⟨k1,k2⟩:=key r x h;exact .cons k1 k2
abbrev ltS (a b:Str):Prop:=a.cps.toList<b.cps.toList
structure Six (ss:Gh):Prop where
 l:ss.length=6
 up:ss.Pairwise ltS
 wr:∀ x∈ss,Wr x
structure Six0 (ss:Gh):Prop where
 l:ss.length=6
 nd:ss.Nodup
 wr:∀ x∈ss,Wr x
def aGd {x y:Str}(h:x.cps.toList=y.cps.toList):x=y:=by
 obtain ⟨x⟩:=x;obtain ⟨y⟩:=y;exact congrArg Str.mk (Array.toList_inj.mp h)
def Six.of {ws ss:Gh}(h:Six0 ws)(p:ss.Perm ws)(s:sortedS ss=true):Six ss:=by
 refine ⟨p.length_eq.trans h.l,?_,λx hx=>h.wr x (p.mem_iff.mp hx)⟩;have n:ss.Nodup:=p.nodup_iff.mpr h.nd;refine (List.pairwise_and_iff.mpr ⟨jB s,n⟩).imp λ{a b} hab=>?_
 rcases List.le_iff_lt_or_eq.mp hab.1 with q|q
 ·exact q
 ·exact absurd (aGd q) hab.2
def prS (ss:Gh)(q:Nat×Nat):Str×Str:=(ss.getD q.1 "",ss.getD q.2 "")
structure Qs (qs:List (Nat×Nat))(j k:Nat):Prop where
 pw:qs.Pairwise λq r=>q.1<r.1\/(q.1=r.1/\q.2<r.2)
 rg:∀ q∈qs,q.1<q.2/\q.2<6/\(q.1<j\/(q.1=j/\q.2<k))
def Qs.add {qs:List (Nat×Nat)}{j k:Nat}(h:Qs qs j k)(jk:j<k)(k6:k<6):Qs (qs++[(j,k)]) j (k+1):=by
 refine ⟨List.pairwise_append.mpr ⟨h.pw,List.pairwise_singleton _ _,λq hq r hr=>?_⟩,λq hq=>?_⟩
 ·rw [AA.mp hr]
  exact (h.rg q hq).2.2
 ·rcases AS.mp hq with z|z
  ·have:=h.rg q z
   lia
  ·rw [AA.mp z]
   exact ⟨jk,k6,.inr ⟨rfl,Cd _⟩⟩
def Qs.more {qs:List (Nat×Nat)}{j k:Nat}(h:Qs qs j k):Qs qs j (k+1):=⟨h.pw,λq hq=>by have:=h.rg q hq;lia⟩
def Qs.next {qs:List (Nat×Nat)}{j k m:Nat}(h:Qs qs j k):Qs qs (j+1) m:=⟨h.pw,λq hq=>by have:=h.rg q hq;lia⟩
def Qs.nil:Qs [] 0 m:=⟨.nil,λq hq=>nomatch hq⟩
structure GoodPs (ps:Gf):Prop where
 l:ps.length<=25
 r:aIa ps
 ok:∀ p∈ps,Wr p.1/\Wr p.2/\ltS p.1 p.2
theorem Six.get {ss:Gh}(h:Six ss){i:Nat}(hi:i<6):ss[i]?=some (ss.getD i ""):=by
 have:=Ae (l:=ss) (i:=i) (by rw [h.l];exact hi);rw [this,Fm,this];rfl
theorem Six.lt {ss:Gh}(h:Six ss){i k:Nat}(ik:i<k)(hk:k<6):ltS (ss.getD i "") (ss.getD k ""):=by
 have h1:i<ss.length:=by have:=h.l;lia
 have h2:k<ss.length:=by have:=h.l;lia
 have:=Dg.mp h.up i k h1 h2 ik;rw [Fm,Fm,Ae h1,Ae h2];exact this
theorem Six.w {ss:Gh}(h:Six ss){i:Nat}(hi:i<6):Wr (ss.getD i ""):=h.wr _ (Al (h.get hi))
theorem aE9 {x y:Str}(h:ltS x y):x≠y:=λe=>by
 subst e;exact List.lt_irrefl _ h
def aFb {a b c d:Str}(h:ltS a c):ltP (a,b) (c,d):=by
 show HT.lexLtS [a,b] [c,d]=true;rw [HT.lexLtS_cons,if_neg (aE9 h)];exact decide_eq_true h
def aFa {a b d:Str}(h:ltS b d):ltP (a,b) (a,d):=by
 show HT.lexLtS [a,b] [a,d]=true;rw [HT.lexLtS_cons,if_pos rfl,HT.lexLtS_cons,if_neg (aE9 h)];exact decide_eq_true h
def Qs.good {qs:List (Nat×Nat)}{ss:Gh}{j k:Nat}(h:Qs qs j k)(s:Six ss)(l:qs.length<=25):GoodPs (qs.map (prS ss)):=by
 refine ⟨by rw [Af];exact l,λi p q hp hq=>?_,λp hp=>?_⟩
 ·rw [Aq] at hp hq
  obtain ⟨x,hx,rfl⟩:=AZ.mp hp;obtain ⟨y,hy,rfl⟩:=AZ.mp hq;obtain ⟨l1,rfl⟩:=Ad.mp hx;obtain ⟨l2,rfl⟩:=Ad.mp hy;have pw:=Dg.mp h.pw i (i+1) l1 l2 (Cd _);have r1:=h.rg _ (DB l1);have r2:=h.rg _ (DB l2)
  rcases pw with z|⟨z1,z2⟩
  ·exact aFb (s.lt z (by lia))
  ·show ltP (ss.getD _ "",ss.getD _ "") (ss.getD _ "",ss.getD _ "")
   rw [z1];exact aFa (s.lt z2 (by lia))
 ·obtain ⟨q,hq,rfl⟩:=AE.mp hp
  have r:=h.rg q hq;exact ⟨s.w (by lia),s.w r.2.1,s.lt r.1 r.2.1⟩
def PsT (H:Hp)(us:Gq)(ps:Gf):Prop:=us.length=ps.length/\∀ (i:Nat) u p,us[i]?=some u->ps[i]?=some p->∃ q,u=.ref q/\H q=some (.tup [.str p.1,.str p.2])
def PsT.nil {H:Hp}:PsT H [] []:=⟨rfl,λi u p h=>by simp at h⟩
def PsT.keep {H H':Hp}{us:Gq}{ps:Gf}(h:PsT H us ps)(s:Tk H H'):PsT H' us ps:=⟨h.1,λi u p hu hp=>by
 obtain ⟨q,e,sq⟩:=h.2 i u p hu hp;exact ⟨q,e,s _ _ sq⟩⟩
def PsT.add {H:Hp}{us:Gq}{ps:Gf}{q:Gj}{p:Str×Str}(h:PsT H us ps)(k:H q=some (.tup [.str p.1,.str p.2])):PsT H (us++[.ref q]) (ps++[p]):=by
 refine ⟨by rw [Av,Av,h.1];rfl,λj x d hx hd=>?_⟩
 by_cases hj:j<us.length
 ·rw [BW hj] at hx
  rw [BW (by rw [<- h.1];exact hj)] at hd;exact h.2 j x d hx hd
 ·rw [BC (by lia)] at hx
  rw [BC (by rw [<- h.1];lia),<- h.1] at hd;obtain ⟨hl,e⟩:=Ad.mp hx;simp at hl;rw [hl] at hx hd;cases hx;cases hd;exact ⟨q,rfl,k⟩
def iS {H H':Hp}{p:Gj}{o:HO}(s:Same H H')(n:H p=none):Same H (upd H' p o):=λb u e=>by
 rw [aK (λz=>by rw [z,n] at e;cases e)];exact s _ _ e
def same_none {H H':Hp}{p:Gj}(s:Same H H')(n:H' p=none):H p=none:=by
 cases e:H p with
 |none=>rfl
 |some o=>
  have:=s _ _ e;rw [n] at this;cases this
def tJ {ss:Gh}(h:Six ss){i:Nat}{e:Int}(hi:i<6)(he:e=(i:Int)):atI (ss.map V.str) e=some (.str (ss.getD i "")):=by
 rw [he];exact aW (by rw [Aq,h.get hi];rfl)
def gM {H H1 H2:Hp}{a:Gj}(s:Same H H1)(k:SmB a H1 H2)(n:H a=none):Same H H2:=λb o e=>k b o (λz=>by rw [z,n] at e;cases e) (s b o e)
def SmB.tk {H H':Hp}{a:Gj}(k:SmB a H H')(l:Lf H a):Tk H H':=λb ys e=>k b _ (λz=>by
 obtain ⟨_,h,_⟩:=l;rw [z,h] at e;cases e) e
def RmsT (H:Hp)(us:Gq):Prop:=∀ u∈us,∃ q t b,u=.ref q/\H q=some (.tup [.int t,.int b])/\Rm t b
def RmsT.nil {H:Hp}:RmsT H []:=λu h=>nomatch h
def RmsT.keep {H H':Hp}{us:Gq}(h:RmsT H us)(s:Tk H H'):RmsT H' us:=λu hu=>by
 obtain ⟨q,t,b,e,sq,r⟩:=h u hu;exact ⟨q,t,b,e,s _ _ sq,r⟩
def RmsT.add {H:Hp}{us:Gq}{q:Gj}{t b:Int}(h:RmsT H us)(k:H q=some (.tup [.int t,.int b]))(r:Rm t b):RmsT H (us++[.ref q]):=λu hu=>by
 rcases AS.mp hu with z|z
 ·exact h u z
 ·rw [AA.mp z]
  exact ⟨q,t,b,rfl,k,r⟩
structure Bn (H:Hp)(p r q:Gj)(rs us:Gq)(ps:Gf):Prop where
 hp:H p=some (.tup [.ref r,.ref q])
 hr:H r=some (.tup rs)
 rm:RmsT H rs
 l1:1<=rs.length
 l16:rs.length<=16
 hq:H q=some (.tup us)
 pt:PsT H us ps
 g:GoodPs ps
def Bn.keep {H H':Hp}{p r q:Gj}{rs us:Gq}{ps:Gf}(h:Bn H p r q rs us ps)(s:Same H H'):Bn H' p r q rs us ps:=⟨s _ _ h.hp,s _ _ h.hr,h.rm.keep s.tk,h.l1,h.l16,s _ _ h.hq,h.pt.keep s.tk,h.g⟩
inductive spBench (K:Ab)(vs:Gq)(H:Hp)(Q:VK)(Ex:XK):Prop
 |mk (a:Gj) (ns:List Int) (w:Gj) (ws:Gh) (e0:vs=[.ref a,.ref w]) (e1:SqL K H a (ns.map V.int)) (e2:SqL K H w (ws.map V.str)) (e3:Six0 ws) (e4:∀ p r q rs us ps H',Same H H'->Bn H' p r q rs us ps->Q (.ref p) H'):spBench K vs H Q Ex
def abs_nonneg (c:Int):0<=(if c<0 then -c else c):=by split<;>lia
def aJl (t:Int):G t 1=1:=by
 have h1:=qS (a:=t) (b:=1) (by decide);have h2:=aAg (a:=t) (b:=1) (by decide);lia
def aGt {t:Int}(h:1<=t)(ht:Bt 100 t):Rm t 1:=⟨h,by decide,aJl t,ht,bR 100 (c:=2) (by decide) (by decide)⟩
section
variable {P:Aw}{w:World}{K:Ab}{mg:Gb}{base:Heap}
def gB:FnScope ["_law_script","_law_wares_here","_law_left","_law_rooms","_law_k","_law_top","_law_pairs","_law_some","_law_j"] ["_law_script","_law_wares_here"] (aH aEb):=fnScOk (by decide +kernel)
def aE5 {f:Gj}{fd:Az}(F:Fun K "_law_free_bench" "_law_free_bench" aEb f fd)(T:Txt mg)(cC:Cal P w K mg base CX0 1 "_law_cell_at" ["_law_script","_law_k"] (mX K))(cD:Cal P w K mg base CX0 1 "_law_digit" ["_law_left","_law_many"] hZ)(cL:Cal P w K mg base CX0 1 "_law_lowest" ["_law_top","_law_bottom"] eL):FnOk P w K mg base CX0 2 f fd ["_law_script","_law_wares_here"] (spBench K):=by
 refine F.okA gB (λcdv A outer s H vs Q E hr h=>?_)
 ·obtain ⟨a,ns,w,ws,rfl,ha,hw,six0,k⟩:=h
  refine ⟨_,(aD (aJ (i:=2) gB.nd (cV (aA (aT gZ rfl T.abs' oJ (aA (aI cC hr (aA (pv 0) (aA aG aC))) aC)) aC)))
   (aD (aJ (i:=3) gB.nd (cV aC))
   (aD (dA AO rfl (cQ rfl T.range (aA (aP bJ aG (aI cD hr (aA (pv 2) (aA aG aC)))) aC)) (aR (i:=4) gB.nd)
    (aD (aJ (i:=5) gB.nd (aP bJ aG (aI cD hr (aA (pv 2) (aA (aP pX aG aG) aC)))))
    (aE (dP (pW Cj Cc Cb dM (pv 3) (aA (aI cL hr (aA (pv 5) (aA (aP bJ aG (aI cD hr (aA (pv 2) (aA (aP pX aG aG) aC)))) aC))) aC))))))
   (aD (aJ (i:=6) gB.nd (cV aC))
   (aD (aJ (i:=2) gB.nd (cV (aA (aT gZ rfl T.abs' oJ (aA (aI cC hr (aA (pv 0) (aA aG aC))) aC)) aC)))
   (aD (aJ (i:=7) gB.nd (aT lO rfl T.sorted' boot_sorted (aA (pv 1) aC)))
   (aD (dA AO rfl (cQ rfl T.range (aA aG aC)) (aR (i:=8) gB.nd)
    (aE (dA AO rfl (jT rfl T.range (aA (aP bJ (pv 8) aG) (aA aG aC))) (aR (i:=4) gB.nd)
     (aE (bH (aL bW (aI cD hr (aA (pv 2) (aA aG aC))) aG)
      (aE (dP (pW Cj Cc Cb dM (pv 6) (aA (aU (aA (aZ aX (pv 7) (pv 8) (λ_ _=>rfl)) (aA (aZ aX (pv 7) (pv 4) (λ_ _=>rfl)) aC))) aC))))
      aQ)))))
   (aE (aM (aU (aA (aV bG rfl T.tup' dB (aA (pv 3) aC)) (aA (aV bG rfl T.tup' dB (aA (pv 6) aC)) aC)))))))))))),?_⟩
  refine ⟨_,rfl,a,ns,1,rfl,ha,by decide,λc=>⟨c,rfl,zLn1,λl hl=>?_⟩⟩;have c0:=abs_nonneg c;generalize (if c<0 then -c else c)=n at *
  have s1:Same H (upd H l (.lst [.int n])):=Gu hl;refine ⟨zLn0,λd hd=>?_⟩;have dl:d≠l:=λe=>by rw [e,aB] at hd;cases hd
  have hd0:H d=none:=same_none s1 hd;have e18':(10:Int)^Int.toNat 18=1000000000000000000:=e18;refine ⟨_,rfl,l,16,rfl,⟨n,by rw [aK (Bi dl)];exact aB,c0⟩,by decide,b9,λm H1 m0 ml sb lf=>⟨_,_,rfl,rfl,_,rfl,by lia,by lia,?_⟩⟩;have s2:Same H H1:=gM (s1.trans (Gu hd)) sb hl;have hd1:H1 d=some (.lst []):=sb d _ dl aB;refine eF (λi Z H'=>∃ (rs:Gq) (v4 v5:Gr),Z=[some (.ref a),some (.ref w),some (.ref l),some (.ref d),v4,v5,none,none,none]/\Same H H'/\Lf H' l/\H' d=some (.lst rs)/\rs.length=i/\RmsT H' rs)
   ⟨[],none,none,rfl,s2,lf,hd1,rfl,RmsT.nil⟩ ?_ ?_
  ·rintro i Z H2 hi ⟨rs,v4,v5,rfl,s3,lf2,hd2,rl,rm⟩
   refine ⟨_,rfl,_,_,rfl,rfl,⟨by decide,by decide,bk⟩,l,_,rfl,lf2,?_,?_,λt H3 t0 tl sb3 lf3=>⟨_,_,rfl,rfl,?_⟩⟩
   ·rw [e18'];decide
   ·rw [e18'];exact b9
   have hd3:=sb3 _ _ dl hd2;refine ⟨_,rfl,.inl ⟨rfl,_,Gw hd3⟩,_,rfl,_,rfl,_,_,rfl,rfl,⟨by decide,by decide,bk⟩,l,_,rfl,lf3,?_,?_,λb H4 b0 bl' sb4 lf4=>⟨_,_,rfl,rfl,?_⟩⟩
   ·rw [e18'];decide
   ·rw [e18'];exact b9
   rw [e18'] at bl' tl;refine ⟨1+t,1+b,rfl,by lia,by lia,b9 (by lia) (by lia),λp H5 s5 hp5 hp5'=>?_⟩;have hd4:=sb4 _ _ dl hd3;have hd5:=s5 _ _ hd4;have pd:p≠d:=λe=>by rw [e,hd4] at hp5;cases hp5
   refine ⟨d,rs,_,rfl,rfl,hd5,bP (by lia),?_⟩;refine ⟨rs++[.ref p],_,_,rfl,iS ((gM (gM s3 sb3 hl) sb4 hl).trans s5) hd0,(lf4.keep s5).own dl,aB,by rw [Av,rl];rfl,?_⟩;refine ((((rm.keep (sb3.tk lf2)).keep (sb4.tk lf3)).keep s5.tk).keep (Tk.lst hd5)).add (by rw [aK pd];exact hp5') (sL (by lia) (by lia) (bR 100 (c:=2000000000000000000) (by lia) (by lia)) (bR 100 (c:=2000000000000000000) (by lia) (by lia)))
  ·rintro Z H2 ⟨rs,v4,v5,rfl,s3,lf2,hd2,rl,rm⟩
   have rl1:1<=rs.length:=by lia
   have rl16:rs.length<=16:=by lia
   refine ⟨zLn0,λg hg=>?_⟩;have hg0:H g=none:=same_none s3 hg;have gd:g≠d:=λe=>by rw [e,hd2] at hg;cases hg
   have s4:=s3.trans (Gu (o:=.lst []) hg);refine ⟨_,rfl,a,ns,2,rfl,s4.seq ha,by decide,λc'=>⟨c',rfl,zLn1,λl2 hl2=>?_⟩⟩;have c0':=abs_nonneg c';generalize (if c'<0 then -c' else c')=n' at *
   have s5:=s4.trans (Gu (o:=.lst [.int n']) hl2);have hl20:H l2=none:=same_none s4 hl2;have lg:l2≠g:=λe=>by rw [e,aB] at hl2;cases hl2
   have ld:l2≠d:=λe=>by rw [e,Gu hg _ _ hd2] at hl2;cases hl2
   refine ⟨_,rfl,w,ws,rfl,s5.seq hw,by have:=six0.l;lia,λz ss pm st hz=>?_⟩;have six:=Six.of six0 pm st;have hz0:H z=none:=same_none s5 hz;have zl:z≠l2:=λe=>by rw [e,aB] at hz;cases hz
   have zg:z≠g:=λe=>by rw [e,Gu hl2 _ _ aB] at hz;cases hz
   have zd:z≠d:=λe=>by rw [e,Gu hl2 _ _ (Gu hg _ _ hd2)] at hz;cases hz
   have s6:=s5.trans (Gu (o:=.lst (ss.map V.str)) hz);refine ⟨6,rfl,by decide,by decide,?_⟩;refine eF (λi Z H'=>∃ (us:Gq) (qs:List (Nat×Nat)) (v4 v8:Gr),Z=[some (.ref a),some (.ref w),some (.ref l2),some (.ref d),v4,v5,some (.ref g),some (.ref z),v8]/\Same H H'/\Lf H' l2/\H' d=some (.lst rs)/\RmsT H' rs/\H' g=some (.lst us)/\H' z=some (.lst (ss.map V.str))/\PsT H' us (qs.map (prS ss))/\Qs qs i 0/\qs.length<=5*min i 5)
    ⟨[],[],_,none,rfl,s6,⟨n',Gu hz _ _ aB,c0'⟩,Gu hz _ _ (Gu hl2 _ _ (Gu hg _ _ hd2)),((rm.keep (Gu hg).tk).keep (Gu hl2).tk).keep (Gu hz).tk,Gu hz _ _ (Gu hl2 _ _ aB),aB,PsT.nil,Qs.nil,by decide⟩ ?_ ?_
   ·rintro j Z H3 hj ⟨us,qs,v4,v8,rfl,s7,lf3,hd3,rm3,hg3,hz3,pt,hq,ql⟩
    have hj6:j<6:=hj;refine ⟨_,rfl,_,_,rfl,rfl,_,_,rfl,by lia,?_⟩;refine eF (λi Z H'=>∃ (us:Gq) (qs:List (Nat×Nat)) (v4:Gr),Z=[some (.ref a),some (.ref w),some (.ref l2),some (.ref d),v4,v5,some (.ref g),some (.ref z),some (.int (0+j))]/\Same H H'/\Lf H' l2/\H' d=some (.lst rs)/\RmsT H' rs/\H' g=some (.lst us)/\H' z=some (.lst (ss.map V.str))/\PsT H' us (qs.map (prS ss))/\Qs qs j (j+1+i)/\qs.length<=5*min j 5+i)
     ⟨us,qs,v4,rfl,s7,lf3,hd3,rm3,hg3,hz3,pt,⟨hq.pw,λq h=>by have:=hq.rg q h;lia⟩,by lia⟩ ?_ ?_
    ·rintro i Z H4 hi ⟨us,qs,v4,rfl,s8,lf4,hd4,rm4,hg4,hz4,pt,hq,ql⟩
     have hi6:j+1+i<6:=by lia
     refine ⟨_,rfl,l2,2,rfl,lf4,by decide,b9,λm H5 m0 ml sb5 lf5=>?_⟩;have s9:=gM s8 sb5 hl20;have hd5:=sb5 _ _ (Bi ld) hd4;have hg5:=sb5 _ _ (Bi lg) hg4;have hz5:=sb5 _ _ zl hz4;have rm5:=rm4.keep (sb5.tk lf4);have pt5:=pt.keep (sb5.tk lf4);refine ⟨rfl,_,rfl,ite2 (λ_=>?_) (λ_=>?_)⟩
     ·refine ⟨_,rfl,.inl ⟨rfl,_,Gw hg5⟩,_,rfl,_,rfl,z,_,_,_,rfl,rfl,Gw hz5,tJ six (i:=j) hj6 (by lia),_,rfl,_,rfl,z,_,_,_,rfl,rfl,Gw hz5,tJ six (i:=j+1+i) hi6 (by lia),zLn2,λq hq'=>?_⟩
      have qg:q≠g:=λe=>by rw [e,hg5] at hq';cases hq'
      have ul:us.length=qs.length:=by rw [pt.1,Af]
      have e1:(upd H5 q (.tup [.str (ss.getD j ""),.str (ss.getD (j+1+i) "")])) g=some (.lst us):=Gu hq' _ _ hg5;refine ⟨g,us,_,rfl,rfl,e1,bP (by lia),us++[.ref q],qs++[(j,j+1+i)],_,rfl,iS (s9.trans (Gu hq')) hg0,(lf5.keep (Gu hq')).own (Bi lg),?_,(rm5.keep (Gu hq').tk).keep (Tk.lst e1),aB,?_,?_,hq.add (by lia) hi6,by rw [Av,DJ];lia⟩
      ·rw [aK (Bi gd)]
       exact Gu hq' _ _ hd5
      ·rw [aK zg]
       exact Gu hq' _ _ hz5
      ·rw [Be]
       refine ((pt5.keep (Gu hq').tk).keep (Tk.lst e1)).add ?_;rw [aK qg];exact aB
     ·exact ⟨us,qs,_,rfl,s9,lf5,hd5,rm5,hg5,hz5,pt5,hq.more,by lia⟩
    ·rintro Z H4 ⟨us,qs,v4,rfl,s8,lf4,hd4,rm4,hg4,hz4,pt,hq,ql⟩
     exact ⟨us,qs,_,_,rfl,s8,lf4,hd4,rm4,hg4,hz4,pt,hq.next,by lia⟩
   ·rintro Z H3 ⟨us,qs,v4,v8,rfl,s7,lf3,hd3,rm3,hg3,hz3,pt,hq,ql⟩
    refine ⟨_,rfl,d,rs,rfl,.inl ⟨Gw hd3,λr hr'=>?_⟩⟩;have t1:=Gu (o:=.tup rs) hr';refine ⟨_,rfl,g,us,rfl,.inl ⟨Gw (t1 _ _ hg3),λq hq'=>⟨zLn2,λp hp=>?_⟩⟩⟩;have t2:=Gu (o:=.tup us) hq';have t3:=Gu (o:=.tup [.ref r,.ref q]) hp;refine k p r q rs us _ _ (((s7.trans t1).trans t2).trans t3) ⟨aB,t3 _ _ (t2 _ _ aB),((rm3.keep t1.tk).keep t2.tk).keep t3.tk,rl1,rl16,t3 _ _ aB,((pt.keep t1.tk).keep t2.tk).keep t3.tk,hq.good six (by lia)⟩
end
def pZ {H:Hp}{a b:Gj}{o:HO}(h:H a=some o)(h':H b=none):a≠b:=λe=>by rw [e,h'] at h;cases h
def sm0I {H H1:Hp}{p:Gj}(h:Same H H1)(n:H1 p=none):H p=none:=same_none h n
section
variable {P:Aw}{w:World}{K:Ab}{mg:Gb}{base:Heap}
def fO:FnScope ["_law_script","_law_wares_here","_law_number","_law_rooms","_law_k","_law_pairs","_law_some","_law_j"] ["_law_script","_law_wares_here"] (aH wJ):=fnScOk (by decide +kernel)
def aBc {f:Gj}{fd:Az}(F:Fun K "_law_small" "_law_small" wJ f fd)(T:Txt mg)(cC:Cal P w K mg base CX0 2 "_law_cell_at" ["_law_script","_law_k"] (mX K))(cF:Cal P w K mg base CX0 2 "_law_free_bench" ["_law_script","_law_wares_here"] (spBench K))(cM:Cal P w K mg base CX0 2 "_law_mixed" ["_law_cell","_law_k"] jA):FnOk P w K mg base CX0 3 f fd ["_law_script","_law_wares_here"] (spBench K):=by
 refine F.okA fO (λcdv A outer s H vs Q E hr h=>?_)
 ·obtain ⟨a,ns,w,ws,rfl,ha,hw,six0,k⟩:=h
  refine ⟨_,(aD (bH (aL bW (aP bQ (aI cC hr (aA (pv 0) (aA aG aC))) aG) aG)
    (aE (aM (aI cF hr (aA (pv 0) (aA (pv 1) aC)))))
    aQ)
   (aD (aJ (i:=2) fO.nd (aI cM hr (aA (aI cC hr (aA (pv 0) (aA aG aC))) (aA aG aC))))
   (aD (aJ (i:=3) fO.nd (cV aC))
   (aD (dA AO rfl (cQ rfl T.range (aA (aP bJ aG (aP bQ (pv 2) aG)) aC)) (aR (i:=4) fO.nd)
    (aE (dP (pW Cj Cc Cb dM (pv 3) (aA (aU (aA (aP bJ aG (aP bQ (aP bO (aI cM hr (aA (aI cC hr (aA (pv 0) (aA aG aC))) (aA (aP bJ (pv 4) aG) aC))) aG) aG)) (aA aG aC))) aC)))))
   (aD (aJ (i:=5) fO.nd (cV aC))
   (aD (aJ (i:=6) fO.nd (aT lO rfl T.sorted' boot_sorted (aA (pv 1) aC)))
   (aD (dA AO rfl (cQ rfl T.range (aA aG aC)) (aR (i:=7) fO.nd)
    (aE (dA AO rfl (jT rfl T.range (aA (aP bJ (pv 7) aG) (aA aG aC))) (aR (i:=4) fO.nd)
     (aE (bH (aL bW (aP bQ (aP bO (aI cM hr (aA (aI cC hr (aA (pv 0) (aA aG aC))) (aA (aP bJ (aP bL aG (pv 7)) (pv 4)) aC))) aG) (aP bJ aG (aP bQ (aP bO (pv 2) aG) aG))) aG)
      (aE (dP (pW Cj Cc Cb dM (pv 5) (aA (aU (aA (aZ aX (pv 6) (pv 7) (λ_ _=>rfl)) (aA (aZ aX (pv 6) (pv 4) (λ_ _=>rfl)) aC))) aC))))
      aQ)))))
   (aE (aM (aU (aA (aV bG rfl T.tup' dB (aA (pv 3) aC)) (aA (aV bG rfl T.tup' dB (aA (pv 5) aC)) aC)))))))))))),?_⟩
  refine cut7 ?_
  intros
  refine ⟨_,rfl,a,ns,0,rfl,ha,by decide,λc=>⟨_,_,rfl,rfl,(by show (0:Int)<2;decide),rfl,_,rfl,ite2 (λ_=>?_) (λ_=>?_)⟩⟩
  ·exact ⟨_,rfl,_,rfl,a,ns,w,ws,rfl,ha,hw,six0,k⟩
  refine ⟨_,rfl,a,ns,1,rfl,ha,by decide,λc1=>⟨c1,1,rfl,by decide,by decide,λn n0 nl=>?_⟩⟩;have e4:=bY n (m:=4) (by decide);refine ⟨zLn0,λd hd=>?_⟩;have s1:Same H (upd H d (.lst [])):=Gu hd;refine ⟨_,rfl,_,_,rfl,rfl,(by show (0:Int)<4;decide),_,_,rfl,rfl,_,rfl,by lia,by lia,?_⟩;refine eV (λi Z H'=>∃ (rs:Gq) (v4:Gr),Z=[some (.ref a),some (.ref w),some (.int n),some (.ref d),v4,none,none,none]/\Same H H'/\H' d=some (.lst rs)/\rs.length=i/\RmsT H' rs) ⟨[],none,rfl,s1,aB,rfl,RmsT.nil⟩ ?_ ?_
  ·intro i Z H2 D2 hN hi hh
   obtain ⟨rs,v4,rfl,s3,hd2,rl,rm⟩:=hh;have hi4:i<4:=by lia
   refine ⟨_,rfl,.inl ⟨rfl,_,Gw hd2⟩,_,rfl,a,ns,1,rfl,s3.seq ha,by decide,λc2=>⟨_,rfl,_,_,rfl,rfl,c2,_,rfl,by lia,by lia,λg g0 gl=>?_⟩⟩;have e40:=bY (g/8) (m:=40) (by decide);refine ⟨_,_,rfl,rfl,⟨by decide,b9⟩,_,_,rfl,rfl,(by show (0:Int)<40;decide),_,_,rfl,rfl,zLn2,λq h1=>?_⟩;obtain ⟨H3,eH3,t1,hq'⟩:=updX (o:=.tup [.int (1+g/8%40),.int 1]) h1;rw [eH3];have hd3:=t1 _ _ hd2;have qd:q≠d:=λe=>by rw [e,hd3] at hq';cases hq'
   refine ⟨d,rs,_,rfl,rfl,hd3,bP (by lia),?_⟩;exact hN _ _ ⟨rs++[.ref q],_,rfl,iS (s3.trans t1) hd,aB,by rw [Av,rl];rfl,((rm.keep t1.tk).keep (Tk.lst hd3)).add (by rw [aK qd];exact hq') (aGt (by lia) (bR 100 (c:=2000000000000000000) (by lia) (by lia)))⟩
  intro Z H2 hh;obtain ⟨rs,v4,rfl,s2,hd2,rl,rm⟩:=hh;refine ⟨zLn0,λdp hdp=>?_⟩;obtain ⟨H3,eH3,t1,hdp3⟩:=updX (o:=.lst []) hdp;rw [eH3];have s3:=s2.trans t1;have dne:d≠dp:=pZ hd2 hdp;have hdp0:=sm0I s2 hdp;have hd3:=t1 _ _ hd2;have rm3:=rm.keep t1.tk;refine ⟨_,rfl,w,ws,rfl,s3.seq hw,by have:=six0.l;lia,λz ss pm st hz=>?_⟩;have six:=Six.of six0 pm st;obtain ⟨H4,eH4,t4,hz4⟩:=updX (o:=.lst (ss.map V.str)) hz;rw [eH4];have zd:z≠d:=λe=>by rw [e,hd3] at hz;cases hz
  have zp:z≠dp:=λe=>by rw [e,hdp3] at hz;cases hz
  have s4:=s3.trans t4;have hd4:=t4 _ _ hd3;have hdp4:=t4 _ _ hdp3;have rm4:=rm3.keep t4.tk;refine ⟨6,rfl,by decide,by decide,?_⟩;refine eV (λi Z H'=>∃ (us:Gq) (qs:List (Nat×Nat)) (v4 v7:Gr),Z=[some (.ref a),some (.ref w),some (.int n),some (.ref d),v4,some (.ref dp),some (.ref z),v7]/\Same H H'/\H' d=some (.lst rs)/\RmsT H' rs/\H' dp=some (.lst us)/\H' z=some (.lst (ss.map V.str))/\PsT H' us (qs.map (prS ss))/\Qs qs i 0/\qs.length<=5*min i 5)
   ⟨[],[],v4,none,rfl,s4,hd4,rm4,hdp4,hz4,PsT.nil,Qs.nil,by decide⟩ ?_ ?_
  ·intro j Z H5 D2 hN hj hh
   obtain ⟨us,qs,v4,v7,rfl,s5,hd5,rm5,hdp5,hz5,pt,hq,ql⟩:=hh;have hj6:j<6:=hj;refine ⟨_,rfl,_,_,rfl,rfl,_,_,rfl,by lia,?_⟩;refine eV (λi Z H'=>∃ (us:Gq) (qs:List (Nat×Nat)) (v4:Gr),Z=[some (.ref a),some (.ref w),some (.int n),some (.ref d),v4,some (.ref dp),some (.ref z),some (.int (0+j))]/\Same H H'/\H' d=some (.lst rs)/\RmsT H' rs/\H' dp=some (.lst us)/\H' z=some (.lst (ss.map V.str))/\PsT H' us (qs.map (prS ss))/\Qs qs j (j+1+i)/\qs.length<=5*min j 5+i)
    ⟨us,qs,v4,rfl,s5,hd5,rm5,hdp5,hz5,pt,⟨hq.pw,λq h=>by have:=hq.rg q h;lia⟩,by lia⟩ ?_ ?_
   ·intro i Z H6 D3 hN2 hi hh
    obtain ⟨us,qs,v4,rfl,s6,hd6,rm6,hdp6,hz6,pt,hq,ql⟩:=hh;have hi6:j+1+i<6:=by lia
    have bj:Bt 64 ((0:Int)+j):=bR 64 (c:=100) (by lia) (by lia);have e20:=bY (n/8) (m:=20) (by decide);refine ⟨_,rfl,a,ns,2,rfl,s6.seq ha,by decide,λc3=>⟨_,rfl,_,_,rfl,rfl,⟨bl,b6 bj⟩,_,rfl,_,_,rfl,rfl,c3,_,rfl,by lia,by lia,λm m0 ml=>?_⟩⟩;refine ⟨_,_,rfl,rfl,⟨by decide,b9⟩,_,rfl,_,_,rfl,rfl,⟨by decide,b9⟩,_,_,rfl,rfl,(by show (0:Int)<20;decide),_,_,rfl,rfl,_,_,rfl,rfl,(by show (0:Int)<3+n/8%20;lia),rfl,_,rfl,ite2 (λ_=>?_) (λ_=>?_)⟩
    ·refine ⟨_,rfl,.inl ⟨rfl,_,Gw hdp6⟩,_,rfl,_,rfl,z,_,_,_,rfl,rfl,Gw hz6,tJ six (i:=j) hj6 (by lia),_,rfl,_,rfl,z,_,_,_,rfl,rfl,Gw hz6,tJ six (i:=j+1+i) hi6 (by lia),zLn2,λq hq'=>?_⟩
     have qd:q≠dp:=λe=>by rw [e,hdp6] at hq';cases hq'
     have ul:us.length=qs.length:=by rw [pt.1,Af]
     obtain ⟨H7,eH7,t7,hq7⟩:=updX (o:=.tup [.str (ss.getD j ""),.str (ss.getD (j+1+i) "")]) hq';rw [eH7];have e1:=t7 _ _ hdp6;refine ⟨dp,us,_,rfl,rfl,e1,bP (by lia),hN2 _ _ ⟨us++[.ref q],qs++[(j,j+1+i)],_,rfl,iS (s6.trans t7) hdp0,by rw [aK dne];exact t7 _ _ hd6,(rm6.keep t7.tk).keep (Tk.lst e1),aB,by rw [aK zp];exact t7 _ _ hz6,?_,hq.add (by lia) hi6,by rw [Av,DJ];lia⟩⟩;rw [Be];refine ((pt.keep t7.tk).keep (Tk.lst e1)).add ?_;rw [aK qd];exact hq7
    ·exact hN2 _ _ ⟨us,qs,_,rfl,s6,hd6,rm6,hdp6,hz6,pt,hq.more,by lia⟩
   ·intro Z H6 hh
    obtain ⟨us,qs,v4,rfl,s6,hd6,rm6,hdp6,hz6,pt,hq,ql⟩:=hh;exact hN _ _ ⟨us,qs,_,_,rfl,s6,hd6,rm6,hdp6,hz6,pt,hq.next,by lia⟩
  ·intro Z H5 hh
   obtain ⟨us,qs,v4,v7,rfl,s5,hd5,rm5,hdp5,hz5,pt,hq,ql⟩:=hh;refine ⟨_,rfl,d,rs,rfl,.inl ⟨Gw hd5,λr hr'=>?_⟩⟩;obtain ⟨H6,eH6,t6,hr6⟩:=updX (o:=.tup rs) hr';rw [eH6];refine ⟨_,rfl,dp,us,rfl,.inl ⟨Gw (t6 _ _ hdp5),λq hq'=>?_⟩⟩;obtain ⟨H7,eH7,t7,hq7⟩:=updX (o:=.tup us) hq';rw [eH7];refine ⟨zLn2,λp hp=>?_⟩;have t8:=Gu (o:=.tup [.ref r,.ref q]) hp;exact k p r q rs us _ _ (((s5.trans t6).trans t7).trans t8) ⟨aB,t8 _ _ (t7 _ _ hr6),((rm5.keep t6.tk).keep t7.tk).keep t8.tk,by lia,by lia,t8 _ _ hq7,((pt.keep t6.tk).keep t7.tk).keep t8.tk,hq.good six (by lia)⟩
end
end K51
namespace L2
open PySem PySem.Spec PyProof.Rows PySem.W
structure CalK (P:Aw)(w:World)(K:Frag)(mg:Gb)(base:Heap)(CX:CXT)(k:Nat)(x:Str)(ps ks:Gh)(gV:Gq->Gq->Gq)(sp:Sp):Prop where
 ex:∃ (f:Gj) (fd:Az) (g:Gi->Gi->Gi),mg x=some (.ref f)/\keepIn K (.ref f)=true/\KBinds K fd ps ks g gV/\FnOk P w K mg base CX k f fd ps sp
section
variable {X:Cx}
end
end L2
namespace K51
open PySem PySem.Spec PyProof.Rows L2 GM TM
def rE (K:Ab):Sp:=λvs H Q _=>∃ x:Str,vs=[.str x]/\Wr x/\∀ H',Same H H'->Q (.bl true) H'
section
variable {P:Aw}{w:World}{K:Ab}{mg:Gb}{base:Heap}{f:Gj}{fd:Az}
def nd1:(["sign"]:Gh).Nodup:=by decide +kernel
theorem aFd (c:Nat):(!(AG.Str.occurrences LET ⟨#[c]⟩ 0 LET.length 1).isEmpty)=decide (97<=c/\c<=122):=by
 rw [StrLaws.found_one];have e:LET.cps.toList=(AV 26).map (97 + ·):=by decide +kernel
 rw [e];refine decide_eq_decide.mpr ⟨λh=>?_,λh=>?_⟩
 ·obtain ⟨j,hj,rfl⟩:=AE.mp h
  have:=CM.mp hj;lia
 ·exact AE.mpr ⟨c-97,CM.mpr (by lia),by lia⟩
def aAv:FnScope ["thing"] ["thing"] (aH pO):=fnScOk (by decide +kernel)
def xX {tk tk':Tok}(F:Fun K "is_ware" "is_ware" pO f fd)(T:Txt mg)(mM:mg "MOST_LETTERS" = some (.int 8 tk))(mL:mg "LETTERS" = some (.str LET tk')):FnOk P w K mg base CX0 1 f fd ["thing"] (rE K):=by
 refine F.okA aAv (λcdv A outer s H vs Q E hr h=>?_)
 ·obtain ⟨x,rfl,wx,k⟩:=h
  refine ⟨_,(aD (bH (fJ (eA (aT zZ rfl T.isi DZ (aA (pv 0) (aA (gF (v:=.ty "str") rfl T.str' aDa rfl) aC)))))
    (aE (aM iD)) aQ)
   (aE (aM (iI (rR aEt aEt aG (aT oH rfl T.len BA (aA (pv 0) aC)) (fD (v:=.int 8) rfl mM ⟨_,rfl⟩)) (gQ (aT (kN rfl) rfl T.all' boot_all (aA (pV (N':=["sign"]) (cl:=[]) (λ_=>[none]) rfl rfl (by decide +kernel) (by decide +kernel) (lM (by decide +kernel)) (λ_ _=>oM)
      (aCr (pv 0)) (λ_ _ _ _ _=>aR (i:=0) nd1) (λ_ _ _ _ _=>dY) (λ_ _ _ _ _=>dD xH (pv 0) (fD (v:=.str LET) rfl mL ⟨_,rfl⟩) rfl)) aC))))))),?_⟩
  have l1:=wx.l1;have l8:=wx.l8;have le:=lenC x;refine ⟨_,rfl,_,"str",true,rfl,.inl .str_str,_,rfl,iteF ⟨_,rfl,x,rfl,cJ (by lia),_,_,rfl,rfl,_,rfl,?_⟩⟩;rw [decide_eq_true (by lia:(1:Int)<=(x.length:Int))];refine iteT ⟨_,_,rfl,rfl,_,rfl,?_⟩;rw [decide_eq_true (by lia:(x.length:Int)<=8)];refine iteT ⟨_,rfl,x,rfl,λD hD=>?_⟩;refine aB3 (λi ys H'=>ys=((cps x).take i).map (λc=>V.bl (decide (97<=c/\c<=122)))/\Same H H'/\H' D=some (.lst ys)) ⟨by simp,Gu hD,aB⟩ ?_ ?_ ?_
  ·rintro i ys H' hi ⟨rfl,_,hD'⟩
   refine ⟨hD',?_⟩;rw [Af,Ca];exact bP (by lia)
  ·rintro i c ys H' hc ⟨rfl,sm,hD'⟩
   refine ⟨(Keep.refl _).set rfl,?_⟩;unfold vK;dsimp only;rw [if_pos rfl];refine ⟨_,rfl,_,_,rfl,rfl,hD',Nx.mk (Ad.mp hc).1 ⟨?_,λb o hb=>?_,aB⟩⟩
   ·rw [aFd,CO,hc,Be]
    rfl
   ·rw [aK (bB hb hD)]
    exact sm b o hb
  ·rintro ys H' ⟨rfl,sm,hD'⟩
   rw [EC (Aj _)] at hD';refine ⟨D,(cps x).map (λc=>decide (97<=c/\c<=122)),rfl,Gw (by rw [Ce];exact hD'),?_⟩;rw [show ((cps x).map (λc=>decide (97<=c/\c<=122))).all id=true by
    rw [List.all_map,CG];exact λc hc=>decide_eq_true (wx.lt c hc)]
   exact k _ sm
def aGn:FnScope ["one","other"] ["one","other"] (aH aD7):=fnScOk (by decide +kernel)
end
def aAq:Sp:=λvs H Q _=>∃ t b:Int,vs=[.int t,.int b]/\0<=t/\1<=b/\Bt 9000 b/\RetT H Q [t/G t b,b/G t b]
section
variable {P:Aw}{w:World}{K:Ab}{mg:Gb}{base:Heap}
def aGm:FnScope ["top","bottom","divisor"] ["top","bottom"] (aH sLow):=fnScOk (by decide +kernel)
def aHe {f:Gj}{fd:Az}(F:Fun K "lowest_terms" "lowest_terms" sLow f fd)(cG:Cal P w K mg base CX0 1 "common_divisor" ["one","other"] aDs):FnOk P w K mg base CX0 2 f fd ["top","bottom"] aAq:=by
 refine F.ok aGm (λvs H Q E h=>?_) (λcdv A outer s H vs Q E hr h=>?_)
 ·obtain ⟨a,b,rfl,_⟩:=h
  rfl
 ·obtain ⟨t,b,rfl,ht,hb,hs,k⟩:=h
  refine ⟨_,aD (aJ (i:=2) aGm.nd (aI cG hr (aA (pv 0) (aA (pv 1) aC))))
   (aE (aM (aU (aA (aP bO (pv 0) (pv 2)) (aA (aP bO (pv 1) (pv 2)) aC))))),?_⟩
  refine ⟨_,rfl,_,rfl,t,b,rfl,ht,by lia,?_⟩;have g:=nQ (t:=t) hb hs;refine ⟨_,rfl,_,rfl,_,_,rfl,rfl,g,_,rfl,_,rfl,_,_,rfl,rfl,g,zLn2,λp hp=>?_⟩;exact k p _ (Gu hp) aB
end
def Pr (H:Hp)(v:V)(x:Str×Int×Int):Prop:=∃ p q,v=.ref p/\H p=some (.tup [.str x.1,.ref q])/\H q=some (.tup [.int x.2.1,.int x.2.2])
def Pr.keep {H H':Hp}{v:V}{x:Str×Int×Int}(h:Pr H v x)(k:Tk H H'):Pr H' v x:=by
 obtain ⟨p,q,e,h1,h2⟩:=h;exact ⟨p,q,e,k _ _ h1,k _ _ h2⟩
inductive PrL (H:Hp):Gq->Gc->Prop where
 |nil:PrL H [] []
 |cons {v x vs xs}:Pr H v x->PrL H vs xs->PrL H (v::vs) (x::xs)
def PrL.keep {H H':Hp}{vs:Gq}{xs:Gc}(h:PrL H vs xs)(k:Tk H H'):PrL H' vs xs:=by
 induction h with
 |nil=>exact .nil
 |cons p _ ih=>exact .cons (p.keep k) ih
def PrL.snoc {H:Hp}{vs:Gq}{xs:Gc}{v:V}{x:Str×Int×Int}(h:PrL H vs xs)(p:Pr H v x):PrL H (vs++[v]) (xs++[x]):=by
 induction h with
 |nil=>exact .cons p .nil
 |cons q _ ih=>exact .cons q ih
theorem PrL.length {H:Hp}{vs:Gq}{xs:Gc}(h:PrL H vs xs):vs.length=xs.length:=by
 induction h with
 |nil=>rfl
 |cons _ _ ih=>simp [ih]
structure Two (K:Ab)(H:Hp)(p q:Gj)(t1 b1 t2 b2:Int):Prop where
 sp:SqT K H p [.int t1,.int b1]
 sq:H q=some (.tup [.int t2,.int b2])
 ht1:0<=t1
 hb1:1<=b1
 am:Amt t2 b2
 st1:Bt 4000 t1
 sb1:Bt 4000 b1
 st2:Bt 4000 t2
 sb2:Bt 4000 b2
inductive spPlus (K:Ab)(vs:Gq)(H:Hp)(Q:VK)(Ex:XK):Prop
 |mk (p q:Gj) (t1 b1 t2 b2:Int) (e0:vs=[.ref p,.ref q]) (e1:Two K H p q t1 b1 t2 b2) (e2:RetT H Q [(t1*b2+t2*b1)/G (t1*b2+t2*b1) (b1*b2),(b1*b2)/G (t1*b2+t2*b1) (b1*b2)]):spPlus K vs H Q Ex
theorem PrL.get {H:Hp}{vs:Gq}{xs:Gc}(h:PrL H vs xs):∀ {i:Nat} {v:V},vs[i]?=some v->∃ x,xs[i]?=some x/\Pr H v x:=by
 induction h with
 |nil=>intro i v e;simp at e
 |cons p _ ih=>
  intro i v e;cases i with
  |zero=>cases e;exact ⟨_,rfl,p⟩
  |succ i=>exact ih (by simpa using e)
def nOf (M:Int)(x:Str×Int×Int):Int:=x.2.1*(M/x.2.2)
def sumN (M:Int)(xs:Gc):Int:=(xs.map (nOf M)).sum
theorem iY {M:Int}{xs:Gc}{i:Nat}{x:Str×Int×Int}(h:xs[i]?=some x):sumN M (xs.take (i+1))=sumN M (xs.take i)+nOf M x:=by
 unfold sumN;rw [CO,h,Be,Ff];simp
def dE {M t b N:Int}(hM:0<M)(h:Fr M t b N):t<=N/\b<=M:=by
 have hb:=Int.le_of_dvd hM h.dvd;refine ⟨?_,hb⟩;have n0:=h.nonneg hM;have:=CJ hb n0;rw [<- h.e] at this;exact Int.le_of_mul_le_mul_right this hM
def Over (M:Int)(xs:Gc):Prop:=∀ x∈xs,Amt x.2.1 x.2.2/\x.2.2∣M
def lV (K:Ab):Sp:=λvs H Q _=>∃ (m:Gj) (us:Gq) (xs:Gc) (M:Int),vs=[.ref m]/\SqT K H m us/\PrL H us xs/\Over M xs/\0<M/\Bt 3000 M/\(∀ i,Bt 3000 (sumN M (xs.take i))) /\
 ∀ (f:Gj) (t b:Int) H',Same H H'->SqT K H' f [.int t,.int b]->Fr M t b (sumN M xs)->Q (.ref f) H'
section
variable {P:Aw}{w:World}{K:Ab}{mg:Gb}{base:Heap}
def Two.botS {K:Ab}{H:Hp}{p q:Gj}{t1 b1 t2 b2:Int}(T:Two K H p q t1 b1 t2 b2):1<=b1*b2/\Bt 8000 (b1*b2):=by
 have:=Int.mul_le_mul T.hb1 T.am.b1 (by decide) (by have:=T.hb1;lia);exact ⟨by lia,T.sb1.mul T.sb2⟩
def aGl:FnScope ["one","other"] ["one","other"] (aH aD5):=fnScOk (by decide +kernel)
def aEy {f aN:Gj}{fd:Az}(F:Fun K "plus" "plus" aD5 f fd)(mN:mg "NOUGHT" = some (.ref aN))(sN:∀ H:Hp,SqT K H aN [.int 0,.int 1])(cL:Cal P w K mg base CX0 2 "lowest_terms" ["top","bottom"] aAq):FnOk P w K mg base CX0 3 f fd ["one","other"] (spPlus K):=by
 refine F.okA aGl (λcdv A outer s H vs Q E hr h=>?_)
 ·obtain ⟨p,q,t1,b1,t2,b2,rfl,T,k⟩:=h
  refine ⟨_,aD (bH (aL (aHb hr.units) (pv 0) (fD (v:=.ref aN) rfl mN rfl)) (aE (aM (pv 1))) aQ)
   (aE (aM (aI cL hr (aA (aP bJ (aP bL (pit 0 0) (pit 1 1)) (aP bL (pit 1 0) (pit 0 1))) (aA (aP bL (pit 0 1) (pit 1 1)) aC))))),?_⟩
  have bs:=T.botS;have hs:=Gv (K:=K) T.sq;have m1:=Bv T.ht1 (show 0<=b2 by have:=T.am.b1;lia);have m2:=Bv T.am.t0 (show 0<=b1 by have:=T.hb1;lia);have a0:=T.am.t0;have a1:=T.am.b1;refine ⟨_,rfl,p,aN,[t1,b1],[0,1],rfl,rfl,T.sp,sN H,_,rfl,ite2 (λhc=>?_) (λ_=>?_)⟩
  ·have e:=of_decide_eq_true hc
   injection e with e1 e;injection e with e2 e;subst e1 e2;refine ⟨_,rfl,?_⟩;have u:=lJ (t:=0*b2+t2*1) (b:=1*b2) (by lia) (by lia) T.am (by rw [Bo,Int.zero_add,Int.one_mul,Int.mul_one]);rw [u.1,u.2] at k;exact k q H (Same.refl H) T.sq
  ·refine ⟨p,_,_,rfl,T.sp,rfl,q,_,_,rfl,hs,rfl,_,_,rfl,rfl,⟨b6 T.st1,b6 T.sb2⟩,q,_,_,rfl,hs,rfl,p,_,_,rfl,T.sp,rfl,_,_,rfl,rfl,⟨b6 T.st2,b6 T.sb1⟩,_,_,rfl,rfl,?_⟩
   exact ⟨p,_,_,rfl,T.sp,rfl,q,_,_,rfl,hs,rfl,_,_,rfl,rfl,⟨b6 T.sb1,b6 T.sb2⟩,_,_,rfl,by lia,bs.1,bs.2.mono (by decide),k⟩
def gJ:FnScope ["one","found","ware","part"] ["one"] (aH pF):=fnScOk (by decide +kernel)
def xN {f aN:Gj}{fd:Az}(F:Fun K "whole" "whole" pF f fd)(mN:mg "NOUGHT" = some (.ref aN))(sN:∀ H:Hp,SqT K H aN [.int 0,.int 1])(cP:Cal P w K mg base CX0 3 "plus" ["one","other"] (spPlus K)):FnOk P w K mg base CX0 4 f fd ["one"] (lV K):=by
 refine F.okA gJ (λcdv A outer s H vs Q E hr h=>?_)
 ·obtain ⟨m,us,xs,M,rfl,hm,pr,ov,M0,bM,bS,k⟩:=h
  refine ⟨_,(aD (aJ (i:=1) gJ.nd (fD (v:=.ref aN) rfl mN rfl))
   (aD (dA AO rfl (gC (pv 0)) (fR rfl (bE (aR (i:=2) gJ.nd) (bE (aR (i:=3) gJ.nd) eD)))
    (aE (aJ (i:=1) gJ.nd (aI cP hr (aA (pv 1) (aA (pv 3) aC))))))
   (aE (aM (pv 1))))),?_⟩
  refine ⟨_,rfl,m,rfl,⟨_,hm⟩,?_⟩;refine mG (xs:=us) (λi Z H'=>∃ (g:Gj) (t b:Int) (v2 v3:Gr),Z=[some (.ref m),some (.ref g),v2,v3]/\SqT K H' g [.int t,.int b]/\Fr M t b (sumN M (xs.take i))/\Same H H')
   ⟨aN,0,1,none,none,rfl,sN H,Fr.zero,Same.refl H⟩ ?_ ?_ ?_
  ·rintro i Z H' hi ⟨_,_,_,_,_,rfl,_,_,s2⟩
   exact s2.tup hm
  ·rintro i v Z H2 hv ⟨g,t,b,v2,v3,rfl,hg,fr,s2⟩
   obtain ⟨x,hx,p,q,rfl,h1,h2⟩:=pr.get hv;refine ⟨p,_,rfl,Gv (s2 _ _ h1),rfl,_,_,rfl,_,_,rfl,rfl,?_⟩;obtain ⟨am,dv⟩:=ov x (Al hx);have frx:Fr M x.2.1 x.2.2 (nOf M x):=Fr.of am dv;have sm:=dE M0 fr;have smx:=dE M0 frx;have n1:=fr.nonneg M0;have n2:=frx.nonneg M0;have fb:=fr.am;have bN:=bS i;have bN1:=bS (i+1);rw [iY hx] at bN1;have bx:Bt 3000 (nOf M x):=bN1.le n2 (by lia);refine ⟨_,rfl,_,rfl,g,q,t,b,x.2.1,x.2.2,rfl,⟨hg,s2 _ _ h2,fb.t0,fb.b1,am,(bN.le fb.t0 sm.1).mono (by decide),(bM.le (by have:=fb.b1;lia) sm.2).mono (by decide),(bx.le am.t0 smx.1).mono (by decide),(bM.le (by have:=am.b1;lia) smx.2).mono (by decide)⟩,λr H3 s3 h3=>?_⟩;refine ⟨r,_,_,_,_,rfl,Gv h3,?_,s2.trans s3⟩;rw [iY hx];exact fr.plus frx
  ·rintro Z H2 ⟨g,t,b,v2,v3,rfl,hg,fr,s2⟩
   rw [pr.length,Bz] at fr;exact ⟨_,rfl,k g t b H2 s2 hg fr⟩
end
def NW (M:Int)(xs:Gc)(y:Str):Int:=sumN M (xs.filter λx=>decide (x.1=y))
theorem aFs {M:Int}{xs:Gc}{i:Nat}{x:Str×Int×Int}(h:xs[i]?=some x)(y:Str):NW M (xs.take (i+1)) y=NW M (xs.take i) y+(if x.1=y then nOf M x else 0):=by
 unfold NW sumN;rw [CO,h,DG,Be,Ff]
 congr 1
 by_cases e:x.1=y
 ·simp [e]
 ·simp [e]
theorem eJ {M:Int}{xs:Gc}{y:Str}(h:y∉xs.map (·.1)):NW M xs y=0:=by
 unfold NW;rw [List.filter_eq_nil_iff.mpr (λx hx e=>h (AE.mpr ⟨x,hx,of_decide_eq_true e⟩))];rfl
def bU {M:Int}{xs:Gc}(hM:0<M)(h:Over M xs):0<=sumN M xs:=by
 induction xs with
 |nil=>exact Dy _
 |cons x r ih=>
  have h1:=ih λy hy=>h y (Ah _ hy);have h2:=(Fr.of (h x Ar).1 (h x Ar).2).nonneg hM;show 0<=((x::r).map (nOf M)).sum;rw [Ak,AH];exact Int.add_nonneg h2 h1
theorem rB {M:Int}(hM:0<M)(p:Str×Int×Int->Bool):∀ {xs:Gc},Over M xs->sumN M (xs.filter p)<=sumN M xs
 |[],_=>Dy _
 |x::r,h=>by
  have h1:=rB hM p (xs:=r) λy hy=>h y (Ah _ hy);have h2:=(Fr.of (h x Ar).1 (h x Ar).2).nonneg hM;have e2:sumN M (x::r)=nOf M x+sumN M r:=by unfold sumN;rw [Ak,AH]
  rw [e2];cases hp:p x with
  |true=>
   rw [Er hp];have e1:sumN M (x::r.filter p)=nOf M x+sumN M (r.filter p):=by unfold sumN;rw [Ak,AH]
   rw [e1];exact Int.add_le_add_left h1 _
  |false=>
   rw [Es (by rw [hp];exact AB)];have:0<=nOf M x:=h2;lia
theorem fM {M:Int}(hM:0<M):∀ {xs:Gc} (i:Nat),Over M xs->sumN M (xs.take i)<=sumN M xs
 |[],i,_=>by rw [List.take_nil];exact Dy _
 |x::r,0,h=>bU hM h
 |x::r,i+1,h=>by
  have h1:=fM hM (xs:=r) i λy hy=>h y (Ah _ hy);have e2:sumN M (x::r)=nOf M x+sumN M r:=by unfold sumN;rw [Ak,AH]
  have e1:sumN M (x::r.take i)=nOf M x+sumN M (r.take i):=by unfold sumN;rw [Ak,AH]
  rw [List.take_succ_cons,e1,e2];exact Int.add_le_add_left h1 _
def Over.take {M:Int}{xs:Gc}(h:Over M xs)(i:Nat):Over M (xs.take i):=λx hx=>h x (List.mem_of_mem_take hx)
def Over.filter {M:Int}{xs:Gc}(h:Over M xs)(p:Str×Int×Int->Bool):Over M (xs.filter p):=λx hx=>h x (Fg.mp hx).1
def qR {M:Int}(hM:0<M){xs:Gc}(h:Over M xs)(i:Nat)(y:Str):0<=NW M (xs.take i) y/\NW M (xs.take i) y<=sumN M xs:=
 ⟨bU hM ((h.take i).filter _),Int.le_trans (rB hM _ (h.take i)) (fM hM i h)⟩
def aIb (M:Int)(xs ys:Gc):Prop:=∃ ks:Gh,sortedS ks=true/\ks.Nodup/\(∀ y,y∈ks↔y∈xs.map (·.1))/\ys.map (·.1)=ks.filter (λy=>decide (NW M xs y≠0))/\∀ p∈ys,Fr M p.2.1 p.2.2 (NW M xs p.1)
theorem rS {M:Int}(hM:0<M){f:Str->Int}:∀ {ys zs:Gc},ys.map (·.1)=zs.map (·.1)->(∀ p∈ys,Fr M p.2.1 p.2.2 (f p.1))->(∀ p∈zs,Fr M p.2.1 p.2.2 (f p.1))->ys=zs
  |[],[],_,_,_=>rfl
  |[],_::_,e,_,_=>by simp at e
  |_::_,[],e,_,_=>by simp at e
  |(w1,t1,b1)::ys,(w2,t2,b2)::zs,e,h1,h2=>by
    simp only [Ak,List.cons.injEq] at e;obtain ⟨e1,e2⟩:=e;subst e1;have a1:=h1 _ Ar;have a2:=h2 _ Ar;obtain ⟨u1,u2⟩:=Fr.uniq hM a1 a2;simp only at u1 u2;subst u1 u2;rw [rS hM e2 (λp hp=>h1 p (Ah _ hp)) (λp hp=>h2 p (Ah _ hp))]
structure DK (kvs:Gp)(ks:Gh):Prop where
 keys:kvs.map (·.1)=ks.map AM
 nd:ks.Nodup
def DK.nil:DK [] []:=⟨rfl,.nil⟩
theorem DK.len {kvs:Gp}{ks:Gh}(h:DK kvs ks):kvs.length=ks.length:=by
 have:=congrArg List.length h.keys;rwa [Af,Af] at this
theorem DK.get {kvs:Gp}{ks:Gh}(h:DK kvs ks)(y:Str):(valV kvs (AM y)).isSome=true↔y∈ks:=by
 rw [<- eX,List.any_eq_true];constructor
 ·rintro ⟨kv,hm,e⟩
  have e':kv.1=AM y:=of_decide_eq_true e;have:kv.1∈ks.map AM:=by rw [<- h.keys];exact AE.mpr ⟨kv,hm,rfl⟩
  obtain ⟨z,hz,ez⟩:=AE.mp this;rw [e'] at ez;cases ez;exact hz
 ·intro hy
  have:AM y∈kvs.map (·.1):=by rw [h.keys];exact AE.mpr ⟨y,hy,rfl⟩
  obtain ⟨kv,hm,e⟩:=AE.mp this;exact ⟨kv,hm,decide_eq_true e⟩
def DK.put {kvs:Gp}{ks:Gh}(h:DK kvs ks)(y:Str)(v:V):∃ ks',DK (putK kvs (AM y) v) ks'/\(∀ z,z∈ks'↔z∈ks\/z=y)/\ks'.length<=ks.length+1:=by
 unfold putK;split
 ·rename_i hany
  have hy:y∈ks:=(h.get y).mp (by rw [<- eX];exact hany);refine ⟨ks,⟨?_,h.nd⟩,λz=>⟨.inl,λq=>q.elim id λe=>e▸hy⟩,Dj _⟩;rw [<- h.keys,Ce];refine Ei λkv _=>?_;show (if kv.1=AM y then (kv.1,v) else kv).1=kv.1;split<;>rfl
 ·rename_i hany
  have hy:y∉ks:=λq=>hany (by rw [eX];exact (h.get y).mpr q);refine ⟨ks++[y],⟨by rw [Be,Be,h.keys];rfl,?_⟩,λz=>by simp,by simp⟩;exact List.nodup_append.mpr ⟨h.nd,by simp,λa ha b hb e=>hy (by rw [AA.mp hb] at e;exact e▸ha)⟩
def DN (M:Int)(xs:Gc)(kvs:Gp)(ks:Gh):Prop:=DK kvs ks/\(∀ y,y∈ks↔y∈xs.map (·.1))/\∀ y,y∈ks->valV kvs (AM y)=some (.int (NW M xs y))
def DA (H:Hp)(M:Int)(xs:Gc)(kvs:Gp)(ks:Gh):Prop:=DK kvs ks/\(∀ y,y∈ks↔y∈xs.map (·.1))/\∀ y,y∈ks->∃ (p:Gj) (t b:Int),valV kvs (AM y)=some (.ref p)/\H p=some (.tup [.int t,.int b])/\Fr M t b (NW M xs y)
def DA.keep {H H':Hp}{M:Int}{xs:Gc}{kvs:Gp}{ks:Gh}(h:DA H M xs kvs ks)(k:Tk H H'):DA H' M xs kvs ks:=⟨h.1,h.2.1,λy hy=>by
 obtain ⟨p,t,b,e1,e2,e3⟩:=h.2.2 y hy;exact ⟨p,t,b,e1,k _ _ e2,e3⟩⟩
theorem tQ {xs:Gc}{i:Nat}{x:Str×Int×Int}(h:xs[i]?=some x)(y:Str):y∈(xs.take (i+1)).map (·.1)↔y∈(xs.take i).map (·.1)\/y=x.1:=by
 rw [CO,h,Be,AS];simp
def DA.step {H:Hp}{M:Int}{xs:Gc}{kvs:Gp}{ks:Gh}{i:Nat}{x:Str×Int×Int}{r:Gj}{t b:Int}(hx:xs[i]?=some x)(h:DA H M (xs.take i) kvs ks)(hr:H r=some (.tup [.int t,.int b]))(fr:Fr M t b (NW M (xs.take i) x.1+nOf M x)) :
  ∃ ks',DA H M (xs.take (i+1)) (putK kvs (AM x.1) (.ref r)) ks'/\ks'.length<=ks.length+1:=by
 obtain ⟨ks',d',m',l'⟩:=h.1.put x.1 (.ref r);refine ⟨ks',⟨d',λy=>by rw [m',h.2.1,tQ hx],λy hy=>?_⟩,l'⟩;rw [qV,aFs hx]
 by_cases e:y=x.1
 ·subst e
  rw [if_pos rfl,if_pos rfl];exact ⟨r,t,b,rfl,hr,fr⟩
 ·rw [if_neg (λz=>e (AM.inj z)),if_neg (λz=>e z.symm),Int.add_zero]
  exact h.2.2 y (((m' y).mp hy).resolve_right e)
def Tk.dk {H:Hp}{l:Gj}{kvs:Gp}{o:HO}(h:H l=some (.dK kvs)):Tk H (upd H l o):=λb ys e=>by
 have ne:b≠l:=λz=>by rw [z,h] at e;cases e
 rw [aK ne];exact e
def vTx:V->Str
 |.str s=>s
 |_=>""
def MixP (M:Int)(xs:Gc)(x y:V)(H:Hp):Prop:=∃ (p q:Gj) (t b:Int),y=.ref p/\H p=some (.tup [x,.ref q])/\H q=some (.tup [.int t,.int b])/\Fr M t b (NW M xs (vTx x))
theorem sD {M:Int}{xs:Gc}{H:Hp}:∀ (ss:Gh) (ys:Gq),ys.length=ss.length->(∀ (i:Nat) (x y:V),(ss.map V.str)[i]?=some x->ys[i]?=some y->MixP M xs x y H)->∃ zs,PrL H ys zs/\zs.map (·.1)=ss/\∀ p∈zs,Fr M p.2.1 p.2.2 (NW M xs p.1)
 |[],[],_,_=>⟨[],.nil,rfl,(λ_ h=>nomatch h)⟩
 |s::ss,y::ys,hl,h=>by
  obtain ⟨zs,z1,z2,z3⟩:=sD ss ys (by simpa using hl) λi x y hx hy=>h (i+1) x y (by simpa using hx) (by simpa using hy);obtain ⟨p,q,t,b,rfl,hp,hq,fr⟩:=h 0 (.str s) y rfl rfl;refine ⟨(s,t,b)::zs,.cons ⟨p,q,rfl,hp,hq⟩ z1,by rw [Ak,z2],λr hr=>?_⟩
  rcases Ay.mp hr with rfl|hr
  ·exact fr
  ·exact z3 r hr
 |[],_::_,hl,_=>by simp at hl
 |_::_,[],hl,_=>by simp at hl
theorem sZ (p:V->Bool)(q:Str->Bool)(e:∀ s,p (.str s)=q s):∀ ss:Gh,(ss.map V.str).filter p=(ss.filter q).map V.str
 |[]=>rfl
 |s::r=>by
  rw [Ak,List.filter_cons,List.filter_cons,e,sZ p q e r];split<;>rfl
def iZ (K:Ab):Sp:=λvs H Q _=>∃ (l:Gj) (us:Gq) (xs:Gc) (M:Int),vs=[.ref l]/\SqL K H l us/\PrL H us xs/\xs.length<=63/\Over M xs/\0<M/\Bt 3000 M/\Bt 3000 (sumN M xs) /\
 ∀ m zs ys H',Same H H'->H' m=some (.tup zs)->PrL H' zs ys->aIb M xs ys->Q (.ref m) H'
section
variable {P:Aw}{w:World}{K:Ab}{mg:Gb}{base:Heap}
def gL:FnScope ["pairs","sums","ware","part"] ["pairs"] (aH gN):=fnScOk (by decide +kernel)
def nd2:(["ware","sums"]:Gh).Nodup:=by decide +kernel
def uF {f aN:Gj}{fd:Az}(F:Fun K "mixture" "mixture" gN f fd)(T:Txt mg)(mN:mg "NOUGHT" = some (.ref aN))(sN:∀ H:Hp,SqT K H aN [.int 0,.int 1])(cP:Cal P w K mg base CX0 3 "plus" ["one","other"] (spPlus K)):FnOk P w K mg base CX0 4 f fd ["pairs"] (iZ K):=by
 refine F.okA gL (λcdv A outer s H vs Q E hr h=>?_)
 ·obtain ⟨l,us,xs,M,rfl,hl,pr,xl,ov,M0,bM,bS,k⟩:=h
  refine ⟨_,(aD (aJ (i:=1) gL.nd rP)
   (aD (dA AO rfl (pU (pv 0)) (fR rfl (bE (aR (i:=2) gL.nd) (bE (aR (i:=3) gL.nd) eD)))
    (aE (pS (kX hr) (pv 1) (pv 2) (aI cP hr (aA (rQ (kX hr) (pv 1) (pv 2) (fD (v:=.ref aN) rfl mN rfl) ⟨rfl,rfl,rfl,rfl⟩) (aA (pv 3) aC))) rfl)))
   (aE (aM (aV bG rfl T.tup' dB (aA (eO (N':=["ware","sums"]) (λZ=>[none,some 1].map λt=>t.bind λj=>(Z[j]?).join) rfl rfl (by decide +kernel) (by decide +kernel)
     (kY (sc:=aH gN) rfl (by decide +kernel)) (λ_ _ _=>eR (sc:=aH gN) (N:=["pairs","sums","ware","part"]) [none,some 1] rfl rfl rfl rfl (by decide +kernel))
     (pU (aT (qP rfl) rfl T.sorted' boot_sorted (aA (pv 1) aC))) (λ_ _ _ _ _ _=>aR (i:=0) nd2)
     (λ_ _ _ _ _ _=>mC (aL (aEs (K:=K) rfl hr.units) (jW (kX hr) (pv 1) (pv 0) (λ_ _=>rfl)) (fD (v:=.ref aN) rfl mN rfl)))
     (λ_ _ _ _ _ _=>aU (aA (pv 0) (aA (jW (kX hr) (pv 1) (pv 0) (λ_ _=>rfl)) aC)))) aC)))))),?_⟩
  intro d hd;have s1:Same H (upd H d (.dK [])):=Gu hd;refine ⟨_,rfl,l,rfl,⟨_,s1.seq hl⟩,?_⟩;refine sX (xs:=us) (λi Z H'=>∃ (kvs:Gp) (ks:Gh) (v4 v5:Gr),Z=[some (.ref l),some (.ref d),v4,v5]/\Same H H'/\H' d=some (.dK kvs)/\DA H' M (xs.take i) kvs ks/\ks.length<=i)
   ⟨[],[],none,none,rfl,s1,aB,⟨.nil,λy=>by simp,λy hy=>by simp at hy⟩,Aj _⟩ ?_ ?_ ?_
  ·rintro i Z H' _ ⟨_,_,_,_,rfl,sm,_⟩
   exact sm.seq hl
  ·rintro i v Z H2 hv ⟨kvs,ks,v4,v5,rfl,s2,hd2,da,kl⟩
   obtain ⟨x,hx,p,q,rfl,h1,h2⟩:=pr.get hv;have hi:=(Ad.mp hx).1;have xm:=Al hx;obtain ⟨am,dv⟩:=ov x xm;have frx:Fr M x.2.1 x.2.2 (nOf M x):=Fr.of am dv;obtain ⟨g,t,b,eg,hg,fr⟩:∃ (g:Gj) (t b:Int),(valV kvs (AM x.1)).getD (.ref aN)=.ref g/\SqT K H2 g [.int t,.int b]/\Fr M t b (NW M (xs.take i) x.1):=by
    by_cases hy:x.1∈ks
    ·obtain ⟨p,t,b,e1,e2,e3⟩:=da.2.2 _ hy
     exact ⟨p,t,b,by rw [e1];rfl,Gv e2,e3⟩
    ·have:valV kvs (AM x.1)=none:=by
      cases e:valV kvs (AM x.1) with
      |none=>rfl
      |some v=>exact absurd ((da.1.get x.1).mp (by rw [e];rfl)) hy
     refine ⟨aN,0,1,by rw [this];rfl,sN _,?_⟩;rw [eJ (λz=>hy ((da.2.1 _).mpr z))];exact Fr.zero
   have two:Two K H2 g q t b x.2.1 x.2.2:=by
    have nw:=qR M0 ov i x.1;have sm:=dE M0 fr;have smx:=dE M0 frx;have nx:nOf M x<=sumN M xs:=by
     have e:=iY (M:=M) hx;have:=fM M0 (i+1) ov;have:=bU M0 (ov.take i);lia
    exact ⟨hg,s2 _ _ h2,fr.am.t0,fr.am.b1,am,(bS.le fr.am.t0 (by lia)).mono (by decide),(bM.le (by have:=fr.am.b1;lia) sm.2).mono (by decide),(bS.le am.t0 (by lia)).mono (by decide),(bM.le (by have:=am.b1;lia) smx.2).mono (by decide)⟩
   refine ⟨p,_,rfl,Gv (s2 _ _ h1),rfl,_,_,rfl,_,_,rfl,rfl,?_⟩;refine ⟨_,rfl,d,rfl,.inl ⟨kvs,.inl hd2⟩,_,rfl,_,DGet.k (k:=AM x.1) hd2,?_⟩;rw [eg];refine ⟨_,rfl,_,q,t,b,x.2.1,x.2.2,rfl,two,λr H3 s3 h3=>?_⟩;obtain ⟨ks',da',kl'⟩:=(da.keep (Same.tk s3)).step hx h3 (fr.plus frx);have hd3:=s3 _ _ hd2;refine ⟨_,rfl,_,rfl,d,_,rfl,DPut.k (k:=AM x.1) hd3 (bP (by rw [da.1.len];lia)),?_⟩;refine ⟨_,ks',_,_,rfl,λb o hb=>?_,aB,da'.keep (Tk.dk hd3),by lia⟩;rw [aK (bB hb hd)];exact s3 _ _ (s2 _ _ hb)
  ·rintro Z H2 ⟨kvs,ks,v4,v5,rfl,s2,hd2,da,kl⟩
   rw [pr.length,Bz] at da;have kl2:ks.length<=63:=by have:=pr.length;lia
   refine ⟨_,rfl,d,kvs,ks,rfl,hd2,da.1.keys,(by rw [da.1.len];lia),λa ss' pm so ha=>?_⟩;have hd3:upd H2 a (.lst (ss'.map V.str)) d=some (.dK kvs):=Gu ha _ _ hd2;have da3:=da.keep (Same.tk (Gu ha (o:=.lst (ss'.map V.str))));have sl:(ss'.map V.str).length=ss'.length:=Af ..;have pl:=pm.length_eq;refine ⟨a,rfl,⟨_,Gw aB⟩,λD hD=>?_⟩;refine kM (Ys.list (Gw aB)) (λv=>decide (NW M xs (vTx v)≠0)) (MixP M xs) ?_ hD (by lia) (λi x H' R1 R2 hx sm h1 h2=>?_) (λys H4 sm4 hD4 yl hy=>?_)
   ·rintro x y H5 H6 ⟨p,q,t,b,e,hp,hq,fr⟩ tk
    exact ⟨p,q,t,b,e,tk _ _ hp,tk _ _ hq,fr⟩
   ·rw [Aq] at hx
    obtain ⟨c,hc,rfl⟩:=AZ.mp hx;obtain ⟨g,t,b,e1,e2,e3⟩:=da3.2.2 c (pm.mem_iff.mp (Al hc));have hdd:=sm _ _ hd3;have e2':=sm _ _ e2;have nz:=e3.nought M0;have gg:DGet H' d (.str c) (some (.ref g)):=by
     have:=DGet.k (k:=AM c) hdd;rw [e1] at this;exact this
    refine ⟨(Keep.refl _).set rfl,_,rfl,_,rfl,d,_,rfl,gg,g,aN,[t,b],[0,1],rfl,rfl,Gv e2',sN _,_,rfl,ite2 (λhf=>?_) (λhf=>?_)⟩
    ·have hn:NW M xs c≠0:=λz=>by
      have t0:=nz.mp z;rw [z,t0] at e3;obtain ⟨_,u2⟩:=Fr.uniq M0 e3 Fr.zero;rw [t0,u2] at hf;exact absurd hf (by decide)
     refine ⟨_,rfl,_,rfl,_,rfl,d,_,rfl,gg,(show 2<=Au by decide +kernel),λl' hl'=>?_⟩;exact h1 (decide_eq_true hn) _ _ (Gu hl') ⟨l',g,t,b,rfl,aB,Gu hl' _ _ e2',e3⟩
    ·have hn:NW M xs c=0:=nz.mpr (by
      by_cases e:[t,b]=[0,1]
      ·injection e
      ·exact absurd (by rw [decide_eq_false e];rfl) hf)
     exact h2 (decide_eq_false λz=>z hn) _ (Same.refl _)
   ·have ef:=sZ (λv=>decide (NW M xs (vTx v)≠0)) (λy=>decide (NW M xs y≠0)) (λ_=>rfl) ss'
    rw [ef] at yl hy;obtain ⟨zs,z1,z2,z3⟩:=sD _ ys (by rw [yl,Af]) hy;refine ⟨D,ys,rfl,.inl ⟨Gw hD4,λm hm=>?_⟩⟩;have s5:Same H4 (upd H4 m (.tup ys)):=Gu hm;exact k m ys zs _ (((s2.trans (Gu ha)).trans sm4).trans s5) aB (z1.keep (Same.tk s5)) ⟨ss',so,pm.nodup_iff.mpr da.1.nd,λy=>by rw [pm.mem_iff,da.2.1],z2,z3⟩
end
def dOf (x:Str×Int×Int):Dt:=.t [.s x.1,.t [.i x.2.1,.i x.2.2]]
def PrL.append {H:Hp}{vs us:Gq}{xs ys:Gc}(h:PrL H vs xs)(k:PrL H us ys):PrL H (vs++us) (xs++ys):=by
 induction h with
 |nil=>exact k
 |cons p _ ih=>exact .cons p ih
theorem aH1 {M:Int}{x:Str×Int×Int}{N:Int}(h:Fr M x.2.1 x.2.2 N):nOf M x=N:=by
 have e:=h.e;obtain ⟨c,hc⟩:=h.dvd;have b1:=h.am.b1;unfold K51.nOf;rw [hc,Int.mul_ediv_cancel_left _ (by lia)];rw [hc] at e;have e2:x.2.2*(x.2.1*c)=x.2.2*N:=by
  rw [BD _ N,<- e,<- BI,<- BI,BD x.2.2]
 exact Int.eq_of_mul_eq_mul_left (by lia) e2
theorem aCd {y:Str}{n:Int}:∀ {ks:Gh},ks.Nodup->y∈ks->(ks.map λk=>if y=k then n else 0).sum=n
 |[],_,h=>by simp at h
 |k::ks,nd,h=>by
  rw [Ak,AH];have nd':=BF.mp nd
  by_cases e:y=k
  ·subst e
   rw [if_pos rfl];have:∀ (ks:Gh),y∉ks->(ks.map λk=>if y=k then n else 0).sum=0:=by
    intro ks
    induction ks with
    |nil=>intro _;rfl
    |cons z r ih=>
     intro hz;rw [Ak,AH,if_neg (λe:y=z=>hz (e▸Ar)),ih (λq=>hz (Ah _ q))];rfl
   rw [this ks nd'.1];lia
  ·rw [if_neg e,aCd nd'.2 ((Ay.mp h).resolve_left e)]
   lia
theorem kQ {M:Int}{x:Str×Int×Int}{xs:Gc}(y:Str):NW M (x::xs) y=(if x.1=y then nOf M x else 0)+NW M xs y:=by
 unfold NW sumN
 by_cases e:x.1=y
 ·rw [Er (by simpa using e),if_pos e,Ak,AH]
 ·rw [Es (by simpa using e),if_neg e]
  lia
theorem sum_add {f g:Str->Int}:∀ (ks:Gh),(ks.map λk=>f k+g k).sum=(ks.map f).sum+(ks.map g).sum
 |[]=>rfl
 |k::r=>by
  rw [Ak,Ak,Ak,AH,AH,AH,sum_add r];lia
theorem lQ {M:Int}{ks:Gh}(nd:ks.Nodup):∀ {xs:Gc},(∀ x∈xs,x.1∈ks)->(ks.map (NW M xs)).sum=sumN M xs
 |[],_=>by
  have:∀ r:Gh,(r.map (NW M [])).sum=0:=by
   intro r
   induction r with
   |nil=>rfl
   |cons k r ih=>rw [Ak,AH,ih];rfl
  exact this ks
 |x::xs,h=>by
  have e:(ks.map (NW M (x::xs)))=ks.map λk=>(if x.1=k then nOf M x else 0)+NW M xs k:=Ei λk _=>kQ k;rw [e,sum_add,aCd nd (h x Ar),lQ nd λy hy=>h y (Ah _ hy)];unfold sumN;rw [Ak,AH]
abbrev leS (a b:Str):Prop:=a.cps.toList<=b.cps.toList
def aEh {a b:Gh}(h:a.Perm b)(ha:a.Pairwise leS)(hb:b.Pairwise leS):a=b:=
 h.eq_of_pairwise (le:=leS) (λx y _ _ h1 h2=>TM.ext (ER h1 h2)) ha hb
structure IsMx (M:Int)(f:Str->Int)(ys:Gc):Prop where
 pw:(ys.map (·.1)).Pairwise leS
 nd:(ys.map (·.1)).Nodup
 mem:∀ y,y∈ys.map (·.1)↔f y≠0
 fr:∀ p∈ys,Fr M p.2.1 p.2.2 (f p.1)
def IsMx.of {M:Int}{xs ys:Gc}(h:aIb M xs ys):IsMx M (NW M xs) ys:=by
 obtain ⟨ks,so,nd,mm,em,fr⟩:=h;refine ⟨?_,?_,λy=>?_,fr⟩
 ·rw [em]
  exact (jB so).filter _
 ·rw [em]
  exact nd.filter _
 ·rw [em,Fg]
  constructor
  ·exact λz=>of_decide_eq_true z.2
  ·intro z
   refine ⟨(mm y).mpr ?_,decide_eq_true z⟩
   by_cases hy:y∈xs.map (·.1)
   ·exact hy
   ·exact absurd (eJ hy) z
def IsMx.congr {M:Int}{f g:Str->Int}{ys:Gc}(h:IsMx M f ys)(e:∀ y,f y=g y):IsMx M g ys:=by
 have:f=g:=funext e;exact this▸h
def IsMx.uniq {M:Int}(hM:0<M){f:Str->Int}{ys zs:Gc}(h:IsMx M f ys)(k:IsMx M f zs):ys=zs:=by
 have e:ys.map (·.1)=zs.map (·.1):=aEh ((List.perm_ext_iff_of_nodup h.nd k.nd).mpr λy=>by rw [h.mem,k.mem]) h.pw k.pw;exact rS hM e h.fr k.fr
def IsMx.over {M:Int}{f:Str->Int}{ys:Gc}(h:IsMx M f ys):Over M ys:=λx hx=>⟨(h.fr x hx).am,(h.fr x hx).dvd⟩
theorem IsMx.nw {M:Int}{f:Str->Int}{ys:Gc}(h:IsMx M f ys)(y:Str):NW M ys y=f y:=by
 have key:∀ (ys:Gc),(ys.map (·.1)).Nodup->(∀ p∈ys,Fr M p.2.1 p.2.2 (f p.1))->NW M ys y=if y∈ys.map (·.1) then f y else 0:=by
  intro ys
  induction ys with
  |nil=>intro _ _;rfl
  |cons x r ih=>
   intro nd fr;rw [Ak] at nd;have nd':=BF.mp nd;rw [kQ,ih nd'.2 λp hp=>fr p (Ah _ hp)]
   by_cases e:x.1=y
   ·subst e
    rw [if_pos rfl,if_neg nd'.1,if_pos (by simp),aH1 (fr x Ar)];lia
   ·rw [if_neg e]
    by_cases m:y∈r.map (·.1)
    ·rw [if_pos m,if_pos (by rw [Ak];exact Ah _ m)]
     lia
    ·rw [if_neg m,if_neg (by
      rw [Ak,Ay]
      rintro (z|z)
      ·exact e z.symm
      ·exact m z)]
     rfl
 rw [key ys h.nd h.fr];split
 ·rfl
 ·rename_i hn
  by_cases z:f y=0
  ·exact z.symm
  ·exact absurd ((h.mem y).mpr z) hn
theorem kR {M:Int}(xs ys:Gc)(y:Str):NW M (xs++ys) y=NW M xs y+NW M ys y:=by
 unfold NW sumN;rw [DG,Be,Ff]
theorem oY {M:Int}(xs ys:Gc):sumN M (xs++ys)=sumN M xs+sumN M ys:=by
 unfold sumN;rw [Be,Ff]
def Brt (M N ta ba:Int):Gc->Gc->Prop
 |[],[]=>True
 |x::xs,z::zs=>z.1=x.1/\Fr (N*ba) z.2.1 z.2.2 (nOf M x*ta)/\Brt M N ta ba xs zs
 |_,_=>False
structure Tw (K:Ab)(H:Hp)(p q:Gj)(t1 b1 t2 b2:Int):Prop where
 sp:SqT K H p [.int t1,.int b1]
 sq:SqT K H q [.int t2,.int b2]
 a1:Amt t1 b1
 a2:Amt t2 b2
 st1:Bt 4000 t1
 sb1:Bt 4000 b1
 st2:Bt 4000 t2
 sb2:Bt 4000 b2
inductive spTimes (K:Ab)(vs:Gq)(H:Hp)(Q:VK)(Ex:XK):Prop
 |mk (p q:Gj) (t1 b1 t2 b2:Int) (e0:vs=[.ref p,.ref q]) (e1:Tw K H p q t1 b1 t2 b2) (e2:RetT H Q [(t1*t2)/G (t1*t2) (b1*b2),(b1*b2)/G (t1*t2) (b1*b2)]):spTimes K vs H Q Ex
def aGf (K:Ab):Sp:=λvs H Q _=>∃ (m1 m2:Gj) (us1 us2:Gq) (ys1 ys2:Gc) (M:Int),vs=[.ref m1,.ref m2]/\SqT K H m1 us1/\PrL H us1 ys1/\SqT K H m2 us2/\PrL H us2 ys2 /\
 ys1.length+ys2.length<=63/\Over M ys1/\Over M ys2/\0<M/\Bt 3000 M/\Bt 3000 (sumN M (ys1++ys2)) /\
 ∀ m zs ys H',Same H H'->H' m=some (.tup zs)->PrL H' zs ys->IsMx M (λy=>NW M ys1 y+NW M ys2 y) ys->Q (.ref m) H'
def mul1 {a b:Int}(ha:1<=a)(hb:1<=b):1<=a*b:=by
 have:=Int.mul_le_mul ha hb (by decide) (by lia);lia
inductive spLess (K:Ab)(vs:Gq)(H:Hp)(Q:VK)(Ex:XK):Prop
 |mk (p q:Gj) (t1 b1 t2 b2:Int) (e0:vs=[.ref p,.ref q]) (e1:Tw K H p q t1 b1 t2 b2) (e2:Q (.bl (decide (t1*b2<t2*b1))) H):spLess K vs H Q Ex
inductive spMinus (K:Ab)(vs:Gq)(H:Hp)(Q:VK)(Ex:XK):Prop
 |mk (p q:Gj) (t1 b1 t2 b2:Int) (e0:vs=[.ref p,.ref q]) (e1:Tw K H p q t1 b1 t2 b2) (e2:t2*b1<=t1*b2) (e3:RetT H Q [(t1*b2-t2*b1)/G (t1*b2-t2*b1) (b1*b2),(b1*b2)/G (t1*b2-t2*b1) (b1*b2)]):spMinus K vs H Q Ex
def fY {M1 M2 t1 b1 n1 t2 b2 n2:Int}(h1:0<M1)(h2:0<M2)(f1:Fr M1 t1 b1 n1)(f2:Fr M2 t2 b2 n2)(le:n2*M1<=n1*M2):t2*b1<=t1*b2/\Fr (M1*M2) ((t1*b2-t2*b1)/G (t1*b2-t2*b1) (b1*b2)) ((b1*b2)/G (t1*b2-t2*b1) (b1*b2)) (n1*M2-n2*M1):=by
 have e1:=f1.e;have e2:=f2.e;have a1:=f1.am.b1;have a2:=f2.am.b1;have bb:1<=b1*b2:=mul1 a1 a2;have MM:0<M1*M2:=Cp h1 h2;have key:(t1*b2-t2*b1)*(M1*M2)=(n1*M2-n2*M1)*(b1*b2):=by grind
 have le':0<=t1*b2-t2*b1:=by
  have r:0<=(n1*M2-n2*M1)*(b1*b2):=Bv (by lia) (by lia);rw [<- key] at r;exact Int.nonneg_of_mul_nonneg_left r MM
 refine ⟨by lia,kC le' bb,?_⟩;have c:=gW (t1*b2-t2*b1) (b1*b2);generalize (t1*b2-t2*b1)/G (t1*b2-t2*b1) (b1*b2)=x at *
 generalize b1*b2/G (t1*b2-t2*b1) (b1*b2)=y at *
 refine Bl (show b1*b2≠0 by lia) ?_
 grind
section
variable {P:Aw}{w:World}{K:Ab}{mg:Gb}{base:Heap}
def aDy:FnScope ["one","other"] ["one","other"] (aH vZ):=fnScOk (by decide +kernel)
def aBb {f:Gj}{fd:Az}(F:Fun K "times" "times" vZ f fd)(cL:Cal P w K mg base CX0 2 "lowest_terms" ["top","bottom"] aAq):FnOk P w K mg base CX0 3 f fd ["one","other"] (spTimes K):=by
 refine F.okA aDy (λcdv A outer s H vs Q E hr h=>?_)
 ·obtain ⟨p,q,t1,b1,t2,b2,rfl,T,k⟩:=h
  refine ⟨_,aE (aM (aI cL hr (aA (aP bL (pit 0 0) (pit 1 0)) (aA (aP bL (pit 0 1) (pit 1 1)) aC)))),?_⟩;refine ⟨p,_,_,rfl,T.sp,rfl,q,_,_,rfl,T.sq,rfl,_,_,rfl,rfl,⟨b6 T.st1,b6 T.st2⟩,?_⟩;exact ⟨p,_,_,rfl,T.sp,rfl,q,_,_,rfl,T.sq,rfl,_,_,rfl,rfl,⟨b6 T.sb1,b6 T.sb2⟩,_,_,rfl,Bv T.a1.t0 T.a2.t0,mul1 T.a1.b1 T.a2.b1,(T.sb1.mul T.sb2).mono (by decide),k⟩
def tZ:FnScope ["one","other"] ["one","other"] (aH jI):=fnScOk (by decide +kernel)
def pY {f:Gj}{fd:Az}(F:Fun K "together" "together" jI f fd)(T:Txt mg)(cM:Cal P w K mg base CX0 4 "mixture" ["pairs"] (iZ K)):FnOk P w K mg base CX0 5 f fd ["one","other"] (aGf K):=by
 refine F.okA tZ (λcdv A outer s H vs Q E hr h=>?_)
 ·obtain ⟨m1,m2,us1,us2,ys1,ys2,M,rfl,q1,p1,q2,p2,yl,o1,o2,M0,bM,bS,k⟩:=h
  refine ⟨_,(aE (aM (aI cM hr (aA (aP fT (aV bA rfl T.list' dN (aA (pv 0) aC)) (aV bA rfl T.list' dN (aA (pv 1) aC))) aC)))),?_⟩;refine ⟨_,rfl,m1,us1,rfl,.inr q1,λc1 hc1=>?_⟩;have s1:Same H (upd H c1 (.lst us1)):=Gu hc1;refine ⟨_,rfl,m2,us2,rfl,.inr (s1.tup q2),λc2 hc2=>?_⟩;have s2:Same (upd H c1 (.lst us1)) (upd (upd H c1 (.lst us1)) c2 (.lst us2)):=Gu hc2;have l1:=p1.length;have l2:=p2.length;refine ⟨c1,c2,us1,us2,rfl,rfl,s2 _ _ aB,aB,cJ (by lia),λc3 hc3=>?_⟩;have s3:Same (upd (upd H c1 (.lst us1)) c2 (.lst us2)) (upd (upd (upd H c1 (.lst us1)) c2 (.lst us2)) c3 (.lst (us1++us2))):=Gu hc3;have s13:=(s1.trans s2).trans s3;refine ⟨c3,us1++us2,ys1++ys2,M,rfl,Gw aB,(p1.keep (Same.tk s13)).append (p2.keep (Same.tk s13)),by rw [Av];lia,λx hx=>(AS.mp hx).elim (o1 x) (o2 x),M0,bM,bS,λm zs ys H' s' hm pm mx=>?_⟩;exact k m zs ys H' (s13.trans s') hm pm ((IsMx.of mx).congr λy=>kR ys1 ys2 y)
def aE0 {f:Gj}{fd:Az}(F:Fun K "less" "less" aD7 f fd):FnOk P w K mg base CX0 1 f fd ["one","other"] (spLess K):=by
 refine F.okA aGn (λcdv A outer s H vs Q E hr h=>?_)
 ·obtain ⟨p,q,t1,b1,t2,b2,rfl,T,k⟩:=h
  refine ⟨_,aE (aM (dD xF (aP bL (pit 0 0) (pit 1 1)) (aP bL (pit 1 0) (pit 0 1)))),?_⟩;refine ⟨p,_,_,rfl,T.sp,rfl,q,_,_,rfl,T.sq,rfl,_,_,rfl,rfl,⟨b6 T.st1,b6 T.sb2⟩,q,_,_,rfl,T.sq,rfl,p,_,_,rfl,T.sp,rfl,_,_,rfl,rfl,⟨b6 T.st2,b6 T.sb1⟩,_,_,rfl,rfl,k⟩
def aD1:FnScope ["one","other"] ["one","other"] (aH wF):=fnScOk (by decide +kernel)
def aBj {f:Gj}{fd:Az}(F:Fun K "minus" "minus" wF f fd)(cE:Cal P w K mg base CX0 2 "less" ["one","other"] (spLess K))(cL:Cal P w K mg base CX0 2 "lowest_terms" ["top","bottom"] aAq):FnOk P w K mg base CX0 3 f fd ["one","other"] (spMinus K):=by
 refine F.okA aD1 (λcdv A outer s H vs Q E hr h=>?_)
 ·obtain ⟨p,q,t1,b1,t2,b2,rfl,T,le,k⟩:=h
  refine ⟨_,aD (bH (eA (aI cE hr (aA (pv 0) (aA (pv 1) aC)))) (aE aA3) aQ)
   (aE (aM (aI cL hr (aA (aP rV (aP bL (pit 0 0) (pit 1 1)) (aP bL (pit 1 0) (pit 0 1))) (aA (aP bL (pit 0 1) (pit 1 1)) aC))))),?_⟩
  refine ⟨_,rfl,_,rfl,p,q,t1,b1,t2,b2,rfl,T,_,rfl,?_⟩;rw [decide_eq_false (by lia)];refine iteF ⟨p,_,_,rfl,T.sp,rfl,q,_,_,rfl,T.sq,rfl,_,_,rfl,rfl,⟨b6 T.st1,b6 T.sb2⟩,q,_,_,rfl,T.sq,rfl,p,_,_,rfl,T.sp,rfl,_,_,rfl,rfl,⟨b6 T.st2,b6 T.sb1⟩,_,_,rfl,rfl,?_⟩;exact ⟨p,_,_,rfl,T.sp,rfl,q,_,_,rfl,T.sq,rfl,_,_,rfl,rfl,⟨b6 T.sb1,b6 T.sb2⟩,_,_,rfl,by lia,mul1 T.a1.b1 T.a2.b1,(T.sb1.mul T.sb2).mono (by decide),k⟩
end
def Tw.bot {K:Ab}{H:Hp}{p q:Gj}{t1 b1 t2 b2:Int}(T:Tw K H p q t1 b1 t2 b2):1<=b1*b2/\Bt 8000 (b1*b2):=by
 have:=Int.mul_le_mul T.a1.b1 T.a2.b1 (by decide) (by have:=T.a1.b1;lia);exact ⟨by lia,T.sb1.mul T.sb2⟩
def Tw.nn {K:Ab}{H:Hp}{p q:Gj}{t1 b1 t2 b2:Int}(T:Tw K H p q t1 b1 t2 b2):0<=t1*b2/\0<=t2*b1/\0<=t1*t2:=
 ⟨Bv T.a1.t0 (by have:=T.a2.b1;lia),Bv T.a2.t0 (by have:=T.a1.b1;lia),Bv T.a1.t0 T.a2.t0⟩
inductive spAdd (K:Ab)(vs:Gq)(H:Hp)(Q:VK)(Ex:XK):Prop
 |mk (p q:Gj) (t1 b1 t2 b2:Int) (e0:vs=[.ref p,.ref q]) (e1:Tw K H p q t1 b1 t2 b2) (e2:RetT H Q [(t1*b2+t2*b1)/G (t1*b2+t2*b1) (b1*b2),(b1*b2)/G (t1*b2+t2*b1) (b1*b2)]):spAdd K vs H Q Ex
inductive spTake (K:Ab)(vs:Gq)(H:Hp)(Q:VK)(Ex:XK):Prop
 |mk (p q:Gj) (t1 b1 t2 b2:Int) (e0:vs=[.ref p,.ref q]) (e1:Tw K H p q t1 b1 t2 b2) (e2:t2*b1<=t1*b2) (e3:RetT H Q [(t1*b2-t2*b1)/G (t1*b2-t2*b1) (b1*b2),(b1*b2)/G (t1*b2-t2*b1) (b1*b2)]):spTake K vs H Q Ex
inductive spBy (K:Ab)(vs:Gq)(H:Hp)(Q:VK)(Ex:XK):Prop
 |mk (p q:Gj) (t1 b1 t2 b2:Int) (e0:vs=[.ref p,.ref q]) (e1:Tw K H p q t1 b1 t2 b2) (e2:RetT H Q [(t1*t2)/G (t1*t2) (b1*b2),(b1*b2)/G (t1*t2) (b1*b2)]):spBy K vs H Q Ex
def pairOf:Gq->Gf->Gh->V
 |u::us,p::ps,xs=>if p.1∈xs/\p.2∈xs then u else pairOf us ps xs
 |_,_,_=>.non
theorem jY {us:Gq}{ps:Gf}{xs:Gh}{i:Nat}{u:V}{p:Str×Str}(hu:us[i]?=some u)(hp:ps[i]?=some p):pairOf (us.drop i) (ps.drop i) xs=if p.1∈xs/\p.2∈xs then u else pairOf (us.drop (i+1)) (ps.drop (i+1)) xs:=by
 obtain ⟨h1,e1⟩:=Ad.mp hu;obtain ⟨h2,e2⟩:=Ad.mp hp;rw [Ed h1,Ed h2,e1,e2];rfl
theorem iE {ps:Gf}{xs:Gh}:pairOf [] ps xs=.non:=by
 cases ps<;>rfl
def rD (K:Ab):Sp:=λvs H Q _=>∃ (p r q:Gj) (rs us:Gq) (ps:Gf) (nm:Gj) (xs:Gh),vs=[.ref p,.ref nm]/\Bn H p r q rs us ps/\SqT K H nm (xs.map V.str)/\Q (pairOf us ps xs) H
def RmL (H:Hp)(rs:Gq)(rbs:Gg):Prop:=rs.length=rbs.length/\∀ (i:Nat) v rb,rs[i]?=some v->rbs[i]?=some rb->∃ q,v=.ref q/\H q=some (.tup [.int rb.1,.int rb.2])/\Rm rb.1 rb.2
def RmL.keep {H H':Hp}{rs:Gq}{rbs:Gg}(h:RmL H rs rbs)(k:Tk H H'):RmL H' rs rbs:=⟨h.1,λi v d hv hd=>by
 obtain ⟨q,e,h1,h2⟩:=h.2 i v d hv hd;exact ⟨q,e,k _ _ h1,h2⟩⟩
theorem RmL.get {H:Hp}{vs:Gq}{ds:Gg}(h:RmL H vs ds){i:Nat}{v:V}(hv:vs[i]?=some v):∃ d,ds[i]?=some d/\∃ q,v=.ref q/\H q=some (.tup [.int d.1,.int d.2])/\Rm d.1 d.2:=by
 obtain ⟨d,hd⟩:∃ d,ds[i]?=some d:=⟨_,Ae (by rw [<- h.1];exact (Ad.mp hv).1)⟩;exact ⟨d,hd,h.2 i v d hv hd⟩
theorem RmsT.list {H:Hp}:∀ {rs:Gq},RmsT H rs->∃ rbs,RmL H rs rbs
 |[],_=>⟨[],rfl,λi v rb h=>by simp at h⟩
 |u::r,h=>by
  obtain ⟨q,t,b,rfl,sq,rm⟩:=h u (Ar ..);obtain ⟨rbs,l,k⟩:=RmsT.list (rs:=r) λx hx=>h x (Ah _ hx);refine ⟨(t,b)::rbs,by rw [AX,AX,l],λi v rb hv hb=>?_⟩;cases i with
  |zero=>
   cases hv;cases hb;exact ⟨q,rfl,sq,rm⟩
  |succ i=>exact k i v rb (by simpa using hv) (by simpa using hb)
theorem zC {M t b N rt rb:Int}(hM:0<M)(h:Fr M t b N):decide (rt*b<t*rb)=decide (rt*M<N*rb):=by
 have b0:0<b:=by have:=h.am.b1;lia
 refine decide_eq_decide.mpr ?_;have e1:rt*b*M=rt*M*b:=AQ ..;have e2:t*rb*M=N*rb*b:=by rw [AQ,h.e,AQ]
 rw [<- Fc hM,e1,e2,Fc b0]
section
variable {P:Aw}{w:World}{K:Ab}{mg:Gb}{base:Heap}
def aIq:FnScope ["_law_one","_law_other_here"] ["_law_one","_law_other_here"] (aH sAdd):=fnScOk (by decide +kernel)
def aHj {f:Gj}{fd:Az}(F:Fun K "_law_add" "_law_add" sAdd f fd)(cL:Cal P w K mg base CX0 1 "_law_lowest" ["_law_top","_law_bottom"] eL):FnOk P w K mg base CX0 2 f fd ["_law_one","_law_other_here"] (spAdd K):=by
 refine F.okA aIq (λcdv A outer s H vs Q E hr h=>?_)
 ·obtain ⟨p,q,t1,b1,t2,b2,rfl,T,k⟩:=h
  refine ⟨_,aE (aM (aI cL hr (aA (aP bJ (aP bL (pit 0 0) (pit 1 1)) (aP bL (pit 1 0) (pit 0 1))) (aA (aP bL (pit 0 1) (pit 1 1)) aC)))),?_⟩;have nn:=T.nn;refine ⟨p,_,_,rfl,T.sp,rfl,q,_,_,rfl,T.sq,rfl,_,_,rfl,rfl,⟨b6 T.st1,b6 T.sb2⟩,q,_,_,rfl,T.sq,rfl,p,_,_,rfl,T.sp,rfl,_,_,rfl,rfl,⟨b6 T.st2,b6 T.sb1⟩,_,_,rfl,rfl,?_⟩;exact ⟨p,_,_,rfl,T.sp,rfl,q,_,_,rfl,T.sq,rfl,_,_,rfl,rfl,⟨b6 T.sb1,b6 T.sb2⟩,_,_,rfl,by lia,T.bot.1,T.bot.2.mono (by decide),λz H' s _ e=>k z H' s e⟩
def aGj:FnScope ["_law_one","_law_other_here"] ["_law_one","_law_other_here"] (aH aD3):=fnScOk (by decide +kernel)
def aEw {f:Gj}{fd:Az}(F:Fun K "_law_take" "_law_take" aD3 f fd)(cL:Cal P w K mg base CX0 1 "_law_lowest" ["_law_top","_law_bottom"] eL):FnOk P w K mg base CX0 2 f fd ["_law_one","_law_other_here"] (spTake K):=by
 refine F.okA aGj (λcdv A outer s H vs Q E hr h=>?_)
 ·obtain ⟨p,q,t1,b1,t2,b2,rfl,T,le,k⟩:=h
  refine ⟨_,aE (aM (aI cL hr (aA (aP rV (aP bL (pit 0 0) (pit 1 1)) (aP bL (pit 1 0) (pit 0 1))) (aA (aP bL (pit 0 1) (pit 1 1)) aC)))),?_⟩;refine ⟨p,_,_,rfl,T.sp,rfl,q,_,_,rfl,T.sq,rfl,_,_,rfl,rfl,⟨b6 T.st1,b6 T.sb2⟩,q,_,_,rfl,T.sq,rfl,p,_,_,rfl,T.sp,rfl,_,_,rfl,rfl,⟨b6 T.st2,b6 T.sb1⟩,_,_,rfl,rfl,?_⟩;exact ⟨p,_,_,rfl,T.sp,rfl,q,_,_,rfl,T.sq,rfl,_,_,rfl,rfl,⟨b6 T.sb1,b6 T.sb2⟩,_,_,rfl,by lia,T.bot.1,T.bot.2.mono (by decide),λz H' s _ e=>k z H' s e⟩
def scBy:FnScope ["_law_one","_law_other_here"] ["_law_one","_law_other_here"] (aH sBy):=fnScOk (by decide +kernel)
def aI4 {f:Gj}{fd:Az}(F:Fun K "_law_by" "_law_by" sBy f fd)(cL:Cal P w K mg base CX0 1 "_law_lowest" ["_law_top","_law_bottom"] eL):FnOk P w K mg base CX0 2 f fd ["_law_one","_law_other_here"] (spBy K):=by
 refine F.okA scBy (λcdv A outer s H vs Q E hr h=>?_)
 ·obtain ⟨p,q,t1,b1,t2,b2,rfl,T,k⟩:=h
  refine ⟨_,aE (aM (aI cL hr (aA (aP bL (pit 0 0) (pit 1 0)) (aA (aP bL (pit 0 1) (pit 1 1)) aC)))),?_⟩;refine ⟨p,_,_,rfl,T.sp,rfl,q,_,_,rfl,T.sq,rfl,_,_,rfl,rfl,⟨b6 T.st1,b6 T.st2⟩,?_⟩;exact ⟨p,_,_,rfl,T.sp,rfl,q,_,_,rfl,T.sq,rfl,_,_,rfl,rfl,⟨b6 T.sb1,b6 T.sb2⟩,_,_,rfl,T.nn.2.2,T.bot.1,T.bot.2.mono (by decide),λz H' s _ e=>k z H' s e⟩
def aDx:FnScope ["_law_one","_law_other_here"] ["_law_one","_law_other_here"] (aH vY):=fnScOk (by decide +kernel)
def aBa {f:Gj}{fd:Az}(F:Fun K "_law_under" "_law_under" vY f fd):FnOk P w K mg base CX0 1 f fd ["_law_one","_law_other_here"] (spLess K):=by
 refine F.okA aDx (λcdv A outer s H vs Q E hr h=>?_)
 ·obtain ⟨p,q,t1,b1,t2,b2,rfl,T,k⟩:=h
  refine ⟨_,aE (aM (dD xF (aP bL (pit 0 0) (pit 1 1)) (aP bL (pit 1 0) (pit 0 1)))),?_⟩;refine ⟨p,_,_,rfl,T.sp,rfl,q,_,_,rfl,T.sq,rfl,_,_,rfl,rfl,⟨b6 T.st1,b6 T.sb2⟩,q,_,_,rfl,T.sq,rfl,p,_,_,rfl,T.sp,rfl,_,_,rfl,rfl,⟨b6 T.st2,b6 T.sb1⟩,_,_,rfl,rfl,k⟩
def rH:FnScope ["bench","names","pair"] ["bench","names"] (aH pI):=fnScOk (by decide +kernel)
def xR {f:Gj}{fd:Az}(F:Fun K "pair_in" "pair_in" pI f fd):FnOk P w K mg base CX0 1 f fd ["bench","names"] (rD K):=by
 refine F.okA rH (λcdv A outer s H vs Q E hr h=>?_)
 ·obtain ⟨p,r,q,rs,us,ps,nm,xs,rfl,bn,hn,k⟩:=h
  refine ⟨_,(aD (dA AO rfl (gC (pit 0 1)) (aR (i:=2) rH.nd)
    (aE (bH (PW.pt (jQ (aL eT (pit 2 0) (pv 1) rfl) (gD (aL eT (pit 2 1) (pv 1) rfl)))) (aE (aM (pv 2))) aQ)))
   (aE (aM dO))),?_⟩
  have hq:SqT K H q us:=Gv bn.hq;refine ⟨p,_,_,rfl,Gv bn.hp,rfl,q,rfl,⟨_,hq⟩,?_⟩;refine mG (xs:=us) (λi Z H'=>∃ v2:Gr,Z=[some (.ref p),some (.ref nm),v2]/\pairOf us ps xs=pairOf (us.drop i) (ps.drop i) xs/\H'=H) ⟨none,rfl,rfl,rfl⟩ ?_ ?_ ?_
  ·rintro i Z H' hi ⟨_,rfl,_,rfl⟩
   exact hq
  ·rintro i v Z H2 hv ⟨v2,rfl,e,rfl⟩
   obtain ⟨y,hy⟩:∃ y,ps[i]?=some y:=⟨_,Ae (by rw [<- bn.pt.1];exact (Ad.mp hv).1)⟩;obtain ⟨z,rfl,hz⟩:=bn.pt.2 i v y hv hy;have hz':SqT K H2 z [.str y.1,.str y.2]:=Gv hz;rw [jY hv hy] at e;refine ⟨z,_,_,rfl,hz',rfl,_,rfl,nm,_,rfl,.inr hn,rfl,eG xs,_,rfl,ite2 (λh1=>?_) (λh1=>?_)⟩
   ·have m1:=dW.mp h1
    refine ⟨z,_,_,rfl,hz',rfl,_,rfl,nm,_,rfl,.inr hn,rfl,eG xs,_,rfl,ite2 (λh2=>?_) (λh2=>?_)⟩
    ·rw [if_pos ⟨m1,dW.mp h2⟩] at e
     rw [e] at k;exact ⟨_,rfl,k⟩
    ·rw [if_neg λz=>h2 (dW.mpr z.2)] at e
     exact ⟨_,rfl,e,rfl⟩
   ·rw [if_neg λz=>h1 (dW.mpr z.1)] at e
    exact ⟨_,rfl,e,rfl⟩
  ·rintro Z H2 ⟨v2,rfl,e,rfl⟩
   rw [List.drop_length,iE] at e;rw [e] at k;exact k
end
end K51
namespace L2
open PySem PySem.Spec PyProof.Rows PySem.W
def aIh (K:Frag)(Dc:Gj)(tb:St->XK->TS)(th:TS):TS:=λD Z H=>tb Z (λcls _ H'=>∃ C,cls=.ref C/\ExK K C/\subIn K (.ref C) (.ref Dc)=some true/\th D Z H') D Z H
section
variable {X:Cx}
def aEi (O:OwnF X)(hg:Gl X d)(hm:X.mg d=some (.ref Dc))(F:CtK X.K Dc)(hb':∀ (U:Ge) (E':Ga) (Z:St) (Ec:XK),mS (CXg X.prog X.w) (X.trying U E') Z Ec->PSs (X.trying U E') body (tb Z Ec))(hh:∀ ea:Gj,PSs (X.within (.ref ea)) (b0::hb) th)(hdb:(d==("__debug__":Str))=false:=by decide) :
  PS X (.Try body [.ExceptHandler (some (.Name d dp)) none (b0::hb) hpos] [] [] pos) (aIh X.K Dc tb th):=by
 intro U s Z H D I h;refine wpAny_Try_except (BR (hb' U _ Z _ ?hp [] s Z H D (I.trying _) h) (λf s1 z=>?_) λ_ _ z=>z)
 case hp=>
  intro pl Hc sc e s' I0 hx;have I1:Inv X U Z Hc sc:=I0.tried;obtain ⟨ea,C,dd,H',rfl,Fl,C',e1,FK,hsub,hk⟩:=hx;cases e1;obtain ⟨B,hok,fl,bk,th⟩:=Fl.fl;have hfr:X.A.frames=some (X.env::X.outer):=by rw [<- O.stk];exact I1.ok.frames
  have fl':FlyD B (X.env::X.outer) ea (.ref C) dd .none s'.heap:=by rw [<- O.stk];exact fl
  refine aHk hfr O.fr fl' λh4 held4 up4=>?_;refine mH held4 λh5 fl5 up5=>?_;have mk:∀ h6:Heap,B.StaysIn h6->s'.heap.UpToSlots h6->Inv X U Z H' { s' with heap:=h6 }:=λh6 st up=>
   I1.call' (s':={ s' with heap:=h6 }) (ch:=[]) Fl.os (aDk I1 Fl.un bk th st up) (hok.kept st) Fl.bare (by simp)
  have I5:=mk h5 fl5.st (up4.trans up5);obtain ⟨ob,_,hob,hobc,_,_⟩:=fl5.at;refine wpAny_handleBy_cons (codeAny_handlers_test (fV (I5.within (.ref ea)) hg hm ?_ hdb)) (by intro q;cases q);refine qJ I5.kIn ⟨hob,hobc⟩ F hsub ?_;refine codeAny_handlers_suite ?_;refine mH fl5 λh6 fl6 up6=>?_;have I6:=mk h6 fl6.st ((up4.trans up5).trans up6);refine BR (hh ea U _ Z H' D (I6.within (.ref ea)) hk) (λf s9 hf=>?_) (λ_ _ q=>q.elim);cases f with
  |next=>
   obtain ⟨Z9,H9,I9,q⟩:=hf;exact ⟨Z9,H9,I9.without I1.ok,q⟩
  |brk=>
   obtain ⟨Z9,H9,I9,q⟩:=hf;exact ⟨Z9,H9,I9.without I1.ok,q⟩
  |cont=>
   obtain ⟨Z9,H9,I9,q⟩:=hf;exact ⟨Z9,H9,I9.without I1.ok,q⟩
  |ret u=>
   obtain ⟨v,Z9,H9,I9,r,q⟩:=hf;exact ⟨v,Z9,H9,I9.without I1.ok,r,q⟩
 ·have z':=SP.tried z
  cases f with
  |next=>exact Fs z'
  |brk=>exact z'
  |cont=>exact z'
  |ret u=>exact z'
end
section
variable {X:Cx}
def xC (hu:X.A.units+64<cLine):OpR X (BB .NotEq) (λx y H Q=>∃ a b xs,x=.ref a/\y=.ref b/\SqT X.K H a xs/\SqT X.K H b []/\Q (.bl (!xs.isEmpty)) H):=by
 intro U s Z H x y v u Q I rx ry h;obtain ⟨a,b,xs,rfl,rfl,ha,hb,q⟩:=h;cases rx;cases ry;obtain ⟨its,r,p,_⟩:=I.tuple ha;obtain ⟨its',r',p',_⟩:=I.tuple hb;cases r';obtain ⟨o,o1,o2,n,o3⟩:=p;obtain ⟨o',o1',o2',n',o3'⟩:=p';have key:=SeqAt.RcNeAt.tuples (A:=X.A) (s:=s) (l:=a) (b:=b) (items:=its.toArray) (items2:=#[]) (e:=λ_=>true) ⟨o,o1,o2,n,o3⟩ ⟨o',o1',o2',n',o3'⟩ (by lia) (λj h1 h2=>absurd h2 (by simp));cases r with
 |nil=>exact key X.prog X.w X.xe _ ⟨.bl _,H,I,rfl,q⟩
 |cons r t=>exact key X.prog X.w X.xe _ ⟨.bl _,H,I,rfl,q⟩
end
end L2
namespace L2
open PySem PySem.Spec PyProof.Rows PySem.W PySem.Builtin PySem.Builtin.ObjectAttr
section
variable {X:Cx}{o value:Expr}{x:Str}{pos pos':Pos}{ta tv:TE}{C P f:Gj}
def sExM (K:Frag)(C P f:Gj)(ta tv:TE)(x:Str):TS:=λD Z H=>tv Z H λy H1=>ta Z H1 λz H2=>∃ a dx fs,z=.ref a/\H2 a=some (exN a C (some dx))/\H2 dx=some (xdE dx fs)/\fs.length<=90/\ExF K C P f x /\
 D.nx Z (upd H2 dx (xdE dx ((x,y)::fs)))
def jR (ha:PE X o ta)(hv:PE X value tv)(hs:Fd value (some (.Attribute o x pos')) pos.line X.env=pure false):PS X (.Assign [.Attribute o x pos'] value pos) (sExM X.K C P f ta tv x):=by
 intro U s Z H D I h;refine EU (thn (hv U s Z H _ I h) λu s1 ⟨y,H1,I1,ry,q⟩=>thn (ha U s1 Z H1 _ I1 q) λov s2 ⟨z,H2,I2,rx,a,dx,fs,ez,ea,ed,hl,F,q2⟩=>?_) hs;subst ez;obtain rfl:ov=AC a:=rx;obtain ⟨⟨ob,t',⟨o1,o2,o3⟩,o4⟩,_⟩:=I2.hok _ _ ea;obtain ⟨⟨mA,n1,r1,w1⟩,_⟩:=I2.hok _ _ ed;obtain ⟨hh,g,d,tk,os⟩:=s2;refine oA I2.kIn (mQ I2.kIn F.i.xi) F.i.k F.sa F.nn ⟨o1,o2⟩ o3 n1 w1 (by rw [Af];lia) λh' tk' hn' ks=>?_;have hx:∃ u,h'.get? dx=some u:=by
  obtain ⟨o,es,ep,e,q⟩:=id hn';exact ⟨o,e⟩
 refine ⟨Z,_,I2.write (x:=dx) (e:=dx) (t':=tk') (by rw [ed];exact Dp) (.inl rfl) ks hx ?_,q2⟩;refine aB8 hn' (λg=>?_) (λg hg=>?_)
 ·by_cases z:g=x
  ·subst z
   simp only [Ds,beq_self_eq_true,if_true];exact ry
  ·have:((x,y)::fs:Gn).lookup g=fs.lookup g:=by
    simp only [Ds];rw [beq_eq_false_iff_ne.mpr z]
   rw [this,if_neg z];exact r1 g
 ·by_cases z:g=x
  ·rw [z];simp
  ·rw [if_neg z] at hg
   exact Ah _ (w1 g hg)
end
end L2
namespace SX
open PySem PySem.Spec PyProof.Rows
def byT (w:World):Bool:=w.params.followText "set-order"
def kv:Gk->Str
 |.str x _=>x
 |_=>⟨#[]⟩
def uL (t:BU)(es:Array (Int×Gk))(c:Int)(x:Gk):(layNew t es c x).2.1.led=t.led:=by
 unfold layNew;split
 ·unfold BU.orStandIn
  simp only;split<;>rfl
 ·rfl
def aBt {m f v:Nat}{l p:Bool}{r:BU×Array Nat}(h:BU.laid m f v l p hs=some r):r.1.led=l/\r.1.plain=p:=by
 unfold BU.laid at h;cases e:BU.layClean m hs with
 |none=>rw [e] at h;cases h
 |some o=>
  rw [e] at h;cases h;exact ⟨rfl,rfl⟩
def wL (t:BU)(es:Array (Int×Gk))(n:Nat)(hp:t.plain=false):(relayAll t es n).2.1.led=t.led/\(relayAll t es n).2.1.plain=false:=by
 unfold relayAll;split
 ·next t' o e=>
  have q:=aBt (show BU.laid _ _ _ t.led t.plain _=some _ from e);simp only;split
  ·exact ⟨q.1,q.2.trans hp⟩
  ·exact ⟨rfl,rfl⟩
 ·exact ⟨rfl,rfl⟩
def setO (es:Array (Int×Gk))(ep:Nat)(t:BU):Obj:={ cls:=.type "set",dict:=none,data:=.set es ep t,slots:=#[] }
structure SetS (P:Aw)(w:World)(h:Heap)(a:Gj)(ks:Gh):Prop where
 ex:∃ es ep t,h.get? a=some (setO es ep t)/\ElemsOf (strKind P w) es.toList/\t.fits es.size=true/\t.led=(!byT w)/\(t.plain=false\/es.size=0)/\(es.toList.map λe=>kv e.2).Perm ks
 nd:ks.Nodup
 lt:ks.length<EH
def dd (ks:Gh)(x:Str):Gh:=if x∈ks then ks else ks++[x]
def ddl (ss:Gh):Gh:=ss.foldl dd []
theorem aH6 :y∈dd ks x↔y∈ks\/y=x:=by
 unfold dd;split
 ·next h=>exact ⟨.inl,λz=>z.elim id λe=>e▸h⟩
 ·simp
def tF (h:ks.Nodup):(dd ks x).Nodup:=by
 unfold dd;split
 ·exact h
 ·next n=>
  rw [List.nodup_append];refine ⟨h,by simp,λa ha b hb=>?_⟩;rw [AA.mp hb];exact λe=>n (e▸ha)
def aC9 :(dd ks x).length<=ks.length+1:=by
 unfold dd;split
 ·lia
 ·simp
theorem aB2 (ss:Gh)(x:Str):ddl (ss++[x])=dd (ddl ss) x:=by unfold ddl;rw [List.foldl_append];rfl
theorem mJ:∀ (ss acc:Gh),acc.Nodup->(ss.foldl dd acc).Nodup/\(∀ y,y∈ss.foldl dd acc↔y∈acc\/y∈ss)/\(ss.foldl dd acc).length<=acc.length+ss.length
 |[],acc,h=>⟨h,λy=>by simp,by simp⟩
 |x::r,acc,h=>by
  obtain ⟨a,b,c⟩:=mJ r (dd acc x) (tF h);refine ⟨a,λy=>?_,?_⟩
  ·rw [Fi,b,aH6,Ay]
   exact or_assoc
  ·rw [Fi,AX]
   have:=aC9 (ks:=acc) (x:=x);lia
def ddl_nodup (ss:Gh):(ddl ss).Nodup:=(mJ ss [] Ea).1
theorem ddl_mem :y∈ddl ss↔y∈ss:=((mJ ss [] Ea).2.1 y).trans (by simp)
def ddl_len (ss:Gh):(ddl ss).length<=ss.length:=by
 have h:=(mJ ss [] Ea).2.2;rw [List.length_nil,Nat.zero_add] at h;exact h
def aC6 {w:World}(el:ElemsOf (strKind P w) es)(h:e∈es):∃ t,e.2=.str (kv e.2) t:=by
 obtain ⟨⟨k,hk,_⟩,_⟩:=el e h;obtain ⟨t,ht⟩:=Dq (x:=k) (v:=e.2) hk;exact ⟨t,by rw [ht];rfl⟩
def aH4 {w:World}(el:ElemsOf (strKind P w) es)(pm:(es.map λe=>kv e.2).Perm ks)(x:Str):x∈ks↔∃ e∈es,(strKind P w).is x e.2=true:=by
 rw [<- pm.mem_iff,AE];constructor
 ·rintro ⟨e,he,rfl⟩
  obtain ⟨t,ht⟩:=aC6 el he;exact ⟨e,he,by rw [ht];exact strKind_is P w _ t⟩
 ·rintro ⟨e,he,h⟩
  obtain ⟨t,ht⟩:=Dq (x:=x) (v:=e.2) h;exact ⟨e,he,by rw [ht];rfl⟩
section
variable {P:Aw}{w:World}{A:Around}{E:Ga}{s:Gm}
theorem SetS.stored {h:Heap}{a:Gj}{es es':Array (Int×Gk)}{ep:Nat}{t t':BU}{ks:Gh}(ho:h.get? a=some (setO es ep t))(el:ElemsOf (strKind P w) es'.toList)(hf:t'.fits es'.size=true)(hl:t'.led=(!byT w))(hp:t'.plain=false)
  (pm:(es'.toList.map λe=>kv e.2).Perm ks) (nd:ks.Nodup) (lt:ks.length<EH):(h.update a (Obj.putSet es' t')).get? a=some (setO es' (ep+1) t')/\SetS P w (h.update a (Obj.putSet es' t')) a ks:=by
 have hg:(h.update a (Obj.putSet es' t')).get? a=some (setO es' (ep+1) t'):=by
  have:=BN (Obj.putSet es' t') ho (by rw [putSet_of es' t' rfl];rfl);rw [putSet_of es' t' rfl] at this;exact this
 exact ⟨hg,⟨_,_,_,hg,el,hf,hl,.inl hp,pm⟩,nd,lt⟩
def rA {g:Bool->Sem Unit}(hg:∀ (b:Bool) (s1:Gm) (Q':Unit->Gm->Prop),Q' () s1->wpAny (model P w) A (g b) Q' E s1){a:Gj}{es es1:Array (Int×Gk)}{ep:Nat}{t t2:BU}{ks:Gh}{wd:Bool}{R:Option Bool->Gm->Prop}
  (ho:s.heap.get? a=some (setO es ep t)) (el:ElemsOf (strKind P w) es1.toList) (hf:t2.fits es1.size=true) (hl:t2.led=(!byT w)) (hp:t2.plain=false) (pm:(es1.toList.map λe=>kv e.2).Perm ks) (nd:ks.Nodup) (lt:ks.length<EH)
  (h:∀ h',Cf a s.heap h'->SetS P w h' a ks->R (some true) { s with heap:=h' }) :
  wpAny (model P w) A (do
    storeSet a es1 t2
    if (!wd&&t2.tooFull)=true then do
      g (relayAll t2 es1 (DQ es1.size)).2.2;storeSet a (relayAll t2 es1 (DQ es1.size)).1 (relayAll t2 es1 (DQ es1.size)).2.1;pure (some true)
     else pure (some true)) R E s:=by
 have sz:es1.size=ks.length:=by rw [<- BE,<- Af (f:=λe=>kv e.2),pm.length_eq]
 refine Aa (wpAny_storeSet_of ho rfl ?_ (EW (by lia)));obtain ⟨o1,S1⟩:=SetS.stored (P:=P) (w:=w) ho el hf hl hp pm nd lt;have b1:=EE s.heap a (Obj.putSet es1 t2);split
 ·have p2:=relayAll_perm t2 es1 (DQ es1.size)
  have f2:=relayAll_fits t2 es1 (DQ es1.size);have l2:=wL t2 es1 (DQ es1.size) hp;generalize relayAll t2 es1 (DQ es1.size)=r at p2 f2 l2 ⊢;obtain ⟨es2,t3,gv⟩:=r;dsimp only at p2 f2 l2 ⊢;have pm2:=(p2.map λe=>kv e.2).trans pm;have sz2:es2.size=ks.length:=by rw [<- BE,<- Af (f:=λe=>kv e.2),pm2.length_eq]
  refine Aa (hg _ _ _ ?_);refine Aa (wpAny_storeSet_of o1 rfl ?_ (EW (by lia)));obtain ⟨_,S2⟩:=SetS.stored (P:=P) (w:=w) o1 (el.perm p2) f2 (l2.1.trans hl) l2.2 pm2 nd lt;exact Ag (h _ (b1.trans (EE _ a _)) S2)
 ·exact Ag (h _ b1 S1)
def add_str {tk:Tok}(S:SetS P w s.heap a ks)(hr:ks.length+1<EH)(h:∀ b h',Cf a s.heap h'->SetS P w h' a (dd ks x)->Q b { s with heap:=h' }) :
  wpAny (model P w) A (setAddHashed a (.str x tk) ((strKind P w).hash x)) Q E s:=by
 have S0:=S;obtain ⟨⟨es,ep,t,ho,el,hf,hl,hp,pm⟩,nd,lt⟩:=S;have sz:es.size=ks.length:=by rw [<- BE,<- Af (f:=λe=>kv e.2),pm.length_eq]
 have key:=strKind_is P w x tk;have hsc:(Value.str x tk).scannable=true:=rfl;unfold setAddHashed setAddHashedIn;refine Br (Aa (Ef ho rfl hf ?_));dsimp only;rw [byScan_of (knd:=strKind P w) hsc (by lia) el];simp only [↓reduceIte];unfold setAddByScan;refine Aa (Aa (Dw (Aa (wpAny_setScan_of key ho rfl hf el ?_))));have mem:=aH4 el pm x;cases q:List.findIdx? (λe=>(strKind P w).is x e.2) es.toList with
 |some j=>
  dsimp only;obtain ⟨hj,hpj,_⟩:=List.findIdx?_eq_some_iff_getElem.mp q;have hin:x∈ks:=mem.mpr ⟨es.toList[j],DB hj,hpj⟩;refine Ag (Ag ?_);have e:dd ks x=ks:=by unfold dd;rw [if_pos hin]
  exact h false s.heap (Cf.refl a s.heap) (by rw [e];exact S0)
 |none=>
  dsimp only;have hin:x∉ks:=λz=>by
   obtain ⟨e,he,hpe⟩:=mem.mp z;have:=List.findIdx?_eq_none_iff.mp q e he;rw [hpe] at this;cases this
  have e:dd ks x=ks++[x]:=by unfold dd;rw [if_neg hin]
  have hgw:∀ (b:Bool) {s1:Gm} {Q':Unit->Gm->Prop},Q' () s1->wpAny (model P w) A (match b with|true=>rule "set.scan.the-table-gave-way" | false=>pure ()) Q' E s1:=λb s1 Q' z=>by
   cases b
   ·exact Ag z
   ·exact Dw z
  have lp:=layNew_perm t es ((strKind P w).hash x) (.str x tk);have lf:=layNew_fits t es ((strKind P w).hash x) (.str x tk);have ll:=uL t es ((strKind P w).hash x) (.str x tk);generalize layNew t es ((strKind P w).hash x) (.str x tk)=r at lp lf ll ⊢;obtain ⟨es1,t1,wd,gv⟩:=r;dsimp only at lp lf ll ⊢;rw [Array.toList_push] at lp;have el1:ElemsOf (strKind P w) es1.toList:=(el.push key hsc).perm lp;have pm1:(es1.toList.map λe=>kv e.2).Perm (dd ks x):=by
   rw [e];refine (lp.map _).trans ?_;rw [Be];exact pm.append_right _
  have nd1:=tF (x:=x) nd;have lt1:(dd ks x).length<EH:=by have:=aC9 (ks:=ks) (x:=x);lia
  refine Aa (hgw _ ?_);split
  ·refine Aa ?_
   rw [hashByValue_scannable 8 hsc];refine Ag ?_;refine rA (ks:=dd ks x) ?_ ho el1 (BU.fits_plain_off lf) (ll.trans hl) rfl pm1 nd1 lt1 ?_
   ·intro b s1 Q' z
    cases b
    ·exact Ag z
    ·exact Dw z
   ·intro h' sb S'
    exact Ag (h _ h' sb S')
  ·next np=>
   refine Aa (Ag ?_);simp only [↓reduceIte];refine rA (ks:=dd ks x) ?_ ho el1 lf (ll.trans hl) (by simpa using np) pm1 nd1 lt1 ?_
   ·intro b s1 Q' z
    cases b
    ·exact Ag z
    ·exact Dw z
   ·intro h' sb S'
    exact Ag (h _ h' sb S')
end
theorem SetS.at {w:World}(S:SetS P w h a ks)(k:∀ o,h.get? a=some o->h'.get? a=some o):SetS P w h' a ks:=by
 obtain ⟨⟨es,ep,t,ho,r⟩,nd,lt⟩:=S;exact ⟨⟨es,ep,t,k _ ho,r⟩,nd,lt⟩
theorem oZ:∀ {vs:Gi} {ss:Gh},EK vs ss->∀ (i:Nat) (v:Gk),vs[i]?=some v->∃ x t,ss[i]?=some x/\v=.str x t
 |_,_,.nil,i,v,h=>by simp at h
 |_,_,.cons y t hr,0,v,h=>by simp at h;exact ⟨y,t,rfl,h.symm⟩
 |_,_,.cons y t hr,i+1,v,h=>by
  obtain ⟨x,u,h1,h2⟩:=oZ hr i v (by simpa using h);exact ⟨x,u,by simpa using h1,h2⟩
section
variable {P:Aw}{w:World}{A:Around}{R:Result->Gm->Prop}{I:Gj}{fp wr:List Gj}{G:Array GenState->Array GenState->Prop}{n:Nat}{Pr:Nat->Gk->Prop}{St:Nat->Gm->Prop}
def qX (W:WalksS P w A.in1 I fp wr G n Pr St)(a:Gj)(haf:a∉fp)(ss:Gh)(hl:ss.length=n)(hval:∀ i v,Pr i v->∃ x t,ss[i]?=some x/\v=.str x t)(hb:n+1<EH) :
  ∀ (k i:Nat) (s:Gm),n-i=k->i<=n->St i s->SetS P w s.heap a (ddl (ss.take i))->(∀ s',Moved (a::wr) G s s'->SetS P w s'.heap a (ddl ss)->R (.ok (.ret .none)) s') ->
   Ey (model P w) A (.builtin "set.update.loop" ⟨[.ref a,.ref I],[]⟩) R s:=by
 have haw:a∉wr:=λh=>haf (W.sub _ h);have sub:∀ b∈wr,b∈a::wr:=λb hb=>Ah _ hb;intro k
 induction k with
 |zero=>
  intro i s hk hi st S q;obtain rfl:i=n:=by lia
  refine CI F.entry_set_update_loop ?_;rw [CH Fy _];show wpAny _ A.in1 (pyNext (.ref I) >>= _) _ _ s;refine Aa (W.done s _ _ st λs' hm=>?_);show wpAny _ A.in1 (ret BO) _ _ s';refine Ag (q s' (hm.mono sub) ?_);rw [EC (by lia)] at S;exact S.at λo e=>hm.heap a o haw e
 |succ k ih=>
  intro i s hk hi st S q;have lt:i<n:=by lia
  refine CI F.entry_set_update_loop ?_;rw [CH Fy _];show wpAny _ A.in1 (pyNext (.ref I) >>= _) _ _ s;refine Aa (W.item i s _ _ lt st λv s' hP st' hm=>?_);obtain ⟨x,t,hx,rfl⟩:=hval i v hP;have S':SetS P w s'.heap a (ddl (ss.take i)):=S.at λo e=>hm.heap a o haw e;show wpAny _ A.in1 (holding [Value.str x t] (setAdd a (.str x t)) >>= _) _ _ s';refine Aa (Br ?_);unfold setAdd;refine Br ?_;refine Aa ((strKind P w).pyHash (k:=x) (strKind_is _ _ _ _) ?_);have room:(ddl (ss.take i)).length+1<EH:=by
   have h1:=ddl_len (ss.take i);rw [Ca] at h1;lia
  refine add_str (s:={ s' with toks:=s'.toks+1 }) S' room λb h' sb S2=>?_;have S3:SetS P w h' a (ddl (ss.take (i+1))):=by
   have e:ss.take (i+1)=ss.take i++[x]:=by rw [List.take_succ,hx];rfl
   rw [e,aB2];exact S2
  refine Ag ⟨EI Fy _,ih (i+1) _ (by lia) lt (W.frame _ s' _ _ st' (Dj _) λb hb o e=>?_) S3 λs2 m2 z2=>?_⟩
  ·rw [sb.2 b (λh:b=a=>haf (by rw [<- h];exact hb))];exact e
  ·refine q s2 (Moved.trans W.gtrans ((hm.mono sub).then_heap (Dj _) λb o hb e=>?_) m2) z2
   rw [sb.2 b (λh:b=a=>hb (by rw [h];exact Ar))];exact e
end
section
variable {P:Aw}{w:World}{A:Around}{E:Ga}{s:Gm}
abbrev eU (w:World):Obj:=setO #[] 0 (.fresh 0 0 (!byT w))
def yF (v:Gk)(h:Q1 (.ref s.heap.objs.size) { s with heap:=s.heap.push (eU w) }) :
  Ey (model P w) A (.call (.builtin "set.__new__") ⟨[.type "set",v],[]⟩) (wants Q1 E) s:=by
 refine Fu ?_;show wpAny _ A.in1 (do checkBuiltinCall "set.__new__" ⟨[.type "set",v],[]⟩;again (.builtin "set.__new__" ⟨[.type "set",v],[]⟩)) _ _ s;refine Aa (Ew (F.newCall_set_1 v) (Ag ⟨EI F.plain_set_new _,CI F.entry_set_new ?_⟩));rw [CH F.plain_set_new _];unfold AG.«set.__new__» AG.Frozenset.newClass;have sub:=sub_set_self;obtain ⟨hp,g,d,tk,os⟩:=s;dsimp only
 wp_walk
 refine Eo (Ag ?_);dsimp only;simp only [newObj];refine Aa (wpAny_alloc (Ag ?_));exact Ag h
def rW (h:Heap):SetS P w (h.push (eU w)) h.objs.size []:=
 ⟨⟨#[],0,_,Ai _ rfl,λe he=>by simp at he,rfl,rfl,.inr rfl,.refl _⟩,Ea,by decide⟩
def call_set_strs {l:Gj}(hh:A.handled=none)(hl:s.heap.IsList l its)(hi:EK its.toList ss)(hb:its.size+1<EH)(h:∀ (h':Heap) (tk:Nat),SetS P w h' s.heap.objs.size (ddl ss)->(∀ b o,s.heap.get? b=some o->h'.get? b=some o)->Q (.ref s.heap.objs.size) { s with heap:=h',toks:=tk }) :
  wpAny (model P w) A (call (.type "set") [.ref l]) Q E s:=by
 obtain ⟨c,tl,hmro⟩:=BY.mro;have hmade:=BY.made;have hsub:=BY.sub;refine EA (Fu ?_);show wpAny _ _ (callAny (.type "set") _) _ _ _;refine Ag ⟨Et _ (by decide +kernel),CI F.entry_type_call ?_⟩;rw [Around.under_plain (weight_type_call_type "set" [.ref l] []) rfl];have h1:=BY.notType;have h2:=BY.canCreate;have hct:=F.typeCall_set_1 (.ref l)
 repeat (any_goals (first|assumption|wp_step))
 refine Ck (yF (.ref l) (E:=E) (Q1:=λobj s1=>obj=.ref s.heap.objs.size/\s1={ s with heap:=s.heap.push (eU w) }) ⟨rfl,rfl⟩) λr s1 hr=>?_;cases r with
 |error e=>exact hr
 |ok fl=>
  cases fl with
  |ret obj=>
   obtain ⟨rfl,rfl⟩:=hr;have hS:(s.heap.push (eU w)).get? s.heap.objs.size=some (eU w):=Ai _ rfl;have hT:Shared.TypeIs { s with heap:=s.heap.push (eU w) } (.ref s.heap.objs.size) "set":=⟨_,hS,rfl⟩;have hli:=BY.init.lookup;have hbi:=BY.init.bind (.ref s.heap.objs.size)
   repeat (any_goals (first|assumption|wp_step))
   refine Ck (Ej (R:=wants (λr s2=>r=.none/\∃ h' tk,s2={ s with heap:=h',toks:=tk }/\SetS P w h' s.heap.objs.size (ddl ss)/\(∀ b o,s.heap.get? b=some o->h'.get? b=some o)) E) BY.init.plain F.entry_set_init (check_set_init_1 hT ?_)) λr2 s2 hr2=>?_
   ·obtain ⟨ol,hol,hcl,nl,hdl⟩:=hl
    obtain ⟨ocls,odict,odata,oslots⟩:=ol;simp only at hcl hdl;subst hcl;subst hdl;have hol':(s.heap.push (eU w)).get? l=some { cls:=.type "list",dict:=odict,data:=.seq its nl,slots:=oslots }:=Ac _ hol;have hsls:=F.sub_list_set;have hslf:=F.sub_list_frozenset;have hne:(CW "list" == CW "dict")=false:=by decide
    have hl1:(s.heap.push (eU w)).IsList l its:=⟨_,hol',rfl,nl,rfl⟩;unfold AG.«set.__init__» noKeywords AG.Frozenset.updateFrom;generalize hPI:pyIter=PI
    wp_walk
    subst hPI;refine wpAny_pyIter_list hl1 ?_;refine Aa (wpAny_runValue ?_);have hlS:l<s.heap.objs.size:=Ao hol;have hh3:A.in1.in1.in1.handled=none:=by simp [hh]
    have hz:(s.heap.push (eU w)).objs.size=s.heap.objs.size+1:=BH ..;have hneI:l≠(s.heap.push (eU w)).objs.size:=by
     rw [hz];exact As (Cg hlS)
    have haf:s.heap.objs.size∉[(s.heap.push (eU w)).objs.size,l]:=by
     simp only [Ay,Eh,or_false,not_or];rw [hz];exact ⟨As (Cd _),Dr hlS⟩
    have hlen:ss.length=its.size:=by rw [<- BE];exact (EK.length hi).symm
    refine qX ((Walks.list hh3 _ l hneI its).toS) s.heap.objs.size haf ss hlen (λi v hv=>oZ hi i v (by rw [Bd];exact hv)) hb (its.size-0) 0 _ (by lia) (Bu _) ⟨⟨_,Ai _ rfl,rfl,rfl⟩,(hl1.push _)⟩ ((rW s.heap).at λo e=>Ac _ e) λs' hm S'=>?_;obtain ⟨h',g',d',tk',os'⟩:=s';have eg:g'=s.gens:=hm.gens;have ed:d'=s.drawn:=hm.drawn;have eo:os'=s.os:=hm.os;subst eg;subst ed;subst eo;show wpAny _ _ _ _ _ _;refine Ag ?_;show wpAny _ _ (ret BO) _ _ _;refine Ag ⟨rfl,h',tk',rfl,S',λb o e=>?_⟩;have hb0:=Ao e;refine hm.heap b o ?_ (Ac _ (Ac _ e));simp only [Ay,Eh,or_false,not_or];rw [hz];exact ⟨As hb0,As (Cg hb0)⟩
   ·cases r2 with
    |error e=>exact hr2
    |ok f2=>
     cases f2 with
     |ret r=>
      obtain ⟨rfl,h',tk,rfl,S',hk'⟩:=hr2
      repeat (any_goals (first|assumption|wp_step))
      exact h _ _ S' hk'
     |_=>exact hr2.elim
  |_=>exact hr.elim
end
end SX
namespace DX
open PySem PySem.Spec PyProof.Rows
theorem gP:plainId "dict.update.loop" = true:=by decide +kernel
def oE:entryFor table "dict.update.loop" = some AG.«dict.update.loop»:=entryFor_of_tree (by kernel_rfl)
section
variable {P:Aw}{w:World}{A:Around}{E:Ga}{s:Gm}
def TupAt (h:Heap)(z:Gj)(x y:Gk):Prop:=∃ o n,h.get? z=some o/\o.cls=.type "tuple" /\ o.data=.seq #[x,y] n
def mD (ht:TupAt s.heap z x y)(h:Q [x,y] s):wpAny (model P w) A (AG.Dict.pairItems (.ref z)) Q E s:=by
 obtain ⟨o,n,ho,hc,hd⟩:=ht;unfold AG.Dict.pairItems;refine Aa (DW (T:="tuple") ⟨_,ho,hc⟩ ?_)
 wp_walk
 rw [hd];exact Ag (Ag h)
end
section
variable {P:Aw}{w:World}{K:Type}[DecidableEq K]{knd:KeyKind P w K}{A:Around}{R:Result->Gm->Prop}
def tX (acc:List (K×Value))(k:K)(v:Value):(stored acc k v).length<=acc.length+1:=by
 unfold stored;split
 ·rw [Af];lia
 ·rw [Av];exact Aj _
end
section
variable {P:Aw}{w:World}{K:Type}[DecidableEq K]{knd:KeyKind P w K}{A:Around}{E:Ga}{s:Gm}
abbrev nuD:Obj:={ cls:=.type "dict",data:=.dict #[] }
end
end DX
namespace L2
open PySem PySem.Spec PyProof.Rows
section
variable {X:Cx}
def rDictL (K:Ab):Gq->Hp->VK->Prop:=λxs H Q=>∃ (a:Gj) (us:Gq) (kvs:Gp),xs=[.ref a]/\H a=some (.lst us)/\us.length=kvs.length/\(kvs.map (·.1)).Nodup /\
 (∀ (i:Nat) u kv,us[i]?=some u->kvs[i]?=some kv->∃ z,u=.ref z/\H z=some (.tup [kV kv.1,kv.2]))/\∀ p,H p=none->Q (.ref p) (upd H p (.dK kvs))
theorem sY:∀ (kvs acc:Gp),(kvs.map (·.1)).Nodup->(∀ kv∈kvs,∀ kw∈acc,kv.1≠kw.1)->kvs.foldl (λacc kv=>putK acc kv.1 kv.2) acc=acc++kvs
 |[],acc,_,_=>by simp
 |kv::r,acc,nd,h=>by
  rw [Ak] at nd;have nd':=BF.mp nd;have e:putK acc kv.1 kv.2=acc++[kv]:=by
   unfold putK;rw [if_neg];intro z;obtain ⟨kw,hk,e⟩:=List.any_eq_true.mp z;exact h kv (Ar ..) kw hk (of_decide_eq_true e).symm
  rw [Fi,e,sY r (acc++[kv]) nd'.2 λk1 h1 k2 h2=>?_,List.append_assoc]
  ·rfl
  ·rcases AS.mp h2 with h2|h2
   ·exact h k1 (Ah _ h1) k2 h2
   ·rw [AA.mp h2]
    exact λz=>nd'.1 (z▸Bq h1)
theorem yL:∀ {kvs:List (Key×V)} {vs:List (Key×Value)} {acc:List (Key×V)} {bcc:List (Key×Value)},KV kvs vs->KV acc bcc->KV (kvs.foldl (λacc kv=>putK acc kv.1 kv.2) acc) (vs.foldl (λacc kv=>stored acc kv.1 kv.2) bcc)
 |[],[],_,_,_,h=>h
 |kv::r,v::q,acc,bcc,.cons ⟨e,rv⟩ t,h=>by
  have h1:=h.put kv.1 rv;rw [e] at h1;rw [Fi,Fi,e];exact yL t h1
end
end L2
namespace L2.TS
open PySem PySem.Spec PyProof.Rows
abbrev Ky:=List Nat
def yK {a b:Ky}(hn:a≠b)(hl:¬ a<b):b<a:=by
 by_cases hb:b<a
 ·exact hb
 ·exact absurd (ER (List.not_lt.mp hb) (List.not_lt.mp hl)) hn
def ka (f:Gk->Ky)(xs:Array Keyed)(i:Nat):Ky:=(xs[i]?.map λp=>f p.1).getD []
theorem yO {i j:Nat}(e:xs[i]?=ys[j]?):ka f xs i=ka f ys j:=by
 unfold ka;rw [e]
def Up (f:Gk->Ky)(xs:Array Keyed)(n:Nat):Prop:=∀ i j,i<j->j<n->ka f xs i<ka f xs j
def Dn (f:Gk->Ky)(xs:Array Keyed)(n:Nat):Prop:=∀ i j,i<j->j<n->ka f xs j<ka f xs i
def Df (f:Gk->Ky)(xs:List Keyed):Prop:=xs.Pairwise λp q=>f p.1≠f q.1
structure Sb (f:Gk->Ky)(kd:SortKind)(o:Array Keyed)(st:SortSt):Prop where
 pm:(arrOf st).Perm o
 kn:kindOf st=kd
 fl:failedOf st=none
 pe:pendingOf st=#[]
 df:Df f (arrOf st).toList
section
variable {prog:Aw}{w:World}{A:Around}{E:Ga}{s:Gm}{o:Array Keyed}{f:Gk->Ky}{kd:SortKind}
theorem Sb.sz {st:SortSt}(b:Sb f kd o st):(arrOf st).size=o.size:=b.pm.size_eq
def Sb.put {st:SortSt}(b:Sb f kd o st)(p:xs.Perm (arrOf st)):Sb f kd o (setArr st xs):=
 ⟨p.trans b.pm,b.kn,b.fl,b.pe,((DT.mp p).symm.pairwise_iff λh=>Bi h).mp b.df⟩
theorem Sb.ne {st:SortSt}(b:Sb f kd o st){i j:Nat}(hi:i<o.size)(hj:j<o.size)(hij:i≠j):ka f (arrOf st) i≠ka f (arrOf st) j:=by
 have h:=Dg.mp b.df;have hi':i<(arrOf st).size:=by rw [b.sz];exact hi
 have hj':j<(arrOf st).size:=by rw [b.sz];exact hj
 have e1:ka f (arrOf st) i=f (arrOf st)[i].1:=by unfold ka;rw [getElem?_pos (arrOf st) i hi'];rfl
 have e2:ka f (arrOf st) j=f (arrOf st)[j].1:=by unfold ka;rw [getElem?_pos (arrOf st) j hj'];rfl
 rw [e1,e2]
 rcases Nat.lt_or_gt_of_ne hij with l|l
 ·exact h i j (by simpa using hi') (by simpa using hj') l
 ·exact (h j i (by simpa using hj') (by simpa using hi') l).symm
def Cmp (prog:Aw)(w:World)(A:Around)(s:Gm)(kd:SortKind)(f:Gk->Ky)(o:Array Keyed):Prop:=
 ∀ (p q:Keyed) (E:Ga) (Q:Bool->Gm->Prop),p∈o.toList->q∈o.toList->f p.1≠f q.1->Q (decide (f p.1<f q.1)) s->wpAny (model prog w) A (keyLt' kd p.1 q.1) Q E s
def yI (C:Cmp prog w A s kd f o){st:SortSt}(b:Sb f kd o st){i j:Nat}(hi:i<o.size)(hj:j<o.size)(hij:i≠j)(h:Q (some (decide (ka f (arrOf st) i<ka f (arrOf st) j))) st):wpS (model prog w) A E s (ltAt' i j) Q st:=by
 have hd:=b.ne hi hj hij;have hi':i<(arrOf st).size:=by rw [b.sz];exact hi
 have hj':j<(arrOf st).size:=by rw [b.sz];exact hj
 have g1:(arrOf st)[i]?=some (arrOf st)[i]:=getElem?_pos _ i hi';have g2:(arrOf st)[j]?=some (arrOf st)[j]:=getElem?_pos _ j hj';have m1:(arrOf st)[i]∈o.toList:=(DT.mp b.pm).mem_iff.mp (Array.getElem_mem_toList _);have m2:(arrOf st)[j]∈o.toList:=(DT.mp b.pm).mem_iff.mp (Array.getElem_mem_toList _);have k1:ka f (arrOf st) i=f (arrOf st)[i].1:=by unfold ka;rw [g1];rfl
 have k2:ka f (arrOf st) j=f (arrOf st)[j].1:=by unfold ka;rw [g2];rfl
 rw [k1,k2] at h hd;rw [ltAt'_eq];refine BQ (wpS_get ?_);dsimp only;rw [elem'_eq,elem'_eq,g1,g2];refine BQ (CZ (BQ (CZ ?_)));rw [lt'_eq];refine BQ (wpS_get ?_);rw [b.kn];exact BQ (wpS_lift (DE (C _ _ _ _ m1 m2 hd ⟨rfl,CZ h⟩)))
def aFy :Up f xs 1:=λi j h1 h2=>by lia
def asc (C:Cmp prog w A s kd f o){st:SortSt}(b:Sb f kd o st){a r:Nat}(hr:r<=o.size)(ha:1<=a)(har:a<=r)(hs:Up f (arrOf st) a){Q:AscSt->SortSt->Prop}
  (h:∀ n,a<=n->n<=r->Up f (arrOf st) n->(n=r\/ka f (arrOf st) n<ka f (arrOf st) (n-1))->Q (none,n) st):wpS (model prog w) A E s (ascLoop a r) Q st:=by
 unfold ascLoop;refine wpS_forRange (I:=λx c u=>u=st/\c=(none,x)/\Up f (arrOf st) x) (λx c u h1 h2 h3=>?_) (λc u h3=>?_) ⟨rfl,rfl,hs⟩
 ·obtain ⟨rfl,rfl,up⟩:=h3
  refine BQ (yI C b (by lia) (by lia) (by lia) ?_)
  by_cases l:ka f (arrOf u) x<ka f (arrOf u) (x-1)
  ·simp only [l,decide_true,if_true]
   exact CZ (h x h1 (by lia) up (.inr l))
  ·simp only [l,decide_false,Dd,if_false]
   have l':=yK (b.ne (by lia) (by lia) (by lia)) l;refine CZ ⟨rfl,rfl,λi j hij hj=>?_⟩
   by_cases jx:j<x
   ·exact up i j hij jx
   ·obtain rfl:j=x:=by lia
    by_cases ix:i=j-1
    ·rw [ix];exact l'
    ·exact List.lt_trans (up i (j-1) (by lia) (by lia)) l'
 ·obtain ⟨rfl,rfl,up⟩:=h3
  rw [show max a r=r by lia] at up ⊢;exact h r har (Aj _) up (.inl rfl)
theorem nU {n:Nat}(hn:n<=xs.size)(k:Nat):ka f (mirror xs 0 n ((n-0)/2)) k=if k<n then ka f xs (n-1-k) else ka f xs k:=by
 have e:=getElem?_mirror_all (i:=0) hn k
 by_cases l:k<n
 ·rw [if_pos ⟨Bu _,l⟩] at e
  rw [if_pos l,yO e,Nat.zero_add]
 ·rw [if_neg λq=>l q.2] at e
  rw [if_neg l,yO e]
def tail (C:Cmp prog w A s kd f o){st:SortSt}(b:Sb f kd o st){n r:Nat}(hr:r<=o.size)(h1:1<=n)(hn:n<=r)(hs:Dn f (arrOf st) n)(h:∀ m u,Sb f kd o u->1<=m->m<=r->Up f (arrOf u) m->Q (some m) u):wpS (model prog w) A E s (tail3 n r) Q st:=by
 unfold tail3;have z:n<=(arrOf st).size:=by rw [b.sz];lia
 refine BQ (wpS_reverse ?_);have b':=b.put (mirror_perm (arrOf st) 0 n ((n-0)/2));refine BQ (asc C b' hr h1 hn (λi j hij hj=>?_) λm q1 q2 q3 _=>CZ (h m _ b' (by lia) q2 q3));show ka f (mirror _ 0 n _) i<ka f (mirror _ 0 n _) j;rw [nU z,nU z,if_pos (by lia),if_pos hj];exact hs _ _ (by lia) (by lia)
def desc (C:Cmp prog w A s kd f o){st:SortSt}(b:Sb f kd o st){n r:Nat}(hr:r<=o.size)(h1:1<=n)(hn:n<=r)(hs:Dn f (arrOf st) n){Q:DescSt->SortSt->Prop}
  (h:∀ m,n<=m->m<=r->Dn f (arrOf st) m->Q (none,m,0) st):wpS (model prog w) A E s (descLoop n r) Q st:=by
 unfold descLoop;refine wpS_forRange (I:=λx c u=>u=st/\c=(none,x,0)/\Dn f (arrOf st) x) (λx c u q1 q2 q3=>?_) (λc u q3=>?_) ⟨rfl,rfl,hs⟩
 ·obtain ⟨rfl,rfl,dn⟩:=q3
  dsimp only;refine BQ (yI C b (by lia) (by lia) (by lia) ?_)
  by_cases l:ka f (arrOf u) x<ka f (arrOf u) (x-1)
  ·simp only [l,decide_true,if_true,gt_iff_lt,Cw,if_false]
   refine CZ ⟨rfl,rfl,λi j hij hj=>?_⟩
   by_cases jx:j<x
   ·exact dn i j hij jx
   ·obtain rfl:j=x:=by lia
    by_cases ix:i=j-1
    ·rw [ix];exact l
    ·exact List.lt_trans l (dn i (j-1) (by lia) (by lia))
  ·simp only [l,decide_false,Dd,if_false]
   have l':=yK (b.ne (by lia) (by lia) (by lia)) l;refine BQ (yI C b (by lia) (by lia) (by lia) ?_);simp only [l',decide_true,if_true];exact CZ (h x q1 (by lia) dn)
 ·obtain ⟨rfl,rfl,dn⟩:=q3
  rw [show max n r=r by lia] at dn ⊢;exact h r hn (Aj _) dn
def count (C:Cmp prog w A s kd f o){st:SortSt}(b:Sb f kd o st){r:Nat}(hr:r<=o.size)(h1:1<=r)(h:∀ m u,Sb f kd o u->1<=m->m<=r->Up f (arrOf u) m->Q (some m) u):wpS (model prog w) A E s (countRun' 0 r) Q st:=by
 rw [countRun0_eq];refine BQ (asc C b hr (Aj 1) h1 aFy λn q1 q2 up or=>?_);dsimp only
 by_cases nr:n=r
 ·rw [if_pos (by simpa using nr)]
  exact CZ (h n st b q1 q2 up)
 ·rw [if_neg (by simpa using nr)]
  by_cases n1:n > 1
  ·rw [if_pos n1]
   refine BQ (yI C b (by lia) (by lia) (by lia) ?_);have l:=up 0 (n-1) (by lia) (by lia);simp only [l,decide_true,if_true];exact CZ (h n st b q1 q2 up)
  ·rw [if_neg n1]
   obtain rfl:n=1:=by lia
   have l:=or.resolve_left nr;unfold descPart;refine BQ (wpS_lift (Dw ⟨rfl,?_⟩));refine BQ (desc C b hr (by lia) (by lia) (λi j hij hj=>?_) λm p1 p2 dn=>?_)
   ·obtain rfl:i=0:=by lia
    obtain rfl:j=1:=by lia
    exact l
   ·simp only [gt_iff_lt,Cw,if_false]
    exact tail C b hr (by lia) p2 dn h
theorem nV {k l:Nat}(hk:k<xs.size)(hl:l<=k)(i:Nat):ka f (bubble xs k (k-l)) i=if i=l then ka f xs k else if l<i/\i<=k then ka f xs (i-1) else ka f xs i:=by
 have e:=getElem?_bubble hk (k-l) (Nat.sub_le _ _) i;rw [show k-(k-l)=l by lia] at e
 by_cases c1:i=l
 ·rw [if_pos c1] at e ⊢;exact yO e
 ·rw [if_neg c1] at e ⊢
  by_cases c2:l<i/\i<=k
  ·rw [if_pos c2] at e ⊢;exact yO e
  ·rw [if_neg c2] at e ⊢;exact yO e
end
section
variable {prog:Aw}{w:World}{A:Around}{E:Ga}{s:Gm}{o:Array Keyed}{f:Gk->Ky}{kd:SortKind}
def At (f:Gk->Ky)(xs:Array Keyed)(k l r:Nat):Prop:=(∀ i,i<l->ka f xs i<ka f xs k)/\∀ i,r<=i->i<k->ka f xs k<ka f xs i
def aFx {k l:Nat}(hk:k<xs.size)(hl:l<=k)(up:Up f xs k)(a:At f xs k l l):Up f (bubble xs k (k-l)) (k+1):=by
 intro i j hij hj;rw [nV hk hl,nV hk hl]
 by_cases c1:i=l
 ·subst c1
  rw [if_pos rfl,if_neg (by lia),if_pos (by lia)];exact a.2 _ (by lia) (by lia)
 ·rw [if_neg c1]
  by_cases c2:j=l
  ·subst c2
   rw [if_pos rfl,if_neg (by lia)];exact a.1 _ hij
  ·rw [if_neg c2]
   by_cases c3:l<i/\i<=k
   ·rw [if_pos c3,if_pos (by lia)]
    exact up _ _ (by lia) (by lia)
   ·rw [if_neg c3]
    by_cases c4:l<j/\j<=k
    ·rw [if_pos c4]
     exact up _ _ (by lia) (by lia)
    ·rw [if_neg c4]
     exact up _ _ hij (by lia)
def binary (C:Cmp prog w A s kd f o){st:SortSt}(b:Sb f kd o st){n m:Nat}(hn:n<=o.size)(hm:m<=n)(hs:Up f (arrOf st) m){Q:Bool->SortSt->Prop}
  (h:∀ u,Sb f kd o u->Up f (arrOf u) n->Q true u):wpS (model prog w) A E s (binarySort' 0 n m) Q st:=by
 rw [binarySort'_eq];simp only [Nat.zero_add];refine BQ (wpS_mono (wpS_forRange (I:=λk c u=>c=(none,())/\Sb f kd o u/\Up f (arrOf u) (min k n)) (Q:=λc u=>c=(none,())/\Sb f kd o u/\Up f (arrOf u) n)
  (λk c u q1 q2 q3=>?_) (λc u q3=>?_) ⟨rfl,b,λi j hij hj=>hs i j hij (by lia)⟩) λc u q=>?_)
 ·obtain ⟨rfl,b',up⟩:=q3
  rw [show min k n=k by lia] at up;have ko:k<o.size:=by lia
  refine BQ (wpS_mono (wpS_forRange (I:=λx c v=>v=u/\∃ l r,c=(none,l,r)/\l<=r/\r<=k/\r-l<=k-x/\At f (arrOf u) k l r) (Q:=λc v=>v=u/\∃ l r,c=(none,l,r)/\l<=k/\At f (arrOf u) k l l)
   (λx c v p1 p2 p3=>?_) (λc v p3=>?_) ⟨rfl,0,k,rfl,by lia,by lia,by lia,λi hi=>by lia,λi g1 g2=>by lia⟩) λc v p=>?_)
  ·obtain ⟨rfl,l,r,rfl,g1,g2,g3,a1,a2⟩:=p3
   dsimp only
   by_cases lr:l ≥ r
   ·rw [if_pos lr]
    obtain rfl:l=r:=by lia
    exact CZ ⟨rfl,l,l,rfl,g2,a1,a2⟩
   ·rw [if_neg lr]
    refine BQ (yI C b' ko (by lia) (by lia) ?_)
    by_cases ls:ka f (arrOf v) k<ka f (arrOf v) ((l+r)/2)
    ·simp only [ls,decide_true,if_true]
     refine CZ ⟨rfl,l,(l+r)/2,rfl,by lia,by lia,by lia,a1,λi t1 t2=>?_⟩
     by_cases im:i=(l+r)/2
     ·rw [im];exact ls
     ·exact List.lt_trans ls (up _ _ (by lia) t2)
    ·simp only [ls,decide_false,Dd,if_false]
     have ls':=yK (b'.ne ko (by lia) (by lia)) ls;refine CZ ⟨rfl,(l+r)/2+1,r,rfl,by lia,by lia,by lia,λi t1=>?_,a2⟩
     by_cases im:i=(l+r)/2
     ·rw [im];exact ls'
     ·exact List.lt_trans (up _ _ (by lia) (by lia)) ls'
  ·obtain ⟨rfl,l,r,rfl,g1,g2,g3,a1⟩:=p3
   obtain rfl:l=r:=by lia
   exact ⟨rfl,l,l,rfl,g2,a1⟩
  ·obtain ⟨rfl,l,r,rfl,g2,a1⟩:=p
   dsimp only;rw [moveDown'_eq];refine BQ (wpS_modify (CZ ⟨rfl,b'.put (bubble_perm _ _ _),?_⟩));rw [show min (k+1) n=k+1 by lia];exact aFx (by rw [b'.sz];exact ko) g2 up a1
 ·obtain ⟨rfl,b',up⟩:=q3
  rw [show min (max (max m 1) n) n=n by lia] at up;exact ⟨rfl,b',up⟩
 ·obtain ⟨rfl,b',up⟩:=q
  exact CZ (h u b' up)
def Dne (f:Gk->Ky)(o:Array Keyed)(st:SortSt):Prop:=(arrOf st).Perm o/\failedOf st=none/\(pendingOf st).size=1/\Up f (arrOf st) o.size
theorem Sb.dne {st:SortSt}(b:Sb f kd o st)(up:Up f (arrOf st) o.size):Dne f o (setPending st ((pendingOf st).push x)):=
 ⟨b.pm,b.fl,by show ((pendingOf st).push x).size=1;rw [b.pe];rfl,up⟩
def runs (C:Cmp prog w A s kd f o){st:SortSt}(b:Sb f kd o st)(h2:2<=o.size)(h64:o.size<64)(h:∀ u,(arrOf u).Perm o->failedOf u=none->Up f (arrOf u) o.size->Q () u):wpS (model prog w) A E s sortRuns' Q st:=by
 rw [sortRuns'_eq];refine BQ (wpS_get ?_);dsimp only;have mr:minRun' o.size o.size 0=o.size:=by
  generalize hz:o.size=z at h2 h64;cases z with
  |zero=>lia
  |succ z=>rw [minRun'_succ,if_pos h64]
 simp only [b.sz,mr];refine BQ (wpS_mono (wpS_forRange (I:=λx c u=>(x=0/\c=(none,0)/\Sb f kd o u)\/(0<x/\c=(none,o.size)/\Dne f o u)) (Q:=λc u=>c=(none,o.size)/\Dne f o u)
  (λx c u q1 q2 q3=>?_) (λc u q3=>?_) (.inl ⟨rfl,rfl,b⟩)) λc u q=>?_)
 ·rcases q3 with ⟨rfl,rfl,b'⟩|⟨x1,rfl,d⟩
  ·dsimp only
   rw [if_neg (by lia)];simp only [Nat.sub_zero,Nat.min_self,Nat.zero_add];refine BQ (count C b' (Aj _) (by lia) λm v b2 m1 m2 up=>?_);dsimp only
   by_cases lt:m<o.size
   ·rw [if_pos lt]
    refine BQ (wpS_lift (Dw ⟨rfl,?_⟩));refine BQ (binary C b2 (Aj _) m2 up λv3 b3 up3=>?_);simp only [Bool.not_true,Dd,if_false];refine BQ (wpS_get ?_);rw [show (pendingOf v3).back?=none by rw [b3.pe];rfl];exact BQ (wpS_modify (CZ (.inr ⟨by lia,rfl,b3.dne up3⟩)))
   ·rw [if_neg lt]
    obtain rfl:m=o.size:=by lia
    refine BQ (wpS_get ?_);rw [show (pendingOf v).back?=none by rw [b2.pe];rfl];exact BQ (wpS_modify (CZ (.inr ⟨by lia,rfl,b2.dne up⟩)))
  ·dsimp only
   rw [if_pos (Aj _)];exact CZ ⟨rfl,d⟩
 ·rcases q3 with ⟨x0,_,_⟩|⟨_,e,d⟩
  ·lia
  ·exact ⟨e,d⟩
 ·obtain ⟨rfl,d⟩:=q
  dsimp only;refine BQ (wpS_mono (wpS_forRange (I:=λ_ c v=>v=u/\c=(none,())) (Q:=λc v=>v=u/\c=(none,())) (λx c v p1 p2 p3=>?_) (λ_ _ p=>p) ⟨rfl,rfl⟩) λc v p=>?_)
  ·obtain ⟨rfl,rfl⟩:=p3
   refine BQ (wpS_get ?_);rw [if_pos (by rw [d.2.2.1];exact Aj 1)];exact CZ ⟨rfl,rfl⟩
  ·obtain ⟨rfl,rfl⟩:=p
   exact CZ (h _ d.1 d.2.1 d.2.2.2)
end
def Tp (h:Heap)(nm:Gk->Str)(v:Gk):Prop:=∃ a o xs n t r,v=.ref a/\h.get? a=some o/\o.cls=.type "tuple" /\ o.data=.seq xs n/\xs.toList=.str (nm v) t::r
def Tp.keep {h h':Heap}{nm:Gk->Str}{v:Gk}{a:Gj}{its:Array Gk}{m:Nat}(t:Tp h nm v)(ha:h.get? a=some (seqObj "list" its m))(k:∀ b o,b≠a->h.get? b=some o->h'.get? b=some o):Tp h' nm v:=by
 obtain ⟨b,o,xs,n,t,r,e,ho,hc,hd,hx⟩:=t;refine ⟨b,o,xs,n,t,r,e,k b o ?_ ho,hc,hd,hx⟩
 rintro rfl
 rw [ho] at ha;obtain rfl:=AF ha;exact absurd (show CW "list" = CW "tuple" from hc) (by simp)
def aC1 {h:Heap}{nm:Gk->Str}:∀ (vs:Gi),(∀ v∈vs,Tp h nm v)->∃ fs,PySem.W.KatTups h vs fs/\fs.length=vs.length/\∀ v∈fs,∃ x t,v=.str x t
 |[],_=>⟨[],trivial,rfl,λv h=>nomatch h⟩
 |v::vs,H=>by
  obtain ⟨fs,k,l,e⟩:=aC1 vs λu hu=>H u (Ah _ hu);obtain ⟨a,o,xs,n,t,r,rfl,ho,hc,hd,hx⟩:=H v (Ar ..);refine ⟨_::fs,PySem.W.KatTups.cons ho hc hd (f:=.str (nm (.ref a)) t) ?_ k,by simp [l],?_⟩
  ·rw [<- Bd,hx];rfl
  ·intro u hu
   rcases Ay.mp hu with rfl|hu
   ·exact ⟨_,_,rfl⟩
   ·exact e u hu
theorem oT:∀ vs:Gi,vs.zip vs=vs.map λv=>(v,v)
 |[]=>rfl
 |v::vs=>by rw [BV,oT vs,Ak]
def aDq {x y:Str}(h:x.cps.toList=y.cps.toList):x=y:=by
 cases x;cases y
 simpa using h
section
variable {prog:Aw}{w:World}{A:Around}{E:Ga}{s:Gm}{nm:Gk->Str}{vs:Gi}
abbrev kf (nm:Gk->Str):Gk->Ky:=λv=>(nm v).cps.toList
theorem kind {Q:SortKind->Gm->Prop}(h0:0<vs.length)(T:∀ v∈vs,Tp s.heap nm v)(h:Q (tuples' true) s):wpAny (model prog w) A (keyKind' vs.toArray) Q E s:=by
 obtain ⟨fs,k,l,e⟩:=aC1 vs T;refine PySem.W.kat_kind (T:=.type "str") k (by lia) (λv hv=>?_) (by decide) ?_
 ·obtain ⟨x,t,rfl⟩:=e v hv
  exact PySem.W.Looks.now
 ·have hb:(CW "str" != CW "tuple")=true:=by decide
  rw [hb];exact h
def cmp (T:∀ v∈vs,Tp s.heap nm v):Cmp prog w A s (tuples' true) (kf nm) (pairsOf vs):=by
 intro p q E Q hp hq hn h;have m:∀ p∈(pairsOf vs).toList,p.1∈vs:=λp hp=>by rw [pairsOf_toList] at hp;exact (Ep hp).1
 obtain ⟨a,o,xs,n,t,r,ea,ho,hc,hd,hx⟩:=T _ (m p hp);obtain ⟨b,o',ys,n',t',r',eb,ho',hc',hd',hy⟩:=T _ (m q hq);have ne:nm p.1≠nm q.1:=λz=>hn (by show (nm p.1).cps.toList=_;rw [z]);rw [show keyLt' (tuples' true) p.1 q.1=keyLt' (tuples' true) (.ref a) (.ref b) by rw [ea,eb]];refine PySem.W.kat_lt ho hd ho' hd' ?_;rw [hx,hy,BV];refine PySem.W.kat_cons (wpAny_eqBool_str ?_);rw [decide_eq_false ne];exact PySem.W.kat_no (oneLt_str h)
def aG6 (hp:xs.Perm (pairsOf vs))(hu:Up f xs (pairsOf vs).size):(xs.map (·.2)).toList.Perm vs/\(xs.map (·.2)).toList.Pairwise λu v=>f u<f v:=by
 have hl:=DT.mp hp;rw [pairsOf_toList,oT] at hl;have same:∀ p∈xs.toList,p.1=p.2:=λp h=>by
  obtain ⟨v,_,rfl⟩:=AE.mp (hl.mem_iff.mp h);rfl
 refine ⟨?_,?_⟩
 ·rw [Array.toList_map]
  refine (hl.map (·.2)).trans ?_;rw [Ce,show ((λp:Keyed=>p.2) ∘ λv:Gk=>(v,v))=id from rfl,List.map_id]
 ·rw [Array.toList_map,Cu,Dg]
  intro i j hi hj hij;rw [<- same _ (DB hi),<- same _ (DB hj)];have hi':i<xs.size:=by simpa using hi
  have hj':j<xs.size:=by simpa using hj
  have g:=hu i j hij (by rw [<- hp.size_eq];exact hj');have e1:ka f xs i=f xs[i].1:=by unfold ka;rw [getElem?_pos xs i hi'];rfl
  have e2:ka f xs j=f xs[j].1:=by unfold ka;rw [getElem?_pos xs j hj'];rfl
  rw [e1,e2] at g
  simpa using g
def sort_tup {a:Gj}{n:Nat}{R:PySem.Fin->Gm->Prop}(ho:s.heap.get? a=some (seqObj "list" vs.toArray n))(T:∀ v∈vs,Tp s.heap nm v)(D:vs.Pairwise λu v=>nm u≠nm v)(h64:vs.length<64)
  (h:∀ out:Gi,out.Perm vs->(out.Pairwise λu v=>kf nm u<kf nm v)->R (.done (.ret .none)) { s with heap:=sortedHeap s.heap a vs out.toArray }):wpAny (model prog w) A (AG.«list.sort» ⟨[.ref a],[]⟩) R E s:=by
 have fin:∀ xs:Array Keyed,xs.Perm (pairsOf vs)->Up (kf nm) xs (pairsOf vs).size->R (.done (.ret .none)) { s with heap:=sortedHeap s.heap a vs (xs.map (·.2)) }:=λxs hp hu=>by
  obtain ⟨q1,q2⟩:=aG6 hp hu;have e:=h _ q1 q2;rw [ET] at e;exact e
 rw [list_sort_plain];have lt:a<s.heap.objs.size:=Ao ho;refine Aa (listItems_at ho rfl (Aa (listUpdate_at ho rfl ?_)));obtain ⟨e1,o1⟩:∃ e1,(s.heap.update a (DU λ_=>#[])).get? a=some (seqObj "list" #[] e1):=⟨_,get?_update_seq ho (λ_=>#[])⟩;refine Aa (seqEpoch_at o1 rfl (Aa (wpAny_newTuple (Aa (wpAny_newList (Br ?_))))));show wpAny (model prog w) A _ R E { s with heap:=((s.heap.update a (DU λ_=>#[])).push (seqObj "tuple" vs.toArray 0)).push (seqObj "list" #[] 0) };generalize hg:((s.heap.update a (DU λ_=>#[])).push (seqObj "tuple" vs.toArray 0)).push (seqObj "list" #[] 0)=g;have keep:∀ b o,b≠a->s.heap.get? b=some o->g.get? b=some o:=λb o nb hb=>by
  have l:=Ao hb;rw [<- hg,DS _ _ _ (by rw [size_push',Heap.size_update];exact As (Cg l)),DS _ _ _ (by rw [Heap.size_update];exact As l),Heap.get?_update_ne _ _ _ _ nb];exact hb
 have o6:g.get? a=some (seqObj "list" #[] e1):=by
  rw [<- hg,DS _ _ _ (by rw [size_push',Heap.size_update];exact As (Cg lt)),DS _ _ _ (by rw [Heap.size_update];exact As lt)];exact o1
 have T':∀ v∈vs,Tp g nm v:=λv hv=>(T v hv).keep ho keep;have fin':∀ xs:Array Keyed,xs.Perm (pairsOf vs)->Up (kf nm) xs (pairsOf vs).size->R (.done (.ret .none)) { s with heap:=g.update a (DU λ_=>xs.map (·.2)) }:=λxs hp hu=>by
  rw [<- hg];exact fin xs hp hu
 dsimp only;have z:vs.toArray.size=vs.length:=by simp
 by_cases h2:vs.toArray.size<2
 ·rw [if_pos h2,if_pos h2]
  refine Aa (Ag ?_);rw [StateT.run_pure];refine Aa (Ag ?_);dsimp only;refine Aa (seqEpoch_at o6 rfl (Aa (listUpdate_at o6 rfl ?_ (hsz2:=by rw [Array.size_map];show (pairsOf vs).size<=_;rw [pairsOf_size,sizeLine_eq];lia))));simp only [bne_self_eq_false,Dd,if_false];refine Ag (fin' (vs.toArray.zip vs.toArray) (Array.Perm.refl _) λi j q1 q2=>?_);rw [pairsOf_size] at q2;lia
 ·rw [if_neg h2,if_neg h2]
  refine Aa (kind (by lia) T' ?_);refine Aa (BR (runs (kd:=tuples' true) (f:=kf nm) (o:=pairsOf vs) (st:=SortSt.mk' (tuples' true) (vs.toArray.zip vs.toArray) #[] 7 none) (Q:=λ_ st=>(arrOf st).Perm (pairsOf vs)/\failedOf st=none/\Up (kf nm) (arrOf st) (pairsOf vs).size)
   (cmp T') ⟨Array.Perm.refl _,rfl,rfl,rfl,?_⟩ (by rw [pairsOf_size];lia) (by rw [pairsOf_size];exact h64) λst x1 x2 x3=>⟨x1,x2,x3⟩) ?_ λ_ _ e=>e)
  ·show Df (kf nm) (pairsOf vs).toList
   rw [pairsOf_toList,oT];exact Cu.mpr (D.imp λne z=>ne (aDq z))
  ·rintro ⟨⟨⟩,st⟩ s' ⟨rfl,hp,hf,hs⟩
   dsimp only;refine Aa (seqEpoch_at o6 rfl (Aa (listUpdate_at o6 rfl ?_ (hsz2:=by refine AR (Nat.le_of_eq ((Array.size_map ..).trans (hp.size_eq.trans (pairsOf_size _)))) ?_;rw [sizeLine_eq];lia))));rw [hf];simp only [bne_self_eq_false,Dd,if_false];exact Ag (fin' _ hp hs)
end
end L2.TS
namespace L2
open PySem PySem.Spec PyProof.Rows
def nmH (H:Hp)(a:Gj):Str:=match H a with
 |some (.tup (.str x::_))=>x
 |_=>⟨#[]⟩
def nmV (H:Hp):Gk->Str
 |.ref a=>nmH H a
 |_=>⟨#[]⟩
theorem mU:∀ as:List Gj,Vals (as.map V.ref) (as.map AC)
 |[]=>.nil
 |_::as=>.cons rfl (mU as)
def adOf:Gk->Gj
 |.ref a=>a
 |_=>0
def rSortT (K:Ab):Gq->Hp->VK->Prop:=λxs H Q=>∃ a as,xs=[.ref a]/\SqL K H a (as.map V.ref)/\as.length<64/\(∀ q∈as,∃ x r,H q=some (.tup (.str x::r)))/\(as.map (nmH H)).Nodup /\
 ∀ (p:Gj) (as':List Gj),as'.Perm as->(as'.Pairwise λu v=>(nmH H u).cps.toList<(nmH H v).cps.toList)->H p=none->Q (.ref p) (upd H p (.lst (as'.map V.ref)))
def Ite (K:Ab)(b:Gj):It:=
  ⟨λi H=>∃ ys,SqL K H b ys/\i<ys.length,
   λi H v H'=>∃ T,H T=none/\v=.ref T/\∀ ys,SqL K H b ys->∃ y,ys[i]?=some y/\H'=upd H T (.tup [.int i,y]),
   λi H=>∃ ys,SqL K H b ys/\i=ys.length⟩
def aJm (n b:Nat)(i:Nat)(h:Heap):Prop:=(∃ old,IsEnum h (n+1) n (i:Int) old)/\h.IsListIter n b i
def vF {P:Aw}{w:World}{K:Ab}{es:List Expr}{k1:Nat}{p1:Pos}{n b:Nat}(hb:b<n):Turn P w K (.Tuple es k1 p1) (Ite K b) [n+1,n] (n+1) (aJm n b) where
 mem:=by simp
 obj:=λi h st c hc=>by
  obtain ⟨⟨old,c1⟩,⟨o5,d5,_,f5⟩⟩:=st;have hc':c=n+1\/c=n:=by simpa using hc
  rcases hc' with e|e
  ·subst e;exact ⟨_,c1,λv z=>by cases z⟩
  ·subst e;exact ⟨_,d5,λv z=>by rw [f5] at z;cases z⟩
 keep:=λi h h' st k=>by
  obtain ⟨⟨old,c1⟩,c5⟩:=st;exact ⟨⟨old,k _ (by simp) _ c1⟩,c5.at λo e=>k _ (by simp) o e⟩
 item:=by
  intro X hP hw hK hc i U s Z H E I hf st hg;subst hP hw hK;obtain ⟨ys,hy,l2⟩:=hg;obtain ⟨its',r2,ty,_⟩:=I.list hy;have e2:=r2.length;obtain ⟨⟨old,c1⟩,c5⟩:=st;obtain ⟨vy,hvy⟩:∃ v,ys[i]?=some v:=⟨_,Ae l2⟩;obtain ⟨uy,huy,ry⟩:=r2.get hvy;refine wpAny_pyNext_enum_item (x:=uy) c1 c5 (dU ty) (by rw [<- Bd,Fe];exact huy) (by show (_:Nat)≠_;lia) λg cz s2 cT sz kp=>⟨.ref s.heap.objs.size,rfl,?_⟩;refine wpAny_letOwnedTupleGo_enum (s:={ s with heap:=g,toks:=s.toks+1 }) cz λg' cz' sb=>?_;have hfr:H s.heap.objs.size=none:=I.hok.fresh (Aj _);have I0:Inv X U Z (upd H s.heap.objs.size (.tup [.int i,vy])) { s with heap:=s.heap.push { cls:=.type "tuple",data:=.seq #[.int i s.toks,uy] },toks:=s.toks+1 }:=
   I.laid (λc u q=>Ac _ q) (Aj _) ⟨⟨by show 2<=Au;decide,_,Ai s.heap rfl,rfl⟩,[.int i s.toks,uy],.cons ⟨_,rfl⟩ (.cons ry .nil),⟨_,Ai s.heap rfl,rfl,_,rfl⟩⟩
  have lz:n+1<s.heap.objs.size:=Ao c1;have fpn:∀ c∈[n+1,n],c≠s.heap.objs.size:=λc hc'=>by
   have hc'':c=n+1\/c=n:=by simpa using hc'
   rcases hc'' with e|e<;>(subst e;exact As (by lia))
  have hf0:∀ c∈[n+1,n],FpOk X U (upd H s.heap.objs.size (.tup [.int i,vy])) c:=λc hc'=>⟨by rw [aK (fpn c hc')];exact (hf c hc').1,(hf c hc').2⟩;have I1:Inv X U Z (upd H s.heap.objs.size (.tup [.int i,vy])) { s with heap:=g',toks:=s.toks+1 }:=by
   refine Inv.turnedL (s:={ s with heap:=s.heap.push { cls:=.type "tuple",data:=.seq #[.int i s.toks,uy] },toks:=s.toks+1 }) (h':=g') (t':=s.toks+1) (ch:=[n+1,n]) I0 (λc o hc' e=>?_) hf0;replace e:(s.heap.push { cls:=.type "tuple",data:=.seq #[.int i s.toks,uy] }).get? c=some o:=e;have hn:∀ d∈[n+1,n],c≠d:=λd hd z=>hc' (by rw [z];exact hd);refine sb.extBut _ _ (hn _ (by simp)) ?_
   by_cases ec:c=s.heap.objs.size
   ·rw [ec] at e ⊢
    rw [Ai s.heap rfl] at e;cases e;exact cT
   ·rw [DS _ _ _ ec] at e
    exact kp c o (hn _ (by simp)) (hn _ (by simp)) e
  refine ⟨.ref s.heap.objs.size,_,I1,rfl,⟨_,hfr,rfl,λys' hy'=>⟨vy,by rw [I.list_inj hy' hy];exact hvy,rfl⟩⟩,?_,λc hc'=>(hf0 c hc').1⟩;exact ⟨⟨uy,cz'⟩,s2.extBut sb.extBut (As (Cd n))⟩
 done:=by
  intro X hP hw hK hc i U s Z H E I hf st hg;subst hP hw hK;obtain ⟨ys,hy,l⟩:=hg;obtain ⟨its',r2,ty,_⟩:=I.list hy;have e2:=r2.length;obtain ⟨⟨old,c1⟩,c5⟩:=st;have hh:X.A.handled=none:=I.ok.hd hc;refine wpAny_pyNext_enum_end hh c1 c5 (dU ty) (by rw [<- Bd,Fe];exact AY (by lia)) λg kp=>⟨rfl,I.turnedL (t':=s.toks) (ch:=[n+1,n]) (λc o hc' e=>?_) hf⟩;exact kp c o (λz=>hc' (by rw [z];simp)) e
 self:=λ_ _ _ _ _ st h=>let ⟨⟨_,c1⟩,_⟩:=st;wpAny_pyIter_enum c1 h
def iEnu (K:Ab)(ta:TA):TI:=λZ H R=>ta Z H λvs H1=>∃ b,vs=[.ref b]/\(∃ ys,SqL K H1 b ys)/\R (Ite K b) H1
def oI:BZ "enumerate" = some (.type "enumerate"):=by decide +kernel
def aEm {X:Cx}{es:List Expr}{k1:Nat}{p1:Pos}{e1:Expr}{ta:TA}{p pos:Pos}(hg:Gl X "enumerate")(hm:X.mg "enumerate" = none)(ha:PA X [e1] ta)(hs:AL [e1] X.env=[(false,eval e1 X.env)]:=by rfl) :
  PI X (.Tuple es k1 p1) (.Call (.Name "enumerate" p) [e1] [] pos) (iEnu X.K ta):=by
 intro U s Z H R I h;refine Call_ (iJ I hg hm oI (CB (thn (ha pos U s Z H _ I h) λus s1 ⟨vs,H1,I1,r1,q1⟩=>?_) hs rfl));obtain ⟨b,rfl,⟨ys,hy⟩,q⟩:=q1;cases r1 with
 |cons r rr=>
  cases rr;cases r;obtain ⟨its',_,ty,_⟩:=I1.list hy;have lb:b<s1.heap.objs.size:=by obtain ⟨o,e,_⟩:=dU ty;exact Ao e
  refine call_enumerate_list (dU ty) λg c1 c5 _ kp=>wpAny_pyIter_enum c1 ?_;have I2:Inv X U Z H1 { s1 with heap:=g }:=I1.kept (t':=s1.toks) kp;refine ⟨s1.heap.objs.size+1,_,_,_,H1,rfl,I2,vF lb,⟨⟨_,c1⟩,c5⟩,λc hc=>?_,q⟩;refine I1.fpOk ?_ (I1.hok.fresh ?_)
  all_goals
   have hc':c=s1.heap.objs.size+1\/c=s1.heap.objs.size:=by simpa using hc
   rcases hc' with e|e<;>(subst e;lia)
def aBy {K:Ab}{b:Gj}{ys:Gq}{g:TG}{tb:TS}{D:Ends}{Z:St}{H:Hp}(Pv:Nat->Gs)(h0:Pv 0 Z H)(hl:∀ i Z H,i<=ys.length->Pv i Z H->SqL K H b ys)
  (hs:∀ i y T Z H,ys[i]?=some y->H T=none->Pv i Z H->g (.ref T) Z (upd H T (.tup [.int (i:Nat),y])) λZ2 H2=>tb { D with nx:=Pv (i+1),ct:=Pv (i+1),bk:=D.nx } Z2 H2) (hd:∀ Z H,Pv ys.length Z H->D.nx Z H) :
  ∃ W:Nat->Nat->Gs,(∃ m,W 0 m Z H)/\∀ i m Z H,W i m Z H ->
   ((Ite K b).stop i H/\D.nx Z H)\/((Ite K b).go i H/\∃ N:Gs,(∀ Z' H',N Z' H'->∃ m',m'<m/\W (i+1) m' Z' H')/\∀ v H',(Ite K b).yld i H v H'->g v Z H' λZ2 H2=>tb { D with nx:=N,ct:=N,bk:=D.nx } Z2 H2):=by
 refine ⟨λi m Z H=>m=ys.length-i/\i<=ys.length/\Pv i Z H,⟨ys.length,by simp,Bu _,h0⟩,?_⟩
 rintro i m Z H ⟨rfl,hi,p⟩
 have q2:=hl i Z H hi p
 by_cases hlt:i<ys.length
 ·refine .inr ⟨⟨ys,q2,hlt⟩,Pv (i+1),λZ' H' p'=>⟨ys.length-(i+1),by lia,rfl,hlt,p'⟩,λv H' y=>?_⟩
  obtain ⟨T,hT,rfl,y⟩:=y;obtain ⟨y',e2,rfl⟩:=y ys q2;exact hs i y' T Z H e2 hT p
 ·have e:i=ys.length:=by lia
  subst e;exact .inl ⟨⟨ys,q2,rfl⟩,hd Z H p⟩
end L2
namespace HT
open PySem PySem.Spec PyProof.Rows
open AutoSeq1 (wpAny_loadPart')
section
variable {prog:Aw}{w:World}{A:Around}{E:Ga}{s:Gm}
end
end HT
namespace L2
open PySem PySem.Spec PyProof.Rows
def IteT (K:Ab)(b:Gj):It:=
  ⟨λi H=>∃ ys,SqT K H b ys/\i<ys.length,
   λi H v H'=>∃ T,H T=none/\v=.ref T/\∀ ys,SqT K H b ys->∃ y,ys[i]?=some y/\H'=upd H T (.tup [.int i,y]),
   λi H=>∃ ys,SqT K H b ys/\i=ys.length⟩
def EnuStT (n b:Nat)(i:Nat)(h:Heap):Prop:=(∃ old,IsEnum h (n+1) n (i:Int) old)/\h.IsTupleIter n b i
def iEnuT (K:Ab)(ta:TA):TI:=λZ H R=>ta Z H λvs H1=>∃ b,vs=[.ref b]/\(∃ ys,SqT K H1 b ys)/\R (IteT K b) H1
def Same.seqt {K:Ab}{H H':Hp}{a:Gj}{xs:Gq}(e:Same H H')(h:SqT K H a xs):SqT K H' a xs:=by
 rcases h with h|h
 ·rcases h with h|⟨o,h⟩
  ·exact .inl (.inl (e _ _ h))
  ·exact .inl (.inr ⟨o,e _ _ h⟩)
 ·exact .inr h
def zR {K:Ab}{a b:Gj}{xs ys:Gq}{D:Gj}{g:TG}{te:TE}{Z0:St}{QD:Hp->Prop}{H1:Hp}(ha:SqT K H1 a xs)(hb:SqT K H1 b ys)(hn:xs.length=ys.length)(Pr:Nat->V->Prop)(hD:H1 D=none)(hl:ys.length<=1000)
  (hs:∀ (i:Nat) x y T Hx (R:VK),xs[i]?=some x->ys[i]?=some y->Same H1 Hx->Hx T=some (.tup [x,y])->(∀ v H4,Same Hx H4->Pr i v->R v H4)->g (.ref T) Z0 Hx λZ2 H2=>Keep Z0 Z2/\te Z2 H2 R)
  (hd:∀ zs H',Same H1 H'->H' D=some (.lst zs)->zs.length=xs.length->(∀ (i:Nat) z,zs[i]?=some z->Pr i z)->QD H') :
  ∃ W:Nat->Nat->Gq->Hp->Prop,(∃ m,W 0 m [] (upd H1 D (.lst [])))/\∀ i m zs H,W i m zs H->H D=some (.lst zs)/\zs.length<Au /\
   (((Itz2 K a b).stop i H/\QD H)\/((Itz2 K a b).go i H/\∀ x H',(Itz2 K a b).yld i H x H'->g x Z0 H' λZ2 H2=>Keep Z0 Z2/\vK Z2 H2 λb H3=>
    if b=true then te Z2 H3 λy H4=>H4 D=some (.lst zs)/\∃ m',m'<m/\W (i+1) m' (zs++[y]) (upd H4 D (.lst (zs++[y]))) else ∃ m',m'<m/\W (i+1) m' zs H3)):=by
 refine ⟨λi m zs H=>m=xs.length-i/\i<=xs.length/\Same H1 H/\H D=some (.lst zs)/\zs.length=i/\∀ (j:Nat) z,zs[j]?=some z->Pr j z,
  ⟨_,rfl,Bu _,Gu hD,aB,rfl,λj z h=>by simp at h⟩,?_⟩
 rintro i m zs H ⟨rfl,hi,sm,hDH,zl,zp⟩
 refine ⟨hDH,bP (by lia),?_⟩
 by_cases hlt:i<xs.length
 ·refine .inr ⟨⟨xs,ys,sm.seqt ha,sm.seqt hb,hlt,by lia⟩,λx H' y=>?_⟩
  obtain ⟨T,hT,rfl,y⟩:=y;obtain ⟨x',y',e1,e2,rfl⟩:=y xs ys (sm.seqt ha) (sm.seqt hb);have st:=Gu (o:=.tup [x',y']) hT;have:=hs i x' y' T _ (λy H4=>H4 D=some (.lst zs)/\∃ m',m'<xs.length-i/\(m'=xs.length-(i+1)/\i+1<=xs.length/\Same H1 (upd H4 D (.lst (zs++[y])))/\(upd H4 D (.lst (zs++[y]))) D=some (.lst (zs++[y]))/\(zs++[y]).length=i+1/\∀ (j:Nat) z,(zs++[y])[j]?=some z->Pr j z)) e1 e2 (sm.trans st) aB (λv H4 s4 pv=>?_)
  ·exact this
  ·refine ⟨s4 _ _ (st _ _ hDH),xs.length-(i+1),by lia,rfl,hlt,λb o e=>?_,aB,by rw [Av,zl];rfl,λj z hz=>?_⟩
   ·rw [aK (bB e hD)]
    exact s4 _ _ (st _ _ (sm _ _ e))
   ·by_cases hj:j<zs.length
    ·rw [BW hj] at hz
     exact zp j z hz
    ·have jl:=(Ad.mp hz).1
     rw [Av] at jl;have jl':j<zs.length+1:=jl;have ej:j=zs.length:=by lia
     subst ej;rw [BC (Aj _),Nat.sub_self] at hz;obtain rfl:v=z:=by simpa using hz
     rw [zl];exact pv
 ·have e:i=xs.length:=by lia
  subst e;exact .inl ⟨⟨xs,ys,sm.seqt ha,sm.seqt hb,.inl rfl⟩,hd zs H sm hDH zl zp⟩
def rNeTs (K:Ab):R2:=λx y H Q=>∃ a b xs,x=.ref a/\y=.ref b/\SqT K H a xs/\SqT K H b xs/\(∀ v∈xs,Sf v)/\Q (.bl false) H
section
variable {X:Cx}{U:Ge}{Z:St}{H:Hp}{s:Gm}{A:Around}{E:Ga}
structure KDict (w:World)(K:Ab)(a:Gj)(f:Str->Option Gj):Prop where
 lo:(a==Dx)=false
 ex:∃ es n,K.lookup a=some ⟨.type "dict",none,.dict es n,#[]⟩/\PySem.W.KeysLit w.params es.toList/\∀ x,findBy EX es x=(f x).map AC
def aFg (D:KDict X.w X.K a f)(I:Inv X U Z H s)(h:∀ s',Inv X U Z H s'->Q (((f x).map AC).getD .none) s') :
  wpAny (model X.prog X.w) A (call (.builtin "dict.get") [.ref a,.str x t]) Q E s:=by
 obtain ⟨es,n,hl,hk,hf⟩:=D.ex;have hm:=PySem.W.mapOf_K (prog:=X.prog) (w:=X.w) I.kIn hl hk;have q:∀ s',Inv X U Z H s'->Q ((findBy EX es x).getD .none) s':=λs' I'=>by rw [hf x];exact h s' I'
 exact call_meetsIn DF hm.typeIs PySem.F.entry_dict_get (PySem.F.args_dict_get_2 _ _) (meets_dict_get (strKind X.prog X.w) a (strKind_is X.prog X.w x t) D.lo) ⟨_,hm,q _ (I.tok _)⟩
end
def Inv.thaw {Z:St}(I:Inv X U Z H s)(hd:H d=some (.frz ob (.dK kvs)))(h0:∀ o u,X.H₀ d≠some (.frz o u)):Inv X U Z (upd H d (.dK kvs)) s:=by
 have ne:∀ b,H b=none->b≠d:=λb n z=>by rw [z,hd] at n;cases n
 have nd:∀ b u,H b=some u->u≠.frz ob (.dK kvs)->b≠d:=λb u e n z=>by
  rw [z,hd] at e;exact n (AF e).symm
 have st:∀ {a:Gj} {u:HO},ObjOk X.prog X.w H s.heap a u->ObjOk X.prog X.w (upd H d (.dK kvs)) s.heap a u:=λx=>
  x.stay (λc v _ q=>q) (λc q=>by rw [aK (nd c _ q (by intro z;cases z))];exact q) λc xs q=>by rw [aK (nd c _ q (by intro z;cases z))];exact q
 refine ⟨I.ok,I.os,I.bare,⟨I.base.keep,I.base.slot,λb o e n hx=>?_,I.base.there,λb xs e=>?_,λb o u e=>?_,λb ps e=>?_⟩,I.loc,I.cell,?_,λx c e=>?_,λp hp=>?_,λb u e=>?_,I.len⟩
 ·have z:=I.base.free b o e n hx
  rw [aK (ne b z)];exact z
 ·have z:=I.base.tups b xs e
  rw [aK (nd b _ z (by intro z;cases z))];exact z
 ·have z:=I.base.frzs b o u e
  rw [aK (λq=>h0 o u (by rw [<- q];exact e))];exact z
 ·obtain ⟨m,z⟩:=I.base.tbls b ps e
  exact ⟨m,by rw [aK (nd b _ z (by intro z;cases z))];exact z⟩
 ·rw [aK (ne _ I.free)]
  exact I.free
 ·rw [aK (ne _ (I.freeC x c e))]
  exact I.freeC x c e
 ·obtain ⟨q1,q2,q3⟩:=I.pin p hp
  exact ⟨q1,by rw [aK (ne _ q2)];exact q2,q3⟩
 ·by_cases e':b=d
  ·subst e'
   rw [aB] at e;cases e;exact st (I.hok b _ hd).2
  ·rw [aK e'] at e
   exact st (I.hok b u e)
def tThaw (H₀:Hp)(te:TE):TE:=λZ H Q=>te Z H λv H'=>∃ d ob kvs,H' d=some (.frz ob (.dK kvs))/\(∀ o u,H₀ d≠some (.frz o u))/\Q v (upd H' d (.dK kvs))
def rUpd:V->Gq->Hp->VK->Prop:=λx vs H Q=>∃ d o kvs more,x=.ref d/\vs=[.ref o]/\d≠o/\H d=some (.dK kvs)/\H o=some (.dK more)/\kvs.length+more.length<=1000/\Q .non (upd H d (.dK (lI kvs more)))
section
variable {prog:Aw}{w:World}{A:Around}{E:Ga}{s:Gm}
end
def tMinD (te:TE):TE:=λZ H Q=>te Z H λx H1=>∃ l n,x=.ref l/\H1 l=some (.lst [.int n])/\Q (.int n) H1
structure MCal (P:Aw)(w:World)(K:Ab)(mg:Gb)(base:Heap)(CX:CXT)(k:Nat)(C:Gj)(m:Str)(ps:Gh)(sp:Sp):Prop where
 ex:∃ (f:Gj) (fd:Az),Meth K C m f/\Binds K fd ps []/\FnOk P w K mg base CX k f fd ps sp
section
variable {X:Cx}{CX:CXT}{k:Nat}{C:Gj}{m:Str}{ps:Gh}{sp:Sp}{E:XK}{o e:Expr}{es:List Expr}{ta:TE}{t:TA}{apos pos:Pos}
def wW {K:Ab}{f:Str}(h:X.K=K)(he:PE X o ta)(hb:EJ o f X.env (eval o X.env)=eval o X.env):PE X (.Attribute o f pos) (tFld K ta f):=h▸cZ he hb
end
def aF2 (H₀:Hp)(t:TS):TS:=λD Z H=>t { D with nx:=λZ' H'=>∃ d ob kvs,H' d=some (.frz ob (.dK kvs))/\(∀ o u,H₀ d≠some (.frz o u))/\D.nx Z' (upd H' d (.dK kvs)) } Z H
def wN {X:Cx}{st:Stmt}{t:TS}(h:PS X st t):PS X st (aF2 X.H₀ t):=by
 intro U s Z H D I q;refine thn (h U s Z H _ I q) λf s1 z=>?_;cases f with
 |next=>
  obtain ⟨Z',H',I',d,ob,kvs,hd,h0,q'⟩:=z;exact ⟨Z',_,I'.thaw hd h0,q'⟩
 |brk=>exact z
 |cont=>exact z
 |ret u=>exact z
section
variable {X:Cx}{e:Expr}{nm m:Str}{p apos cpos pos:Pos}{ty ta:TE}{aF:Gj}{f:Str->Option Gj}
def aIk (f:Str->Option Gj)(ty:TE):TE:=λZ H Q=>ty Z H λy H2=>∃ x,y=.str x/\Q (((f x).map V.ref).getD .non) H2
def aEn (D:KDict X.w X.K aF f)(hg:Gl X nm)(hm:X.mg nm=some (.ref aF))(he:PE X e ty)(M:M1 X (.Name nm p) "get" apos e cpos)(hd:(nm==("__debug__":Str))=false:=by decide):PE X (.Call (.Attribute (.Name nm p) "get" apos) [e] [] cpos) (aIk f ty):=by
 intro U s Z H Q I h;refine wpAny_Call_method M.base M.few M.line Fv DF PySem.F.type_dict_get (fV I hg hm ?_ hd);obtain ⟨es,n,hl,hk,hf⟩:=D.ex;have hm':=PySem.W.mapOf_K (prog:=X.prog) (w:=X.w) I.kIn hl hk;refine ⟨hm'.typeIs,λb q=>?_,?_⟩
 ·cases q
  exact ⟨_,I.kIn _ _ hl,rfl⟩
 rw [M.trees];refine DD rfl (ES (En (thn (he U s Z H _ I h) λiv s2 ⟨y,H2,I2,ry,x,ex,q2⟩=>Calls.spliced_nil ?_)));subst ex;obtain ⟨t,rfl⟩:=(show ∃ t,iv=Value.str x t from ry);refine aFg D I2 λs3 I3=>⟨_,H2,I3,?_,q2⟩;cases f x with
 |none=>exact rfl
 |some a=>exact rfl
def tMethD (m:Str)(Cs:List (Gj×Sp))(E:XK)(ta:TE):TE:=λZ H Q=>ta Z H λx H1=>∃ C sp a dx fs,(C,sp)∈Cs/\x=.ref a/\H1 a=some (.ins C dx fs)/\fs.lookup m=none/\sp [x] H1 Q E
end
structure InsK (K:Ab)(C:Gj):Prop where
 cl:Cls K C
 ha:BL K (.ref C) "__class__" = some (some (.builtin "object.__class__"))
 hn:PySem.W.specialIn K (.builtin "object.__class__") "__get__" = some (some (.builtin "getset_descriptor.__get__"))
 htk:PySem.W.takesIn K (.builtin "object.__class__")=some true
 hm:PySem.W.mroIn K C (.type "object")=some true
def lay (H g:Hp):Hp:=λb=>match g b with
 |some o=>some o
 |none=>H b
theorem sP (h:g b=some o):lay H g b=some o:=by unfold lay;rw [h]
theorem iT (h:g b=none):lay H g b=H b:=by unfold lay;rw [h]
section
variable {X:Cx}{U:Ge}{Z:St}{H g:Hp}{s:Gm}{h':Heap}{t':Nat}
def Inv.laidL (I:Inv X U Z H s)(k:∀ b u,s.heap.get? b=some u->h'.get? b=some u)(hp:∀ a o,g a=some o->s.heap.objs.size<=a)(new:∀ a o,g a=some o->ObjOk X.prog X.w (lay H g) h' a o) :
  Inv X U Z (lay H g) { s with heap:=h',toks:=t' }:=by
 have sm:∀ b o,H b=some o->lay H g b=some o:=λb o e=>by
  cases q:g b with
  |none=>rw [iT q];exact e
  |some u=>
   rw [I.hok.fresh (hp b u q)] at e;cases e
 refine I.un ⟨λb u q _ _ _=>k b u q,λb u q _ _ _=>⟨u.slots,k b u q⟩,λb u q n _=>?_,λb u q _=>⟨u,k b u q⟩,λb xs q=>sm b _ q,λb u xs q=>sm b _ q,λb ps q=>⟨#[],by rw [sm b _ q];simp⟩⟩ λb u e=>?_
 ·cases z:g b with
  |none=>rw [iT z];exact n
  |some v=>exact absurd (Ao q) (Nat.not_lt.mpr (hp b v z))
 ·cases z:g b with
  |some v=>
   rw [sP z] at e;obtain rfl:=AF e;exact new b _ z
  |none=>
   rw [iT z] at e;exact (I.hok b u e).stay (λc v _ q=>k c v q) (λc q=>sm c _ q) λc xs q=>sm c _ q
end
namespace TI
def aA5 {α β:Type}{as' as:List α}(p:as'.Perm as):∀ {zs:List β},as.length=zs.length->∃ zs',zs'.Perm zs/\(as'.zip zs').Perm (as.zip zs)/\as'.length=zs'.length:=by
 induction p with
 |nil=>exact λ{zs} h=>⟨zs,.refl _,.refl _,h⟩
 |cons x _ ih=>
  intro zs h
  match zs,h with
  |z::t,h=>
   obtain ⟨zs',p1,p2,p3⟩:=ih (zs:=t) (by simpa using h);exact ⟨z::zs',p1.cons z,by rw [BV,BV];exact p2.cons _,by simp [p3]⟩
 |swap x y l=>
  intro zs h
  match zs,h with
  |z1::z2::t,h=>exact ⟨z2::z1::t,.swap ..,by rw [BV,BV,BV,BV];exact .swap ..,by simpa using h⟩
 |trans _ _ i1 i2=>
  intro zs h;obtain ⟨z2,a1,a2,a3⟩:=i2 h;obtain ⟨z1,b1,b2,b3⟩:=i1 a3;exact ⟨z1,b1.trans a1,b2.trans a2,b3⟩
theorem lk_mem {β:Type}{b:Gj}{z:β}:∀ {l:List (Gj×β)},l.lookup b=some z->(b,z)∈l
  |[],h=>by cases h
  |(a,y)::l,h=>by
    rw [CY] at h;split at h
    . rename_i e;cases h;rw [Em e];exact Ar ..
    . exact Ah _ (lk_mem h)
theorem mem_lk {β:Type}{b:Gj}{z:β}:∀ {l:List (Gj×β)},(l.map (·.1)).Nodup->(b,z)∈l->l.lookup b=some z
  |(a,y)::l,nd,h=>by
    rw [Ak] at nd;have nd':=BF.mp nd;rw [CY]
    rcases Ay.mp h with e|hm
    . cases e;rw [beq_self_eq_true]
    . have ne:(b==a)=false:=by
        rw [beq_eq_false_iff_ne]
        rintro rfl
        exact nd'.1 (AE.mpr ⟨_,hm,rfl⟩)
      rw [ne];exact mem_lk nd'.2 hm
theorem nN {α β:Type}{R:α->β->Prop}:∀ {l:List α} {m:List β},Paired R l m->∀ {i:Nat} {a:α} {b:β},l[i]?=some a->m[i]?=some b->R a b
 |_,_,.nil,_,_,_,h,_=>by simp at h
 |_,_,.cons r t,0,_,_,h1,h2=>by
  simp at h1 h2;subst h1 h2;exact r
 |_,_,.cons r t,i+1,_,_,h1,h2=>nN t (i:=i) (by simpa using h1) (by simpa using h2)
def nmG (h:Heap):Gk->Str
 |.ref a=>match h.get? a with
  |some o=>match o.data with
   |.seq xs _=>match xs.toList with
    |.str x _::_=>x
    |_=>⟨#[]⟩
   |_=>⟨#[]⟩
  |none=>⟨#[]⟩
 |_=>⟨#[]⟩
theorem yD (e:h.get? a=some { cls:=.type "tuple",data:=.seq #[.str x t,u] }):nmG h (.ref a)=x:=by
 unfold nmG;simp only [e]
def sorted_items {w:World}{r d:Gj}{ep:Nat}(hh:A.handled=none)(hv:s.heap.IsItemsView r d)(hm:s.heap.DictAt (bD P w) d vs ep)(rel:KV (zs.map λz=>(AM z.1,z.2)) vs)(nd:(zs.map (·.1)).Nodup)(h64:zs.length<64)(h:∀ (h':Heap) (tk:Nat) (as as':List Gj) (zs':Gn) (out:Gi),(∀ b o,s.heap.get? b=some o->h'.get? b=some o)->as.length=zs.length->as.Pairwise (·<·)->(∀ a∈as,s.heap.objs.size<a) ->
   (∀ a z,(a,z)∈as.zip zs->∃ t u,h'.get? a=some { cls:=.type "tuple",data:=.seq #[.str z.1 t,u] }/\RelV z.2 u)->zs'.Perm zs->(as'.zip zs').Perm (as.zip zs)->as'.length=zs'.length->out=as'.map AC->(zs'.Pairwise λu v=>u.1.cps.toList<v.1.cps.toList) ->
   Q (.ref h'.objs.size) { s with heap:=sortedHeap (h'.push (seqObj "list" (as.map AC).toArray 0)) h'.objs.size (as.map AC) out.toArray,toks:=tk }) :
  wpAny (model P w) A (call (.builtin "sorted") [.ref r]) Q E s:=by
 have vl:vs.length=zs.length:=by rw [<- rel.length,Af]
 refine Fp kind_sorted plain_sorted entry_sorted (args_sorted1 _) ?_;unfold AG.«sorted»;refine Aa (m:=checkCount "sorted" 1 1 _) (Ag ?_);refine Aa (PySem.W.kdx_collect (A:=A.in1) (knd:=bD P w) (kvs:=vs) (ep:=ep) hh hv hm (by rw [vl];exact cJ (by lia)) λh' tk as hk hl hG=>?_);have al:as.length=zs.length:=hl.trans vl;have fc:∀ (j:Nat) a z,as[j]?=some a->zs[j]?=some z->∃ t u,h'.get? a=some { cls:=.type "tuple",data:=.seq #[.str z.1 t,u] }/\RelV z.2 u:=λj a z ha hz=>by
  obtain ⟨key,k,x,e1,e2,e3⟩:=hG.pairs j a ha;have ez:(zs.map λz=>((AM z.1:Key),z.2))[j]?=some (AM z.1,z.2):=by rw [Aq,hz];rfl
  obtain ⟨ek,er⟩:=nN rel ez e1;have ek':(AM z.1:Key)=k:=ek;subst ek';obtain ⟨t,rfl⟩:=Dq (x:=z.1) (v:=key) e2;exact ⟨t,x,e3,er⟩
 have fz:∀ a z,(a,z)∈as.zip zs->∃ t u,h'.get? a=some { cls:=.type "tuple",data:=.seq #[.str z.1 t,u] }/\RelV z.2 u:=λa z m=>by
  obtain ⟨j,hj⟩:=Co m;obtain ⟨h1,h2⟩:=Eb.mp hj;exact fc j a z h1 h2
 refine Aa (wpAny_newList ?_ (by rw [Af,al];exact cJ (by lia)));have oL:(h'.push (seqObj "list" (as.map AC).toArray 0)).get? h'.objs.size=some (seqObj "list" (as.map AC).toArray 0):=Ai _ rfl;have nmz:as.map (λa=>nmG h' (.ref a))=zs.map (·.1):=by
  refine ED λj=>?_;rw [Aq,Aq]
  by_cases lt:j<as.length
  ·have lt':j<zs.length:=by lia
   rw [Ae lt,Ae lt'];obtain ⟨t,u,e,_⟩:=fc j as[j] zs[j] (Ae lt) (Ae lt');rw [Dk,Dk,yD e]
  ·rw [AY (by lia),AY (by lia)]
   rfl
 have T':∀ v∈as.map AC,TS.Tp (h'.push (seqObj "list" (as.map AC).toArray 0)) (nmG h') v:=λv hv=>by
  obtain ⟨a,ha,rfl⟩:=AE.mp hv;obtain ⟨j,hj⟩:=Co ha;have lt:j<zs.length:=by have:=(Ad.mp hj).1;lia
  obtain ⟨t,u,e,_⟩:=fc j a zs[j] hj (Ae lt);exact ⟨a,_,_,_,t,[u],rfl,Ac _ e,rfl,rfl,by rw [yD e]⟩
 have D:(as.map AC).Pairwise λu v=>nmG h' u≠nmG h' v:=by
  rw [Cu];have:=nd;rw [<- nmz] at this;exact Cu.mp this
 refine Aa (Br (Bp slot_list_sort ⟨_,oL,rfl⟩ entry_list_sort (TS.sort_tup (nm:=nmG h') oL T' D (by rw [Af,al];exact h64) λout x1 x2=>⟨_,rfl,Ag ⟨_,rfl,?_⟩⟩) (args_list_sort _)));have er:∀ v∈out,v=.ref (adOf v):=λv hv=>by
  obtain ⟨b,_,rfl⟩:=AE.mp (x1.mem_iff.mp hv);rfl
 have eo:out=(out.map adOf).map AC:=by
  rw [Ce]
  conv=>lhs;rw [<- List.map_id out]
  exact Ei er
 have pm:(out.map adOf).Perm as:=by
  have:=x1.map adOf;rw [Ce,show (adOf ∘ AC)=id from rfl,List.map_id] at this;exact this
 obtain ⟨zs',p1,p2,p3⟩:=aA5 pm al;refine h h' tk as (out.map adOf) zs' out hk al hG.rise (λa ha=>hG.above a ha) fz p1 p2 p3 eo ?_;rw [eo] at x2;have x3:=Cu.mp x2;rw [Dg] at x3 ⊢;intro i j hi hj hij;have hi':i<(out.map adOf).length:=by lia
 have hj':j<(out.map adOf).length:=by lia
 have nz:∀ (i:Nat) (h1:i<(out.map adOf).length) (h2:i<zs'.length),nmG h' (.ref (out.map adOf)[i])=zs'[i].1:=λi h1 h2=>by
  have m:((out.map adOf)[i],zs'[i])∈(out.map adOf).zip zs':=by
   refine Al (i:=i) ?_;rw [Eb];exact ⟨Ae h1,Ae h2⟩
  obtain ⟨t,u,e,_⟩:=fz _ _ (p2.mem_iff.mp m);exact yD e
 have z:=x3 i j hi' hj' hij;have z':(nmG h' (.ref (out.map adOf)[i])).cps.toList<(nmG h' (.ref (out.map adOf)[j])).cps.toList:=z;rw [nz i hi' hi,nz j hj' hj] at z';exact z'
end TI
end L2
namespace L2
open PySem PySem.Spec PyProof.Rows
abbrev txK (zs:Gn):Gp:=zs.map λz=>(AM z.1,z.2)
def tW (td:TE):TE:=λZ H Q=>td Z H λx H1=>∃ a zs,x=.ref a/\H1 a=some (.dK (txK zs))/\(zs.map (·.1)).Nodup/\zs.length<64 /\
 ∀ (p:Gj) (as:List Gj) (zs':Gn) (H':Hp),Same H1 H'->zs'.Perm zs->(zs'.Pairwise λu v=>u.1.cps.toList<v.1.cps.toList)->as.length=zs'.length ->
  (∀ a z,(a,z)∈as.zip zs'->H' a=some (.tup [.str z.1,z.2]))->H' p=some (.lst (as.map V.ref))->Q (.ref p) H'
def nM {X:Cx}{o:Expr}{td:TE}{p apos cpos pos:Pos}(hc:X.calm=true)(hg:Gl X "sorted")(hm:X.mg "sorted" = none)(ho:PE X o td)
  (hbase:EJ o "items" X.env (eval o X.env)=eval o X.env:=by rfl) (hline:(apos.endLine==cpos.line)=true:=by rfl)
  (hs3:AL [Expr.Call (.Attribute o "items" apos) [] [] cpos] X.env=[(false,eval (.Call (.Attribute o "items" apos) [] [] cpos) X.env)]:=by rfl) :
  PE X (.Call (.Name "sorted" p) [.Call (.Attribute o "items" apos) [] [] cpos] [] pos) (tW td):=by
 intro U s Z H Q I h;refine Dm (iJ I hg hm boot_sorted (PyProof.Rows.callWith_builtin1 ?_ hs3 rfl));rw [hs3];show wpAny _ _ (spliced ((false,eval (.Call (.Attribute o "items" apos) [] [] cpos) X.env)::backTo pos [])) _ _ s;refine En ?_;refine wpAny_Call_method0_late hbase hline (thn (ho U s Z H _ I h) λv s1 ⟨x,H1,I1,r1,a,zs,ex,hH,nd,h64,q⟩=>?_);subst ex;cases r1;obtain ⟨z,lo,vs,rel,dd⟩:=uS I1.hok hH;obtain ⟨t1,t2,_⟩:=aCz I1 (.inl ⟨_,.inl hH⟩);refine ⟨"dict","dict.items",Fv,PySem.F.slot_dict_items,PySem.F.type_dict_items,t1,t2,DD rfl (PySem.evalArgs_none ?_)⟩;refine call_meetsIn PySem.F.slot_dict_items t1 PySem.F.entry_dict_items (PySem.F.args_dict_items_1 _) (meets_dict_items (bD X.prog X.w) a lo) ⟨⟨vs,dd⟩,Calls.spliced_nil ?_⟩;have I2:Inv X U Z H1 { s1 with heap:=s1.heap.push { cls:=.type "dict_items",data:=.fields #[.ref a] } }:=I1.kept (t':=s1.toks) λb o e=>Ac _ e;obtain ⟨z2,lo2,vs2,rel2,dd2⟩:=uS I2.hok hH;obtain ⟨ep,hat⟩:=dd2.dictAt;refine TI.sorted_items (zs:=zs) (vs:=vs2) (ep:=ep) (I2.ok.hd hc) ⟨_,Ai _ rfl,rfl,rfl⟩ hat rel2 nd h64 λh' tk as as' zs' out keep al up ab fz p1 p2 p3 eo srt=>?_;have zk:((as.zip zs).map (·.1)).Nodup:=by
  rw [List.map_fst_zip (by lia)];exact up.imp λh e=>absurd (e▸h) (Cw _)
 let g:Hp:=λb=>((as.zip zs).lookup b).map λz=>.tup [.str z.1,z.2]
 have gs:∀ b o,g b=some o->∃ z,(b,z)∈as.zip zs/\o=.tup [.str z.1,z.2]:=λb o e=>by
  obtain ⟨z,e1,e2⟩:=AZ.mp e;exact ⟨z,TI.lk_mem e1,e2.symm⟩
 have gm:∀ b z,(b,z)∈as.zip zs->g b=some (.tup [.str z.1,z.2]):=λb z m=>by
  show ((as.zip zs).lookup b).map _=_;rw [TI.mem_lk zk m];rfl
 have I3:Inv X U Z (lay H1 g) { s1 with heap:=h',toks:=tk }:=I2.laidL (t':=tk) keep (λb o e=>by
   obtain ⟨z,m,_⟩:=gs b o e;exact Nat.le_of_lt (ab b (Ep m).1)) λb o e=>by
   obtain ⟨z,m,rfl⟩:=gs b o e;obtain ⟨t,u,e1,e2⟩:=fz b z m;exact ⟨⟨zLn2,_,e1,rfl⟩,[.str z.1 t,u],.cons ⟨_,rfl⟩ (.cons e2 .nil),_,e1,rfl,_,rfl⟩
 have oL:(h'.push (seqObj "list" (as.map AC).toArray 0)).get? h'.objs.size=some (seqObj "list" (as.map AC).toArray 0):=Ai _ rfl;obtain ⟨e,he⟩:∃ e,(sortedHeap (h'.push (seqObj "list" (as.map AC).toArray 0)) h'.objs.size (as.map AC) out.toArray).get? h'.objs.size=some (seqObj "list" out.toArray e):=sortedHeap_at oL;have sm:Same H1 (lay H1 g):=λb o e=>by
  cases q:g b with
  |none=>rw [iT q];exact e
  |some u=>
   obtain ⟨z,m,_⟩:=gs b u q;rw [I2.hok.fresh (Nat.le_of_lt (ab b (Ep m).1))] at e;cases e
 have nL:lay H1 g h'.objs.size=none:=I3.hok.fresh (Aj _);refine ⟨.ref h'.objs.size,_,I3.laid (a:=h'.objs.size) (o:=.lst (as'.map V.ref)) (t':=tk) (λb o hb'=>?_) (Aj _) (sJ (its:=out) (e:=e) (by rw [eo];exact mU as') ?_ he),rfl,q _ as' zs' _ (sm.trans (Gu nL)) p1 srt p3 (λb z m=>?_) aB⟩
 ·have lt:=Ao hb'
  rw [sortedHeap_old (As lt) (by rw [BH];exact Cg lt)];exact Ac _ hb'
 ·rw [Af,p3,p1.length_eq]
  exact cJ (by lia)
 ·have m':=p2.mem_iff.mp m
  exact (Gu nL) _ _ (by rw [sP (gm b z m')])
end L2
namespace DX
open PySem PySem.Spec PyProof.Rows
def oW:typeLookup (.type "tuple") (CN "keys")=pure none:=am_miss_of_fast (by decide +kernel)
section
variable {P:Aw}{w:World}{A:Around}{E:Ga}{s:Gm}
def qD {k:Nat}{sl:Array (Option Gk)}(ho:s.heap.get? a=some { cls:=.type "tuple",dict:=none,data:=.seq xs k,slots:=sl })(hh:A.handled=none)(h:∀ h' tk,(∀ b ob,s.heap.get? b=some ob->h'.get? b=some ob)->Q none { s with heap:=h',toks:=tk }):wpAny (model P w) A (getAttr? (.ref a) "keys") Q E s:=by
 have ty:s.TypeIs (.ref a) "tuple":=⟨_,ho,rfl⟩;unfold getAttr?;refine Aa (wpAny_mkText ?_);unfold getAttrBy?;refine Aa (DE ?_);unfold getAttrBy;refine Br ?_;refine Aa (DW (T:="tuple") ⟨_,ho,rfl⟩ ?_);refine Aa (Ew Fx.lookup ?_);dsimp only;show wpAny _ _ (getAttrByItsOwn _ _ _ _ _ _) _ _ _;unfold getAttrByItsOwn;refine Aa (Ew (a:=none) rfl ?_);refine Aa (DE (Br ?_));show wpAny _ _ (boundAndCalled _ _ _) _ _ _;unfold boundAndCalled;refine Aa (Ew (Fx.bind _) ?_);dsimp only;refine call_meets Fx ⟨_,ho,rfl⟩ am_entry_tuple_getattribute (F.args_tuple_getattribute_2 _ _) (meets_getattribute_miss_tuple a xs k sl "keys" _ oW (by decide +kernel)) ⟨ho,hh,λh' tk e ne=>?_⟩;show wpAny _ _ (getattributeRaised _ _ _ _ _ _ _) _ _ _;obtain ⟨t,u,he⟩:=ne.there;unfold getattributeRaised;refine Aa (Fj (T:="AttributeError") ⟨_,he,rfl⟩ sub_AttributeError ?_);rw [if_pos rfl];refine Aa (Ew am_tuple_getattr_none ?_);unfold hookOrError;dsimp only;unfold attributeErrorLeaves;refine Aa (wpAny_throw ?_);show wpAny _ _ (isInstance _ _ >>= _) _ _ _;refine Aa (Fj (T:="AttributeError") ⟨_,he,rfl⟩ sub_AttributeError ?_);rw [if_pos rfl];exact Ag (h h' tk ne.keeps)
end
section
variable {P:Aw}{w:World}{K:Type}[DecidableEq K]{knd:KeyKind P w K}{A:Around}{R:Result->Gm->Prop}
def vC (hh:A.in1.handled=none)(d it l:Addr)(its:Array Value)(ps:List (K×Value))(hdi:d≠it)(hdl:d≠l)(hil:it≠l)(hl:ps.length=its.size)(hz:ps.length<=Au)(h0:Heap)(hL:h0.IsTuple l its)
  (hp:∀ (i:Nat) kv,ps[i]?=some kv->∃ z key,its[i]?=some (.ref z)/\knd.is kv.1 key=true/\z≠d/\z≠it/\TupAt h0 z key kv.2) :
  ∀ (n i:Nat) (s:Shared),its.size-i=n->i<=its.size->s.heap.IsTupleIter it l i->(∀ b o,b≠d->b≠it->h0.get? b=some o->s.heap.get? b=some o)->s.heap.DictOf knd d ((ps.take i).foldl (λacc kv=>stored acc kv.1 kv.2) [])->((ps.take i).foldl (λacc kv=>stored acc kv.1 kv.2) []).length<=i ->
   (∀ (h':Heap) (tk:Nat),(∀ b o,b≠d->b≠it->h0.get? b=some o->h'.get? b=some o)->h'.DictOf knd d (ps.foldl (λacc kv=>stored acc kv.1 kv.2) [])->R (.ok (.ret .none)) { s with heap:=h',toks:=tk }) ->
   Ey (model P w) A (.builtin "dict.update.loop" ⟨[.ref d,.ref it,rawInt i,.none],[]⟩) R s:=by
 intro n
 induction n with
 |zero=>
  intro i s hk hi st fr D len q;obtain rfl:i=its.size:=by lia
  refine CI oE ?_;rw [CH gP _];have hL':s.heap.IsTuple l its:=by
   obtain ⟨o,e,r⟩:=hL;exact ⟨o,fr l o (Bi hdl) (Bi hil) e,r⟩
  show wpAny _ A.in1 (pyNext (.ref it) >>= _) _ _ s;refine Aa (wpAny_pyNext_tuple_end hh st hL' (by simp) λh' eb=>?_);rw [EC (by lia)] at D;dsimp only;refine Aa (Ew (a:=()) rfl ?_);refine Ag (q h' s.toks (λb o b1 b2 e=>eb b o b2 (fr b o b1 b2 e)) ?_);obtain ⟨o,es,ep,ho,r⟩:=D;exact ⟨o,es,ep,eb d o hdi ho,r⟩
 |succ n ih=>
  intro i s hk hi st fr D len q;have lt:i<its.size:=by lia
  have hL':s.heap.IsTuple l its:=by
   obtain ⟨o,e,r⟩:=hL;exact ⟨o,fr l o (Bi hdl) (Bi hil) e,r⟩
  obtain ⟨kv,hkv⟩:∃ kv,ps[i]?=some kv:=⟨_,Ae (by lia)⟩;obtain ⟨z,key,e1,e2,z1,z2,tz⟩:=hp i kv hkv;refine CI oE ?_;rw [CH gP _];show wpAny _ A.in1 (pyNext (.ref it) >>= _) _ _ s;refine Aa (wpAny_pyNext_tuple_item st hL' e1 λh' st' sb=>?_);have fr1:∀ b o,b≠d->b≠it->h0.get? b=some o->h'.get? b=some o:=λb o b1 b2 e=>(sb.2 b b2).trans (fr b o b1 b2 e);have D1:h'.DictOf knd d ((ps.take i).foldl (λacc kv=>stored acc kv.1 kv.2) []):=by
   obtain ⟨o,es,ep,ho,r⟩:=D;exact ⟨o,es,ep,(sb.2 d hdi).trans ho,r⟩
  have tz1:TupAt h' z key kv.2:=by
   obtain ⟨o,m,ho,r⟩:=tz;exact ⟨o,m,fr1 z o z1 z2 ho,r⟩
  dsimp only;refine Aa (Br ?_);refine Aa (wpAny_tryCatch (mD tz1 ?_));dsimp only;refine Br (wpAny_dictSet_pairs e2 D1 (λh2 D2 sb2=>?_) (by lia));have et:ps.take (i+1)=ps.take i++[kv]:=by rw [CO,hkv];rfl
  refine Ag ⟨EI gP _,?_⟩;have D3:h2.DictOf knd d ((ps.take (i+1)).foldl (λacc kv=>stored acc kv.1 kv.2) []):=by
   rw [et,List.foldl_append];exact D2
  have len3:((ps.take (i+1)).foldl (λacc kv=>stored acc kv.1 kv.2) []).length<=i+1:=by
   rw [et,List.foldl_append];have:=tX ((ps.take i).foldl (λacc kv=>stored acc kv.1 kv.2) []) kv.1 kv.2;show (stored _ kv.1 kv.2).length<=i+1;lia
  refine ih (i+1) _ (by lia) lt ?_ (λb o b1 b2 e=>(sb2.2 b b1).trans (fr1 b o b1 b2 e)) D3 len3 λh3 tk f3 d3=>q h3 tk f3 d3;obtain ⟨o,e,r⟩:=st';exact ⟨o,(sb2.2 it (Bi hdi)).trans e,r⟩
end
section
variable {P:Aw}{w:World}{K:Type}[DecidableEq K]{knd:KeyKind P w K}{A:Around}{E:Ga}{s:Gm}
def call_dict_tup {l:Addr}{its:Array Value}{n:Nat}{sl:Array (Option Value)}{ps:List (K×Value)}{Q:Value->Shared->Prop}(hh:A.handled=none)(hl:s.heap.get? l=some { cls:=.type "tuple",dict:=none,data:=.seq its n,slots:=sl })(hz:ps.length<=Au)(hlen:ps.length=its.size)
  (hp:∀ (i:Nat) kv,ps[i]?=some kv->∃ z key,its[i]?=some (.ref z)/\knd.is kv.1 key=true/\TupAt s.heap z key kv.2)
  (h:∀ (h':Heap) (tk:Nat),(∀ b o,s.heap.get? b=some o->h'.get? b=some o)->h'.DictOf knd s.heap.objs.size (ps.foldl (λacc kv=>stored acc kv.1 kv.2) [])->Q (.ref s.heap.objs.size) { s with heap:=h',toks:=tk }) :
  wpAny (model P w) A (call (.type "dict") [.ref l]) Q E s:=by
 obtain ⟨c,tl,hmro⟩:=CL.mro;have hmade:=CL.made;have hsub:=CL.sub;refine EA (Fu ?_);show wpAny _ _ (callAny (.type "dict") _) _ _ _;refine Ag ⟨Et _ (by decide +kernel),CI F.entry_type_call ?_⟩;rw [Around.under_plain (weight_type_call_type "dict" [.ref l] []) rfl];have h1:=CL.notType;have h2:=CL.canCreate;have hct:=F.kt_typeCall_dict_1 (.ref l)
 repeat (any_goals (first|assumption|wp_step))
 refine Ck (kt_code_dict_new (.ref l) (E:=E) (Q₁:=λobj s1=>obj=.ref s.heap.objs.size/\s1={ s with heap:=s.heap.push nuD }) ⟨rfl,rfl⟩) λr s1 hr=>?_;cases r with
 |error e=>exact hr
 |ok fl=>
  cases fl with
  |ret obj=>
   obtain ⟨rfl,rfl⟩:=hr;have hS:(s.heap.push nuD).get? s.heap.objs.size=some nuD:=Ai _ rfl;have hT:Shared.TypeIs { s with heap:=s.heap.push nuD } (.ref s.heap.objs.size) "dict":=⟨_,hS,rfl⟩;have hli:=CL.init.lookup;have hbi:=CL.init.bind (.ref s.heap.objs.size)
   repeat (any_goals (first|assumption|wp_step))
   refine Ck (Ej (R:=wants (λr s2=>r=.none/\∃ h' tk,s2={ s with heap:=h',toks:=tk }/\h'.DictOf knd s.heap.objs.size (ps.foldl (λacc kv=>stored acc kv.1 kv.2) [])/\(∀ b o,s.heap.get? b=some o->h'.get? b=some o)) E) CL.init.plain F.entry_dict_init (CL.init.check _ _ _ _ _ _ _ _ hT (F.args_dict_init_2 _ _) ?_)) λr2 s2 hr2=>?_
   ·have hl1:(s.heap.push nuD).get? l=some { cls:=.type "tuple",dict:=none,data:=.seq its n,slots:=sl }:=Ac _ hl
    have hlS:l<s.heap.objs.size:=Ao hl;have hz1:(s.heap.push nuD).objs.size=s.heap.objs.size+1:=BH ..;show wpAny _ _ (AG.Dict.selfAndRest "__init__" ⟨[.ref s.heap.objs.size,.ref l],[]⟩ >>= _) _ _ _;refine Aa ?_;unfold AG.Dict.selfAndRest AG.Dict.notOrdered;rw [if_pos (by decide +kernel)];refine Aa (Aa (DW (T:="dict") hT ?_));rw [if_neg (by decide +kernel)];refine Ag ?_;refine Aa (Ew (a:=s.heap.objs.size) rfl (Ag ?_));show wpAny _ _ (AG.Dict.updateFrom "dict.__init__" s.heap.objs.size (.ref l) [] .none) _ _ _;unfold AG.Dict.updateFrom;refine Aa (DW (T:="tuple") ⟨_,hl1,rfl⟩ ?_);rw [if_pos (by decide +kernel)];refine Aa (qD hl1 (by simp [hh]) λh3 tk3 k3=>?_);rw [if_pos (show (none:Option Value).isNone=true from rfl)];refine Aa (Dw ?_);have hl3:h3.get? l=some { cls:=.type "tuple",dict:=none,data:=.seq its n,slots:=sl }:=k3 _ _ hl1;have hL3:h3.IsTuple l its:=⟨_,hl3,rfl,n,rfl⟩;refine Aa (EG hL3 ?_);have hd3:h3.get? s.heap.objs.size=some nuD:=k3 _ _ hS;have dlt:=Ao hd3;have llt:=Ao hl3;have old:∀ b o,s.heap.get? b=some o->(h3.push { cls:=.type "tuple_iterator",data:=.fields #[.ref l,.int 0 0] }).get? b=some o/\b≠s.heap.objs.size/\b≠h3.objs.size:=λb o e=>by
     have e3:=k3 _ _ (Ac nuD e);exact ⟨Ac _ e3,As (Ao e),As (Ao e3)⟩
    refine Ag ⟨EI gP _,vC (knd:=knd) (by simp [hh]) s.heap.objs.size h3.objs.size l its ps (As dlt) (Dr hlS) (Dr llt) hlen hz (h3.push { cls:=.type "tuple_iterator",data:=.fields #[.ref l,.int 0 0] }) ⟨_,(old l _ hl).1,rfl,n,rfl⟩ (λi kv hkv=>?_) its.size 0 _ (by lia) (Bu _) ⟨_,Ai _ rfl,rfl,rfl⟩ (λb o _ _ e=>e) ?_ (Aj _) λh' tk fr D=>⟨rfl,h',tk,rfl,D,λb o e=>fr b o (old b o e).2.1 (old b o e).2.2 (old b o e).1⟩⟩
    ·obtain ⟨z,key,e1,e2,o,m,e3,e4⟩:=hp i kv hkv
     exact ⟨z,key,e1,e2,(old z o e3).2.1,(old z o e3).2.2,o,m,(old z o e3).1,e4⟩
    ·exact ⟨nuD,#[],0,Ac _ hd3,⟨rfl,rfl,rfl⟩,rfl,(λe he=>by simp at he),.nil,Ea⟩
   ·cases r2 with
    |error e=>exact hr2
    |ok f2=>
     cases f2 with
     |ret r=>
      obtain ⟨rfl,h',tk,rfl,S',hk'⟩:=hr2
      repeat (any_goals (first|assumption|wp_step))
      exact h _ _ hk' S'
     |_=>exact hr2.elim
  |_=>exact hr.elim
end
end DX
namespace L2
open PySem PySem.Spec PyProof.Rows
section
variable {X:Cx}
def aGz:Gq->Hp->VK->Prop:=λxs H Q=>∃ (a:Gj) (us:Gq) (kvs:Gp),xs=[.ref a]/\H a=some (.tup us)/\us.length=kvs.length/\(kvs.map (·.1)).Nodup /\
 (∀ (i:Nat) u kv,us[i]?=some u->kvs[i]?=some kv->∃ z,u=.ref z/\H z=some (.tup [kV kv.1,kv.2]))/\∀ p,H p=none->Q (.ref p) (upd H p (.dK kvs))
def lP (hc:X.calm=true):fH X (.type "dict") (aGz):=by
 intro U s Z H xs us' Q I r h;obtain ⟨a,us,kvs,rfl,hH,hl,nd,hp,q⟩:=h;obtain ⟨u,rfl,rx⟩:=vals1 r;cases rx;obtain ⟨⟨z,nd0⟩,its,rv,ob,e0,e1,n,e2⟩:(us.length<=Au/\NoD s.heap a)/\∃ its:Gi,Vals us its/\PyProof.Rows.IsTup s.heap a its.toArray:=I.hok a _ hH;obtain ⟨oc,od,odt,osl⟩:=ob;have e3:od=none:=nd0.at e0;have e1':oc=.type "tuple":=e1;have e2':odt=.seq its.toArray n:=e2;subst e3 e1' e2';have e:=e0;have vl:=rv.length;have at':∀ (i:Nat) kv,kvs[i]?=some kv->∃ z key v,its[i]?=some (.ref z)/\RelV (kV kv.1) key/\RelV kv.2 v/\DX.TupAt s.heap z key v:=λi kv hkv=>by
  have hi:=(Ad.mp hkv).1;obtain ⟨u,hu⟩:∃ u,us[i]?=some u:=⟨_,Ae (by lia)⟩;obtain ⟨z,rfl,hz⟩:=hp i u kv hu hkv;obtain ⟨v,hv,ru⟩:=rv.get hu;cases ru;obtain ⟨_,ts,rt,o,ho,hc',m,hd⟩:_/\∃ ts,Vals [kV kv.1,kv.2] ts/\s.heap.IsTuple z ts.toArray:=I.hok z _ hz;obtain ⟨k1,v1,rfl,r1,r2⟩:=vals2 rt;exact ⟨z,k1,v1,hv,r1,r2,o,m,ho,hc',hd⟩
 obtain ⟨vs,kvr,vat⟩:∃ vs:List (Key×Gk),KV kvs vs/\∀ (i:Nat) kv,vs[i]?=some kv->∃ z key,its.toArray[i]?=some (.ref z)/\(bD X.prog X.w).is kv.1 key=true/\DX.TupAt s.heap z key kv.2:=by
  have key:∀ (kvs:Gp) (j:Nat),(∀ (i:Nat) kv,kvs[i]?=some kv->∃ z key v,its[j+i]?=some (.ref z)/\RelV (kV kv.1) key/\RelV kv.2 v/\DX.TupAt s.heap z key v)->∃ vs:List (Key×Gk),KV kvs vs/\∀ (i:Nat) kv,vs[i]?=some kv->∃ z key,its.toArray[j+i]?=some (.ref z)/\(bD X.prog X.w).is kv.1 key=true/\DX.TupAt s.heap z key kv.2:=by
   intro kvs
   induction kvs with
   |nil=>exact λj _=>⟨[],.nil,λi kv h=>by simp at h⟩
   |cons kv r ih=>
    intro j h;obtain ⟨vs,a1,a2⟩:=ih (j+1) λi kv hk=>by
     have:=h (i+1) kv (by simpa using hk);rwa [show j+(i+1)=j+1+i by lia] at this
    obtain ⟨z,key,v,b1,b2,b3,b4⟩:=h 0 kv rfl;refine ⟨(kv.1,v)::vs,.cons ⟨rfl,b3⟩ a1,λi kw hk=>?_⟩;cases i with
    |zero=>
     cases (show some (kv.1,v)=some kw from hk);exact ⟨z,key,by simpa using b1,uN b2,b4⟩
    |succ i=>
     have:=a2 i kw (by simpa using hk);rwa [show j+(i+1)=j+1+i by lia]
  obtain ⟨vs,a1,a2⟩:=key kvs 0 λi kv hk=>by rw [Nat.zero_add];exact at' i kv hk
  exact ⟨vs,a1,λi kv hk=>by have:=a2 i kv hk;rwa [Nat.zero_add] at this⟩
 have kl:=kvr.length;refine DX.call_dict_tup (knd:=bD X.prog X.w) (I.ok.hd hc) e (ps:=vs) (by lia) (by rw [An];lia) vat λh' tk k3 D=>?_;have rel:=yL kvr (acc:=[]) (bcc:=[]) .nil;rw [sY kvs [] nd (λ_ _ _ h=>nomatch h),List.nil_append] at rel;exact ⟨.ref _,_,I.laid (a:=s.heap.objs.size) (o:=.dK kvs) (t':=tk) k3 (Aj _) ⟨by lia,beq_eq_false_iff_ne.mpr (Bi (As I.big)),_,rel,D⟩,rfl,q _ (I.hok.fresh (Aj _))⟩
end
def aF8 (K:Ab)(ta:TE):TE:=λZ H Q=>ta Z H λv H1=>∃ a x y,v=.ref a/\SqT K H1 a [.str x,.str y]/\(∀ c∈x.cps.toList,c<16^8)/\(∀ c∈y.cps.toList,c<16^8)/\x.length<=20/\y.length<=20 /\
 ∀ z:Str,z.length<=500->Q (.str z) H1
def aGi (x y:Str):(PyData.tuple [.str x,.str y]).shown.length=(Fb x).length+(Fb y).length+4:=by
 have e:(PyData.tuple [.str x,.str y]).shown=tupleText [Fb x,Fb y]:=by
  simp only [PyData.shown,PyData.shownAll]
 rw [e];have j:=join_length_add [Fb x,Fb y] (by simp);unfold tupleText;have p:piled [Fb x,Fb y]=(Fb x).length+2+((Fb y).length+2):=by simp [piled]
 have c:(if ([Fb x,Fb y].length==1)=true then (",)":String) else ")") = ")":=rfl
 rw [c];have l1:(("(":Str)).length=1:=by decide +kernel
 have l2:(((")":String):Str)).length=1:=by decide +kernel
 rw [Str.length_append,Str.length_append];rw [l1];have l2':(CN ")").length=1:=l2
 rw [l2'];lia
def aEo {k:Nat}(hr:Room k X.A)(ha:PE X value ta):PE X (.FormattedValue value (-1) none pos) (aF8 X.K ta):=by
 intro U s Z H Q I h;refine FormattedValue_plain (thn (ha U s Z H _ I h) λu s1 ⟨v,H1,I1,rv,a,x,y,ev,sq,cx,cy,lx,ly,q⟩=>?_);subst ev;cases rv;obtain ⟨its,r,⟨o,ho,hc,n,hd⟩,hz⟩:=I1.tuple sq;obtain ⟨u1,u2,rfl,⟨t1,rfl⟩,⟨t2,rfl⟩⟩:=vals2 r;have rd:Reads s1.heap (.ref a) (.tuple [.str x,.str y]) ([]++([]++[])):=.tuple ho hc hd (.cons (.str x t1) (.cons (.str y t2) .nil));have b1:=StrLaws.reprText_len x cx;have b2:=StrLaws.reprText_len y cy;have sl:=aGi x y;have un:=hr.units;refine formatField_of_reads rd (by simp [PyData.showable,PyData.showableAll]) (λ_ h=>by simp at h) hr.gd (by simp only [PyData.depth,PyData.depthAll];lia) (λ_ _ e=>e) (λh' u tk k=>⟨.str _,H1,I1.kept (t':=tk) k,⟨_,rfl⟩,q _ (by lia)⟩) (by rw [sl];exact AR (show _<=448 by lia) (by decide))
end L2
namespace K51
open PySem PySem.Spec PyProof.Rows L2 GM TM
abbrev sE0:Stmt:=inClass (top 5) 0
abbrev sE1:Stmt:=inClass (top 7) 0
abbrev sE2:Stmt:=inClass (top 6) 0
abbrev sE3:Stmt:=inClass (top 8) 0
abbrev sE4:Stmt:=inClass (top 9) 0
abbrev sE5:Stmt:=inClass (top 4) 0
abbrev aCk:Stmt:=inClass (top 33) 0
abbrev wB:Stmt:=inClass (top 33) 1
abbrev aCj:Stmt:=inClass (top 34) 0
abbrev wA:Stmt:=inClass (top 34) 1
abbrev aCi:Stmt:=inClass (top 35) 0
abbrev jM:Stmt:=inClass (top 35) 1
abbrev wH:Stmt:=inClass (top 36) 0
abbrev pM:Stmt:=inClass (top 36) 1
abbrev wG:Stmt:=inClass (top 37) 0
abbrev pK:Stmt:=inClass (top 37) 1
structure Er1 (K:Ab)(cP c f:Gj)(fs:Gh):Prop where
 e:∀ x∈fs,ExF K c cP f x
 s:PySem.W.subIn K (.ref c) (.ref cP)=some true
structure ErB (K:Ab)(mg:Gb)(cP c0 c1 c2 c3 c4 c5 f0 f1 f2 f3 f4 f5:Gj):Prop where
 ct:CtK K cP
 bi:BaseI K cP
 mP:mg "PhialError" = some (.ref cP)
 r0:Er1 K cP c0 f0 ["place","phial"]
 r1:Er1 K cP c1 f1 ["place","phial"]
 r2:Er1 K cP c2 f2 ["place","phial"]
 r3:Er1 K cP c3 f3 ["place","phial","over"]
 r4:Er1 K cP c4 f4 ["place","phial","pair"]
 r5:Er1 K cP c5 f5 ["place"]
 m0:mg "Dry" = some (.ref c0)
 m1:mg "Low" = some (.ref c1)
 m2:mg "Wet" = some (.ref c2)
 m3:mg "Spilt" = some (.ref c3)
 m4:mg "Touch" = some (.ref c4)
 m5:mg "NoDeed" = some (.ref c5)
def vA (e c:Gj)(fl:Gn)(H:Hp)(Q:VK):Prop:=∀ dx H',dx≠e->(∀ p o,p≠e->H p=some o->H' p=some o)->H' e=some (exN e c (some dx))->H' dx=some (xdE dx fl)->Q .non H'
def spI1 (c:Gj):Sp:=λvs H Q _=>∃ (e:Gj) (n:Nat),vs=[.ref e,.int (n:Nat)]/\n<1000/\H e=some (exN e c none)/\vA e c [("place",.int (n:Nat))] H Q
def spI2 (c:Gj):Sp:=λvs H Q _=>∃ (e:Gj) (n p:Nat),vs=[.ref e,.int (n:Nat),.int (p:Nat)]/\n<1000/\p<1000/\H e=some (exN e c none)/\vA e c [("phial",.int (p:Nat)),("place",.int (n:Nat))] H Q
def spI3 (c:Gj):Sp:=λvs H Q _=>∃ (e:Gj) (n p:Nat) (u:V),vs=[.ref e,.int (n:Nat),.int (p:Nat),u]/\n<1000/\p<1000/\H e=some (exN e c none)/\vA e c [("over",u),("phial",.int (p:Nat)),("place",.int (n:Nat))] H Q
def aDr (K:Ab)(c:Gj):Sp:=λvs H Q _=>∃ (e a:Gj) (n p:Nat) (x y:Str),vs=[.ref e,.int (n:Nat),.int (p:Nat),.ref a]/\n<1000/\p<1000/\SqT K H a [.str x,.str y]/\Wr x/\Wr y/\H e=some (exN e c none)/\vA e c [("pair",.ref a),("phial",.int (p:Nat)),("place",.int (n:Nat))] H Q
def BadE (c:Gj)(fl:Gn)(H:Hp)(E:XK):Prop:=∀ dx H',Same H H'->H' dx=some (xdE dx fl)->E (.ref c) (some dx) H'
def BadE.mono {c:Gj}{fl:Gn}{H H1:Hp}{E:XK}(h:BadE c fl H E)(s:Same H H1):BadE c fl H1 E:=λdx H' s' hd=>h dx H' (s.trans s') hd
def mF {e c:Gj}{fl:Gn}{H:Hp}{E:XK}(he:H e=none)(h:BadE c fl H E):vA e c fl (upd H e (exN e c none)) (λv H2=>v=.non/\∃ dd,H2 e=some (exN e c dd)/\E (.ref c) dd (rem H2 e)):=λdx H' ne sm hE hd=>by
 refine ⟨rfl,some dx,hE,h dx _ (λp o hp=>?_) (by rw [nI ne];exact hd)⟩;have n1:p≠e:=λz=>by rw [z,he] at hp;cases hp
 rw [nI n1];exact sm p o n1 (by rw [aK n1];exact hp)
abbrev tP (c:Gj)(vs:Gq)(sp:Sp)(H:Hp)(E:XK):Prop:=vs.length<=Au/\∀ e,H e=none->sp (.ref e::vs) (upd H e (exN e c none)) (λv H2=>v=.non/\∃ dd,H2 e=some (exN e c dd)/\E (.ref c) dd (rem H2 e)) E0
def aGx {c:Gj}{n:Nat}{H:Hp}{E:XK}(hn:n<1000)(h:BadE c [("place",.int (n:Nat))] H E):tP c [.int (n:Nat)] (spI1 c) H E:=
 ⟨zLn1,λe he=>⟨e,n,rfl,hn,aB,mF he h⟩⟩
def wM {c:Gj}{n p:Nat}{H:Hp}{E:XK}(hn:n<1000)(hp:p<1000)(h:BadE c [("phial",.int (p:Nat)),("place",.int (n:Nat))] H E):tP c [.int (n:Nat),.int (p:Nat)] (spI2 c) H E:=
 ⟨zLn2,λe he=>⟨e,n,p,rfl,hn,hp,aB,mF he h⟩⟩
def aGw {c:Gj}{n p:Nat}{u:V}{H:Hp}{E:XK}(hn:n<1000)(hp:p<1000)(h:BadE c [("over",u),("phial",.int (p:Nat)),("place",.int (n:Nat))] H E):tP c [.int (n:Nat),.int (p:Nat),u] (spI3 c) H E:=
 ⟨zLn3,λe he=>⟨e,n,p,u,rfl,hn,hp,aB,mF he h⟩⟩
def aEf {K:Ab}{c a:Gj}{n p:Nat}{x y:Str}{H:Hp}{E:XK}(hn:n<1000)(hp:p<1000)(sq:H a=some (.tup [.str x,.str y]))(wx:Wr x)(wy:Wr y)(h:BadE c [("pair",.ref a),("phial",.int (p:Nat)),("place",.int (n:Nat))] H E):tP c [.int (n:Nat),.int (p:Nat),.ref a] (aDr K c) H E:=
 ⟨zLn3,λe he=>⟨e,a,n,p,x,y,rfl,hn,hp,Gv ((Gu he) _ _ sq),wx,wy,aB,mF he h⟩⟩
def MdE (e c:Gj)(fl:Gn)(H0 H:Hp):Prop:=∃ dx,H0 dx=none/\dx≠e/\(∀ p o,p≠e->H0 p=some o->H p=some o)/\H e=some (exN e c (some dx))/\H dx=some (xdE dx fl)
def eI {K:Ab}{cP c f e:Gj}{n:V}{tj:TJ}{t:TS}{D:Ends}{Z:L2.St}{H:Hp}(F:ExF K c cP f "place")(h0:Z[0]?=some (some (.ref e)))(h1:Z[1]?=some (some n))(he:H e=some (exN e c none))(hj:∀ Q:Str->Hp->Prop,(∀ z,Q z H)->tj Str.empty Z H Q)
  (k:∀ H',MdE e c [("place",n)] H H'->t D Z H'):tSeq (aF9 (aCc K cP (vL (tVar 0) (vL (aF7 tj) tNil)))) (tSeq (sExN K c cP f (tVar 0) (tVar 1) "place") t) D Z H:=
 ⟨_,h0,hj _ λz=>⟨e,c,none,f,z,rfl,he,F.i,_,h1,_,h0,e,rfl,he,F,λdx hd ne=>k _ ⟨dx,hd,ne,λp o n1 hp=>by
  rw [aK (λz=>by rw [z,hd] at hp;cases hp),aK n1];exact hp,by rw [aK (Bi ne),aB],aB⟩⟩⟩
def eM {K:Ab}{cP c f e:Gj}{v:V}{x:Str}{i:Nat}{fl:Gn}{D:Ends}{Z:L2.St}{H0 H:Hp}(F:ExF K c cP f x)(h0:Z[0]?=some (some (.ref e)))(hi:Z[i]?=some (some v))(l:fl.length<=90)(m:MdE e c fl H0 H)(k:∀ H',MdE e c ((x,v)::fl) H0 H'->D.nx Z H'):sExM K c cP f (tVar 0) (tVar i) x D Z H:=by
 obtain ⟨dx,nd,ne,sm,h1,h2⟩:=m;refine ⟨_,hi,_,h0,e,dx,fl,rfl,h1,h2,l,F,k _ ⟨dx,nd,ne,λp o n1 hp=>?_,by rw [aK (Bi ne)];exact h1,aB⟩⟩;rw [aK (λz=>by rw [z,nd] at hp;cases hp)];exact sm p o n1 hp
theorem MdE.go {e c:Gj}{fl:Gn}{H0 H:Hp}{Q:VK}(m:MdE e c fl H0 H)(k:vA e c fl H0 Q):Q .non H:=by
 obtain ⟨dx,_,ne,sm,h1,h2⟩:=m;exact k dx H ne sm h1 h2
def fs3 (f1 f2 f3:Str)(u1 u2 u3:V):Gn:=putF f3 u3 (putF f2 u2 (putF f1 u1 []))
def fs1 (f1:Str)(u1:V):Gn:=putF f1 u1 []
def kW (C:Gj)(f1 f2 f3:Str):Sp:=λvs H Q _=>∃ (p dx:Gj) (u1 u2 u3:V),vs=[.ref p,u1,u2,u3]/\H p=some (.ins C dx [])/\∀ H',(∀ b o,b≠p->H b=some o->H' b=some o)->H' p=some (.ins C dx (fs3 f1 f2 f3 u1 u2 u3))->Q .non H'
def pA (C:Gj)(f1:Str):Sp:=λvs H Q _=>∃ (p dx:Gj) (u1:V),vs=[.ref p,u1]/\H p=some (.ins C dx [])/\∀ H',(∀ b o,b≠p->H b=some o->H' b=some o)->H' p=some (.ins C dx (fs1 f1 u1))->Q .non H'
theorem sM (f:Str)(v:V):∀ fs:Gn,(putF f v fs).length<=fs.length+1
  |[]=>Aj _
  |(g,x)::r=>by
    unfold putF;split
    . exact Dj _
    . exact Nat.succ_le_succ (sM f v r)
def aFj {f1 f2 f3:Str}{u1 u2 u3:V}(n3:f1≠f3)(n2:f1≠f2):(fs3 f1 f2 f3 u1 u2 u3).lookup f1=some u1:=by
 unfold fs3;rw [bF,if_neg n3,bF,if_neg n2,bF,if_pos rfl]
def aFi {f1 f2 f3:Str}{u1 u2 u3:V}(n3:f2≠f3):(fs3 f1 f2 f3 u1 u2 u3).lookup f2=some u2:=by
 unfold fs3;rw [bF,if_neg n3,bF,if_pos rfl]
def aFh {f1 f2 f3:Str}{u1 u2 u3:V}:(fs3 f1 f2 f3 u1 u2 u3).lookup f3=some u3:=by
 unfold fs3;rw [bF,if_pos rfl]
def yZ {f1 f2 f3 m:Str}{u1 u2 u3:V}(n1:m≠f1)(n2:m≠f2)(n3:m≠f3):(fs3 f1 f2 f3 u1 u2 u3).lookup m=none:=by
 unfold fs3;rw [bF,if_neg n3,bF,if_neg n2,bF,if_neg n1];rfl
def zA {f1:Str}{u1:V}:(fs1 f1 u1).lookup f1=some u1:=by
 unfold fs1;rw [bF,if_pos rfl]
def aC0 {f1 m:Str}{u1:V}(n1:m≠f1):(fs1 f1 u1).lookup m=none:=by
 unfold fs1;rw [bF,if_neg n1];rfl
structure DCl (K:Ab)(C:Gj)(fs:Gh):Prop where
 cl:Cls K C
 na:∀ f∈fs,NoAttr K C f
section
variable {P:Aw}{w:World}{K:Ab}{mg:Gb}{base:Heap}{cP c0 c1 c2 c3 c4 c5 f0 f1 f2 f3 f4 f5 C:Gj}{f:Gj}{fd:Az}
theorem cpsT (t:Nat):cps ((toString (t:Int):String):Str)=dg t:=PySem.W.KIN.signs_num t
def logT {t:Nat}(h:t<10^60):((t:Int)).natAbs.log2<1920:=by
 rw [Int.natAbs_natCast]
 by_cases z:t=0
 ·subst z
  decide
 ·exact (Nat.log2_lt z).mpr (El h (by decide +kernel))
def aEe {n:Nat}(h:n<1000):((toString (n:Int):String):Str).length<=60:=by
 rw [lenC,cpsT];exact aH5 (El h (by decide +kernel))
def mY {x:Str}(h:Wr x):∀ c∈x.cps.toList,c<16^8:=λc hc=>by
 exact DI (h.lt c hc).2 (by decide)
def jN {i n:Nat}{b:Str}{r:TJ}{acc:Str}{Z:L2.St}{H:Hp}{Q:Str->Hp->Prop}{m j:Nat}(la:acc.length<=m)(hj:m+b.length+120<=j/\j<=900)(hi:Z[i]?=some (some (.int (n:Nat))))(hn:n<1000)(k:∀ z:Str,z.length<=j->r z Z H Q):uO (tC (.str b)) (uO (tFmt (tVar i)) r) acc Z H Q:=by
 have hl:=aEe hn;obtain ⟨hj,j1⟩:=hj;refine ⟨_,rfl,?_,_,hi,_,⟨logT (El hn (by decide +kernel)),rfl⟩,_,rfl,?_,k _ ?_⟩
 ·rw [lenA];exact cJ (by lia)
 ·rw [lenA,lenA];exact cJ (by lia)
 ·rw [lenA,lenA];lia
def jE {b:Str}{acc:Str}{Z:L2.St}{H:Hp}{Q:Str->Hp->Prop}{m:Nat}(la:acc.length<=m)(l':m+b.length<=1000)(k:∀ z,Q z H):uO (tC (.str b)) jNil acc Z H Q:=
 have l:acc.length+b.length<=1000:=by lia
 ⟨_,rfl,by rw [lenA];exact cJ l,by rw [lenA];exact cJ l,k _⟩
def scE0:FnScope ["self","place","phial"] ["self","place","phial"] (aH sE0):=fnScOk (by decide +kernel)
def aI3 (F:Fun K "__init__" "Dry.__init__" sE0 f fd)(R:ErB K mg cP c0 c1 c2 c3 c4 c5 f0 f1 f2 f3 f4 f5):FnOk P w K mg base CX0 1 f fd ["self","place","phial"] (spI2 c0):=by
 refine F.ok scE0 (λvs H Q E h=>?_) (λcdv A outer s H vs Q E hr h=>?_)
 ·obtain ⟨_,_,_,e,_⟩:=h
  rw [e];rfl
 ·obtain ⟨e,n,p,rfl,hn,hp,he,k⟩:=h
  exact ⟨_,aD (dP (fW rfl R.mP R.bi (aA (pv 0) (aA (iC (bC aS (bC (fS (pv 1)) (bC aS (bC (fS (pv 2)) (bC aS lD)))))) aC)))) (aD (lC (C:=c0) (P:=cP) (f:=f0) rfl (pv 0) (pv 1) rfl) (aE (jR (C:=c0) (P:=cP) (f:=f0) (pv 0) (pv 2) rfl))),eI (R.r0.e _ (by simp)) rfl rfl he (λ_ k=>jN (m:=0) (j:=160) (by decide) (by decide +kernel) rfl hn λz hz=>jN (j:=320) hz (by decide +kernel) rfl hp λz hz=>jE hz (by decide +kernel) k) λ_ m=>eM (R.r0.e _ (by simp)) rfl rfl (by simp) m λ_ m=>m.go k⟩
def scE1:FnScope ["self","place","phial"] ["self","place","phial"] (aH sE1):=fnScOk (by decide +kernel)
def aI2 (F:Fun K "__init__" "Low.__init__" sE1 f fd)(R:ErB K mg cP c0 c1 c2 c3 c4 c5 f0 f1 f2 f3 f4 f5):FnOk P w K mg base CX0 1 f fd ["self","place","phial"] (spI2 c1):=by
 refine F.ok scE1 (λvs H Q E h=>?_) (λcdv A outer s H vs Q E hr h=>?_)
 ·obtain ⟨_,_,_,e,_⟩:=h
  rw [e];rfl
 ·obtain ⟨e,n,p,rfl,hn,hp,he,k⟩:=h
  exact ⟨_,aD (dP (fW rfl R.mP R.bi (aA (pv 0) (aA (iC (bC aS (bC (fS (pv 1)) (bC aS (bC (fS (pv 2)) (bC aS lD)))))) aC)))) (aD (lC (C:=c1) (P:=cP) (f:=f1) rfl (pv 0) (pv 1) rfl) (aE (jR (C:=c1) (P:=cP) (f:=f1) (pv 0) (pv 2) rfl))),eI (R.r1.e _ (by simp)) rfl rfl he (λ_ k=>jN (m:=0) (j:=160) (by decide) (by decide +kernel) rfl hn λz hz=>jN (j:=320) hz (by decide +kernel) rfl hp λz hz=>jE hz (by decide +kernel) k) λ_ m=>eM (R.r1.e _ (by simp)) rfl rfl (by simp) m λ_ m=>m.go k⟩
def scE2:FnScope ["self","place","phial"] ["self","place","phial"] (aH sE2):=fnScOk (by decide +kernel)
def aI1 (F:Fun K "__init__" "Wet.__init__" sE2 f fd)(R:ErB K mg cP c0 c1 c2 c3 c4 c5 f0 f1 f2 f3 f4 f5):FnOk P w K mg base CX0 1 f fd ["self","place","phial"] (spI2 c2):=by
 refine F.ok scE2 (λvs H Q E h=>?_) (λcdv A outer s H vs Q E hr h=>?_)
 ·obtain ⟨_,_,_,e,_⟩:=h
  rw [e];rfl
 ·obtain ⟨e,n,p,rfl,hn,hp,he,k⟩:=h
  exact ⟨_,aD (dP (fW rfl R.mP R.bi (aA (pv 0) (aA (iC (bC aS (bC (fS (pv 1)) (bC aS (bC (fS (pv 2)) (bC aS lD)))))) aC)))) (aD (lC (C:=c2) (P:=cP) (f:=f2) rfl (pv 0) (pv 1) rfl) (aE (jR (C:=c2) (P:=cP) (f:=f2) (pv 0) (pv 2) rfl))),eI (R.r2.e _ (by simp)) rfl rfl he (λ_ k=>jN (m:=0) (j:=160) (by decide) (by decide +kernel) rfl hn λz hz=>jN (j:=320) hz (by decide +kernel) rfl hp λz hz=>jE hz (by decide +kernel) k) λ_ m=>eM (R.r2.e _ (by simp)) rfl rfl (by simp) m λ_ m=>m.go k⟩
def scE3:FnScope ["self","place","phial","over"] ["self","place","phial","over"] (aH sE3):=fnScOk (by decide +kernel)
def aI0 (F:Fun K "__init__" "Spilt.__init__" sE3 f fd)(R:ErB K mg cP c0 c1 c2 c3 c4 c5 f0 f1 f2 f3 f4 f5):FnOk P w K mg base CX0 1 f fd ["self","place","phial","over"] (spI3 c3):=by
 refine F.ok scE3 (λvs H Q E h=>?_) (λcdv A outer s H vs Q E hr h=>?_)
 ·obtain ⟨_,_,_,_,e,_⟩:=h
  rw [e];rfl
 ·obtain ⟨e,n,p,u,rfl,hn,hp,he,k⟩:=h
  exact ⟨_,aD (dP (fW rfl R.mP R.bi (aA (pv 0) (aA (iC (bC aS (bC (fS (pv 1)) (bC aS (bC (fS (pv 2)) (bC aS lD)))))) aC)))) (aD (lC (C:=c3) (P:=cP) (f:=f3) rfl (pv 0) (pv 1) rfl) (aD (jR (C:=c3) (P:=cP) (f:=f3) (pv 0) (pv 2) rfl) (aE (jR (C:=c3) (P:=cP) (f:=f3) (pv 0) (pv 3) rfl)))),eI (R.r3.e _ (by simp)) rfl rfl he (λ_ k=>jN (m:=0) (j:=160) (by decide) (by decide +kernel) rfl hn λz hz=>jN (j:=320) hz (by decide +kernel) rfl hp λz hz=>jE hz (by decide +kernel) k) λ_ m=>eM (R.r3.e _ (by simp)) rfl rfl (by simp) m λ_ m=>eM (R.r3.e _ (by simp)) rfl rfl (by simp) m λ_ m=>m.go k⟩
def jP {i:Nat}{a:Gj}{x y b:Str}{acc:Str}{Z:L2.St}{H:Hp}{Q:Str->Hp->Prop}(wx:Wr x)(wy:Wr y)(sq:SqT K H a [.str x,.str y]){m:Nat}(la:acc.length<=m)(l:m+b.length<=400)(hi:Z[i]?=some (some (.ref a)))(k:∀ z,Q z H):uO (tC (.str b)) (uO (aF8 K (tVar i)) jNil) acc Z H Q:=by
 refine ⟨_,rfl,?_,_,hi,a,x,y,rfl,sq,mY wx,mY wy,(by have:=wx.l8;lia),(by have:=wy.l8;lia),λz hz=>⟨z,rfl,?_,?_,k _⟩⟩
 ·rw [lenA];exact cJ (by lia)
 ·rw [lenA,lenA];exact cJ (by lia)
 ·rw [lenA,lenA];exact cJ (by lia)
def scE4:FnScope ["self","place","phial","pair"] ["self","place","phial","pair"] (aH sE4):=fnScOk (by decide +kernel)
def aIz (F:Fun K "__init__" "Touch.__init__" sE4 f fd)(R:ErB K mg cP c0 c1 c2 c3 c4 c5 f0 f1 f2 f3 f4 f5):FnOk P w K mg base CX0 1 f fd ["self","place","phial","pair"] (aDr K c4):=by
 refine F.ok scE4 (λvs H Q E h=>?_) (λcdv A outer s H vs Q E hr h=>?_)
 ·obtain ⟨_,_,_,_,_,_,e,_⟩:=h
  rw [e];rfl
 ·obtain ⟨e,a,n,p,x,y,rfl,hn,hp,sq,wx,wy,he,k⟩:=h
  exact ⟨_,aD (dP (fW rfl R.mP R.bi (aA (pv 0) (aA (iC (bC aS (bC (fS (pv 1)) (bC aS (bC (fS (pv 2)) (bC aS (bC (aEo hr (pv 3)) lD))))))) aC)))) (aD (lC (C:=c4) (P:=cP) (f:=f4) rfl (pv 0) (pv 1) rfl) (aD (jR (C:=c4) (P:=cP) (f:=f4) (pv 0) (pv 2) rfl) (aE (jR (C:=c4) (P:=cP) (f:=f4) (pv 0) (pv 3) rfl)))),eI (R.r4.e _ (by simp)) rfl rfl he (λ_ k=>jN (m:=0) (j:=160) (by decide) (by decide +kernel) rfl hn λz hz=>jN (j:=320) hz (by decide +kernel) rfl hp λz hz=>jP wx wy sq hz (by decide +kernel) rfl k) λ_ m=>eM (R.r4.e _ (by simp)) rfl rfl (by simp) m λ_ m=>eM (R.r4.e _ (by simp)) rfl rfl (by simp) m λ_ m=>m.go k⟩
def scE5:FnScope ["self","place"] ["self","place"] (aH sE5):=fnScOk (by decide +kernel)
def aIy (F:Fun K "__init__" "NoDeed.__init__" sE5 f fd)(R:ErB K mg cP c0 c1 c2 c3 c4 c5 f0 f1 f2 f3 f4 f5):FnOk P w K mg base CX0 1 f fd ["self","place"] (spI1 c5):=by
 refine F.ok scE5 (λvs H Q E h=>?_) (λcdv A outer s H vs Q E hr h=>?_)
 ·obtain ⟨_,_,e,_⟩:=h
  rw [e];rfl
 ·obtain ⟨e,n,rfl,hn,he,k⟩:=h
  exact ⟨_,aD (dP (fW rfl R.mP R.bi (aA (pv 0) (aA (iC (bC aS (bC (fS (pv 1)) (bC aS lD)))) aC)))) (aD (lC (C:=c5) (P:=cP) (f:=f5) rfl (pv 0) (pv 1) rfl) aQ),eI (R.r5.e _ (by simp)) rfl rfl he (λ_ k=>jN (m:=0) (j:=160) (by decide) (by decide +kernel) rfl hn λz hz=>jE hz (by decide +kernel) k) λ_ m=>m.go k⟩
def i3 {f1 f2 f3:Str}{N:Gh}{vs:Gq}{H:Hp}{Q:VK}{E:XK}(D:DCl K C [f1,f2,f3])(h:kW C f1 f2 f3 vs H Q E):tSeq (sFld K (tVar 0) (tVar 1) f1) (tSeq (sFld K (tVar 0) (tVar 2) f2) (sFld K (tVar 0) (tVar 3) f3)) { nx:=λ_ H'=>Q .non H',rt:=Q } (start N vs) H:=by
 obtain ⟨p,dx,u1,u2,u3,rfl,hp,k⟩:=h;refine ⟨_,rfl,_,rfl,p,C,dx,[],rfl,hp,D.cl,D.na _ (by simp),(by show 0<1000;decide),_,rfl,_,rfl,p,C,dx,_,rfl,aB,D.cl,D.na _ (by simp),(by show 1<1000;decide),?_⟩;exact ⟨_,rfl,_,rfl,p,C,dx,_,rfl,aB,D.cl,D.na _ (by simp),(DI (sM ..) (by show 2<1000;decide)),k _ (λb o nb hb=>by rw [aK nb,aK nb,aK nb];exact hb) aB⟩
def i1 {f1:Str}{N:Gh}{vs:Gq}{H:Hp}{Q:VK}{E:XK}(D:DCl K C [f1])(h:pA C f1 vs H Q E):sFld K (tVar 0) (tVar 1) f1 { nx:=λ_ H'=>Q .non H',rt:=Q } (start N vs) H:=by
 obtain ⟨p,dx,u1,rfl,hp,k⟩:=h;exact ⟨_,rfl,_,rfl,p,C,dx,[],rfl,hp,D.cl,D.na _ (by simp),(by show 0<1000;decide),k _ (λb o nb hb=>by rw [aK nb];exact hb) aB⟩
def aBn (F:Fun K "__init__" "Draw.__init__" aCk f fd)(D:DCl K C ["phial","ware","amount"]):FnOk P w K mg base CX0 1 f fd ["self","phial","ware","amount"] (kW C "phial" "ware" "amount"):=
 F.ok (N:=["self","phial","ware","amount"]) (fnScOk (by decide +kernel)) (λ_ _ _ _ ⟨_,_,_,_,_,e,_⟩=>e▸rfl) λ_ _ _ _ _ _ _ _ hr h=>⟨_,(aD (fP (pv 0) (pv 1) rfl) (aD (fP (pv 0) (pv 2) rfl) (aE (fP (pv 0) (pv 3) rfl)))),i3 D h⟩
def aBm (F:Fun K "__init__" "Fill.__init__" aCj f fd)(D:DCl K C ["phial","ware","level"]):FnOk P w K mg base CX0 1 f fd ["self","phial","ware","level"] (kW C "phial" "ware" "level"):=
 F.ok (N:=["self","phial","ware","level"]) (fnScOk (by decide +kernel)) (λ_ _ _ _ ⟨_,_,_,_,_,e,_⟩=>e▸rfl) λ_ _ _ _ _ _ _ _ hr h=>⟨_,(aD (fP (pv 0) (pv 1) rfl) (aD (fP (pv 0) (pv 2) rfl) (aE (fP (pv 0) (pv 3) rfl)))),i3 D h⟩
def aBl (F:Fun K "__init__" "Pour.__init__" aCi f fd)(D:DCl K C ["one","other","part"]):FnOk P w K mg base CX0 1 f fd ["self","one","other","part"] (kW C "one" "other" "part"):=
 F.ok (N:=["self","one","other","part"]) (fnScOk (by decide +kernel)) (λ_ _ _ _ ⟨_,_,_,_,_,e,_⟩=>e▸rfl) λ_ _ _ _ _ _ _ _ hr h=>⟨_,(aD (fP (pv 0) (pv 1) rfl) (aD (fP (pv 0) (pv 2) rfl) (aE (fP (pv 0) (pv 3) rfl)))),i3 D h⟩
def xZ (F:Fun K "__init__" "Empty.__init__" wH f fd)(D:DCl K C ["phial"]):FnOk P w K mg base CX0 1 f fd ["self","phial"] (pA C "phial"):=
 F.ok (N:=["self","phial"]) (fnScOk (by decide +kernel)) (λ_ _ _ _ ⟨_,_,_,e,_⟩=>e▸rfl) λ_ _ _ _ _ _ _ _ hr h=>⟨_,(aE (fP (pv 0) (pv 1) rfl)),i1 D h⟩
def xY (F:Fun K "__init__" "Rinse.__init__" wG f fd)(D:DCl K C ["phial"]):FnOk P w K mg base CX0 1 f fd ["self","phial"] (pA C "phial"):=
 F.ok (N:=["self","phial"]) (fnScOk (by decide +kernel)) (λ_ _ _ _ ⟨_,_,_,e,_⟩=>e▸rfl) λ_ _ _ _ _ _ _ _ hr h=>⟨_,(aE (fP (pv 0) (pv 1) rfl)),i1 D h⟩
end
end K51
namespace PySem.SeqAt
open PySem MeetsSeq
end PySem.SeqAt
namespace HT
open PySem PySem.Spec PyProof.Rows
section
variable {prog:Aw}{w:World}{A:Around}{E:Ga}{s:Gm}
def getItem_tuple_whole {t sl:Gj}{items:Array Gk}{vl vu:Gk}{lo hi:Option Int}{Q:Ga}(ht:IsTup s.heap t items)(hs:s.heap.IsSliceOf sl vl vu .none)(pl:IsPart vl lo)(pu:IsPart vu hi)
  (hw:sIx items.size 0 lo=0/\sIx items.size items.size hi=items.size) (h:Q (.ref t) s):wpAny (model prog w) A (getItem (.ref t) (.ref sl)) Q E s:=by
 obtain ⟨os,hos,hcs,hds⟩:=id hs;have hTs:s.TypeIs (.ref sl) "slice":=⟨os,hos,hcs⟩;unfold getItem
 try with_reducible refine Br ?_
 first|refine Aa (Ag ?_)|skip
 refine Aa (wpAny_sequenceKey ht.typeIs (by decide) ?_);refine Aa (Bs (name:=CN "__getitem__") ht.typeIs BJ
  (Bp BJ ht.typeIs entry_tuple_getitem ?_ (args_tuple_getitem _ _)))
 show wpAny _ _ (AG.Tuple.tupleItemsOf (.ref t) >>= _) _ _ s;refine Aa (tupleItemsOf_ ht ?_);refine Aa (DW hTs ?_);rw [if_pos (by decide)];refine Aa (fI hs pl pu ?_);rw [hw.1,hw.2];have hyes:(((0:Nat):Int)==0&&(1:Int)==1&&(items.size-0)==items.size)=true:=by simp
 show wpAny _ _ (if (((0:Nat):Int)==0&&(1:Int)==1&&(items.size-0)==items.size)=true then _ else _) _ _ s;rw [if_pos hyes];refine Aa (m:=AG.Tuple.tupleIsExact (.ref t)) ?_;unfold AG.Tuple.tupleIsExact;refine Aa (DW ht.typeIs (Ag ?_));rw [if_pos (by decide)];exact Aa (Dw (Ag ⟨_,rfl,Ag h⟩))
end
end HT
namespace L2
open PySem PySem.Spec PyProof.Rows
def rIndexF:V->Gq->Hp->VK->Prop:=λx vs H Q=>∃ l xs y,∃ i j:Nat,∃ z,x=.ref l/\vs=[y,.int (i:Int)]/\H l=some (.lst xs)/\eW y=true/\xs.all eW=true/\i<=j/\xs[j]?=some z/\eqV z y=true /\
 (∀ m z,i<=m->m<j->xs[m]?=some z->eqV z y=false)/\Q (.int (j:Int)) H
section
variable {X:Cx}
def aIs (K:Ab):V->Option Int->Option Int->Hp->VK->Prop:=λx lo hi H Q=>∃ a xs,x=.ref a/\H a=some (.tup xs)/\∀ p H',Same H H'->H' p=some (.tup (cutV xs lo hi))->Q (.ref p) H'
def aDu:SlR X (aIs X.K):=by
 intro U s Z H x v vl vu lo hi sl Q I rx hs pl pu h;obtain ⟨a,xs,rfl,hx,q⟩:=h
 by_cases hw:HT.sIx xs.length 0 lo=0/\HT.sIx xs.length xs.length hi=xs.length
 ·cases rx
  obtain ⟨its,r,ht,hz⟩:=I.tuple (Gv hx);have hlen:its.toArray.size=xs.length:=by rw [An];exact r.length.symm
  refine ⟨"tuple",_,BJ.lookup,ht.typeIs,?_⟩;refine HT.getItem_tuple_whole ht hs pl pu (by rw [hlen];exact hw) ⟨.ref a,H,I,rfl,q a H (Same.refl _) ?_⟩;unfold cutV;rw [hw.1,hw.2,List.drop_zero,Nat.sub_zero,Bz];exact hx
 ·exact aGh U s Z H _ v vl vu lo hi sl Q I rx hs pl pu ⟨a,xs,rfl,Gv hx,hw,λp hp=>q p _ (Gu hp) aB⟩
end
end L2
namespace K51
open PySem PySem.Spec PyProof.Rows L2 GM TM
def spWh:Sp:=λvs H Q _=>∃ n:Int,vs=[.int n]/\Q (.bl true) H
structure RwA (t b:Int):Prop where
 am:Amt t b
 bt:Bt 200 t
 bb:Bt 200 b
def aCf (K:Ab):Sp:=λvs H Q _=>∃ a t b,vs=[.ref a]/\H a=some (.tup [.int t,.int b])/\RwA t b/\Q (.bl true) H
inductive KindG (H:Hp)(nb:Nat):Str->V->Bool->Prop where
 |ph {n:Nat}:n<nb->KindG H nb "phial" (.int (n:Nat)) true
 |wa {x:Str}:Wr x->KindG H nb "ware" (.str x) true
 |lv {a t b}:H a=some (.tup [.int t,.int b])->RwA t b->KindG H nb "level" (.ref a) true
 |mu {a t b}:H a=some (.tup [.int t,.int b])->RwA t b->1<=t->KindG H nb "amount" (.ref a) true
 |pa {a t b}:H a=some (.tup [.int t,.int b])->RwA t b->1<=t->t<=b->KindG H nb "part" (.ref a) true
 |phF {n:Nat}:nb<=n->KindG H nb "phial" (.int (n:Nat)) false
 |muF {a}:H a=some (.tup [.int 0,.int 1])->KindG H nb "amount" (.ref a) false
def KindG.keep {H H':Hp}{nb:Nat}{k:Str}{v:V}{β:Bool}(s:Same H H')(h:KindG H nb k v β):KindG H' nb k v β:=by
 cases h with
 |ph h=>exact .ph h
 |wa h=>exact .wa h
 |lv h r=>exact .lv (s _ _ h) r
 |mu h r a=>exact .mu (s _ _ h) r a
 |pa h r a b=>exact .pa (s _ _ h) r a b
 |phF h=>exact .phF h
 |muF h=>exact .muF (s _ _ h)
def BnV (H:Hp)(b:Gj)(nb:Nat):Prop:=∃ r q rs,H b=some (.tup [.ref r,q])/\H r=some (.tup rs)/\rs.length=nb
def BnV.keep {H H':Hp}{b:Gj}{nb:Nat}(s:Same H H')(h:BnV H b nb):BnV H' b nb:=by
 obtain ⟨r,q,rs,h1,h2,h3⟩:=h;exact ⟨r,q,rs,s _ _ h1,s _ _ h2,h3⟩
inductive spOfKind (vs:Gq)(H:Hp)(Q:VK)(Ex:XK):Prop
 |mk (b nb k v β:_) (e0:vs=[.ref b,.str k,v]) (e1:BnV H b nb) (e2:KindG H nb k v β) (e3:∀ H',Same H H'->Q (.bl β) H'):spOfKind  vs H Q Ex
section
variable {P:Aw}{w:World}{K:Ab}{mg:Gb}{base:Heap}{f:Gj}{fd:Az}
def aGo:FnScope ["thing"] ["thing"] (aH aD8):=fnScOk (by decide +kernel)
def aE1 (F:Fun K "is_whole_number" "is_whole_number" aD8 f fd)(T:Txt mg):FnOk P w K mg base CX0 1 f fd ["thing"] spWh:=by
 refine F.okA aGo (λcdv A outer s H vs Q E hr h=>?_)
 ·obtain ⟨n,rfl,k⟩:=h
  exact ⟨_,aE (aM (iI (aT fG rfl T.isi DZ (aA (pv 0) (aA (gF (v:=.ty "int") rfl T.int' aDc rfl) aC)))
   (gQ (aCt (aT fG rfl T.isi DZ (aA (pv 0) (aA (gF (v:=.ty "bool") rfl T.bool' aAc rfl) aC))))))),_,rfl,_,"int",true,rfl,.int_int,_,rfl,iteT ⟨_,rfl,_,"bool",false,rfl,.int_bool,_,rfl,k⟩⟩
def aGp:FnScope ["thing"] ["thing"] (aH aD9):=fnScOk (by decide +kernel)
def aE2 (F:Fun K "is_amount" "is_amount" aD9 f fd)(T:Txt mg)(cW:Cal P w K mg base CX0 1 "is_whole_number" ["thing"] spWh)(cG:Cal P w K mg base CX0 1 "common_divisor" ["one","other"] aDs):FnOk P w K mg base CX0 2 f fd ["thing"] (aCf K):=by
 refine F.okA aGp (λcdv A outer s H vs Q E hr h=>?_)
 ·obtain ⟨a,t,b,rfl,ha,am,k⟩:=h
  refine ⟨_,(aD (bH (PW.pt (mB (fJ (eA (aT fG rfl T.isi DZ (aA (pv 0) (aA (gF (v:=.ty "tuple") rfl T.tup' dB rfl) aC))))) (iH (aL mE (aT aY rfl T.len BA (aA (pv 0) aC)) aG))))
    (aE (aM iD))
    aQ)
   (aD (bH (PW.pt (mB (fJ (eA (aI cW hr (aA (pit 0 0) aC)))) (iH (fJ (eA (aI cW hr (aA (pit 0 1) aC)))))))
    (aE (aM iD))
    aQ)
   (aE (aM (iI (dD aG9 (pit 0 0) aG) (iI (dD aG9 (pit 0 1) aG) (gQ (dD bW (aI cG hr (aA (pit 0 0) (aA (pit 0 1) aC))) aG)))))))),?_⟩
  refine cut3 ?_
  intros
  have h:=Gv (K:=K) ha;have t0:=am.am.t0;have b1:=am.am.b1;refine ⟨_,rfl,_,"tuple",true,rfl,.tup_tuple h,_,rfl,iteF ⟨_,rfl,a,_,rfl,.inr h,rfl,_,rfl,iteF ?_⟩⟩;refine ⟨a,_,_,rfl,h,rfl,t,rfl,_,rfl,iteF ⟨a,_,_,rfl,h,rfl,b,rfl,_,rfl,iteF ⟨a,_,_,rfl,h,rfl,_,_,rfl,rfl,_,rfl,?_⟩⟩⟩;rw [decide_eq_true t0];refine iteT ⟨a,_,_,rfl,h,rfl,_,_,rfl,rfl,_,rfl,?_⟩;rw [decide_eq_true b1];refine iteT ⟨a,_,_,rfl,h,rfl,a,_,_,rfl,h,rfl,t,b,rfl,t0,by lia,rfl,?_⟩;rw [am.am.g];exact k
def aAs:FnScope ["bench","kind","thing"] ["bench","kind","thing"] (aH pJ):=fnScOk (by decide +kernel)
def xT {aN aO:Gj}(F:Fun K "is_of_kind" "is_of_kind" pJ f fd)(T:Txt mg)(mN:mg "NOUGHT" = some (.ref aN))(sN:∀ H:Hp,SqT K H aN [.int 0,.int 1])(mO:mg "ONE" = some (.ref aO))(sO:∀ H:Hp,SqT K H aO [.int 1,.int 1])(cW:Cal P w K mg base CX0 2 "is_whole_number" ["thing"] spWh)(cI:Cal P w K mg base CX0 2 "is_ware" ["thing"] (rE K))(cA:Cal P w K mg base CX0 2 "is_amount" ["thing"] (aCf K))(cL:Cal P w K mg base CX0 2 "less" ["one","other"] (spLess K)):FnOk P w K mg base CX0 3 f fd ["bench","kind","thing"] spOfKind:=by
 refine F.okA aAs (λcdv A outer s H vs Q E hr h=>?_)
 ·obtain ⟨b,nb,kd,v,β,rfl,⟨r,q0,rs,hb,hr',rl⟩,h,k⟩:=h
  refine ⟨_,(aD (bH (aL bW (pv 1) aS)
    (aE (aM (iI (aI cW hr (aA (pv 2) aC)) (gQ (rR aEt xF aG (pv 2) (aT aY rfl T.len BA (aA (pit 0 0) aC)))))))
    aQ)
   (aD (bH (aL bW (pv 1) aS)
    (aE (aM (aI cI hr (aA (pv 2) aC))))
    aQ)
   (aD (bH (fJ (eA (aI cA hr (aA (pv 2) aC))))
    (aE (aM iD))
    aQ)
   (aD (bH (aL bW (pv 1) aS)
    (aE (aM iD))
    aQ)
   (aE (aM (iI (dD (xE hr.units) (pv 2) (fD (v:=.ref aN) rfl mN rfl)) (gQ (aG3 (dD bW (pv 1) aS) (gQ (aCt (aI cL hr (aA (fD (v:=.ref aO) rfl mO rfl) (aA (pv 2) aC)))))))))))))),?_⟩
  refine cut5 ?_
  intros
  have k0:=k H (Same.refl _);have ne:∀ {t b:Int},1<=t->decide ([t,b]=[0,1])=false:=λ{t b} h=>decide_eq_false (λe=>by injection e with e _;lia);cases h with
  |@ph n h=>
   refine ⟨_,rfl,rfl,_,rfl,iteT ⟨_,rfl,_,rfl,_,rfl,iteT ⟨_,rfl,_,_,rfl,rfl,_,rfl,?_⟩⟩⟩;rw [decide_eq_true (by lia:(0:Int)<=(n:Nat))];refine iteT ⟨b,_,_,rfl,Gv hb,rfl,r,_,rfl,.inr (Gv hr'),_,_,rfl,rfl,?_⟩;show Q (.bl (decide (((n:Nat):Int)<((rs.length:Nat):Int)))) H;rw [decide_eq_true (by lia:((n:Nat):Int)<((rs.length:Nat):Int))];exact k0
  |wa h=>exact ⟨_,rfl,rfl,_,rfl,iteF ⟨_,rfl,rfl,_,rfl,iteT ⟨_,rfl,_,rfl,h,k⟩⟩⟩
  |@lv a t b h am=>exact ⟨_,rfl,rfl,_,rfl,iteF ⟨_,rfl,rfl,_,rfl,iteF ⟨_,rfl,a,t,b,rfl,h,am,_,rfl,iteF ⟨_,rfl,rfl,_,rfl,iteT k0⟩⟩⟩⟩
  |@mu a t b h am t1=>
   refine ⟨_,rfl,rfl,_,rfl,iteF ⟨_,rfl,rfl,_,rfl,iteF ⟨_,rfl,a,t,b,rfl,h,am,_,rfl,iteF ⟨_,rfl,rfl,_,rfl,iteF ⟨_,rfl,a,aN,[t,b],[0,1],rfl,rfl,Gv h,sN H,_,rfl,?_⟩⟩⟩⟩⟩;rw [ne t1];exact iteT ⟨_,rfl,rfl,_,rfl,iteT k0⟩
  |@pa a t b h am t1 tb=>
   refine ⟨_,rfl,rfl,_,rfl,iteF ⟨_,rfl,rfl,_,rfl,iteF ⟨_,rfl,a,t,b,rfl,h,am,_,rfl,iteF ⟨_,rfl,rfl,_,rfl,iteF ⟨_,rfl,a,aN,[t,b],[0,1],rfl,rfl,Gv h,sN H,_,rfl,?_⟩⟩⟩⟩⟩;rw [ne t1];refine iteT ⟨_,rfl,rfl,_,rfl,iteF ⟨_,rfl,aO,a,1,1,t,b,rfl,⟨sO H,Gv h,⟨by decide,by decide,by decide +kernel⟩,am.am,bR 4000 (c:=2) (by decide) (by decide),bR 4000 (c:=2) (by decide) (by decide),am.bt.mono (by decide),am.bb.mono (by decide)⟩,?_⟩⟩;refine ⟨_,rfl,?_⟩;show Q (.bl (!decide ((1:Int)*b<t*1))) H;rw [decide_eq_false (by lia:¬ (1:Int)*b<t*1)];exact k0
  |@phF n h=>
   refine ⟨_,rfl,rfl,_,rfl,iteT ⟨_,rfl,_,rfl,_,rfl,iteT ⟨_,rfl,_,_,rfl,rfl,_,rfl,?_⟩⟩⟩;rw [decide_eq_true (by lia:(0:Int)<=(n:Nat))];refine iteT ⟨b,_,_,rfl,Gv hb,rfl,r,_,rfl,.inr (Gv hr'),_,_,rfl,rfl,?_⟩;show Q (.bl (decide (((n:Nat):Int)<((rs.length:Nat):Int)))) H;rw [decide_eq_false (by lia:¬ ((n:Nat):Int)<((rs.length:Nat):Int))];exact k0
  |@muF a h=>
   refine ⟨_,rfl,rfl,_,rfl,iteF ⟨_,rfl,rfl,_,rfl,iteF ⟨_,rfl,a,0,1,rfl,h,⟨⟨by decide,by decide,by decide +kernel⟩,bR 200 (c:=2) (by decide) (by decide),bR 200 (c:=2) (by decide) (by decide)⟩,_,rfl,iteF ⟨_,rfl,rfl,_,rfl,iteF ⟨_,rfl,a,aN,[0,1],[0,1],rfl,rfl,Gv h,sN H,_,rfl,?_⟩⟩⟩⟩⟩;rw [decide_eq_true rfl];exact iteF k0
end
inductive Rw where
 |draw (i:Nat) (x:Str) (t b:Int)
 |fill (i:Nat) (x:Str) (t b:Int)
 |pour (i j:Nat) (t b:Int)
 |empty (i:Nat)
 |rinse (i:Nat)
def RwQ (H:Hp)(q:Gj):Rw->Prop
 |.draw _ _ t b=>H q=some (.tup [.int t,.int b])
 |.fill _ _ t b=>H q=some (.tup [.int t,.int b])
 |.pour _ _ t b=>H q=some (.tup [.int t,.int b])
 |_=>True
def RwW (q:Gj):Rw->Str×Gq
 |.draw i x _ _=>("draw",[.int ((i:Nat):Int),.str x,.ref q])
 |.fill i x _ _=>("fill",[.int ((i:Nat):Int),.str x,.ref q])
 |.pour i j _ _=>("pour",[.int ((i:Nat):Int),.int ((j:Nat):Int),.ref q])
 |.empty i=>("empty",[.int ((i:Nat):Int)])
 |.rinse i=>("rinse",[.int ((i:Nat):Int)])
def RwV (H:Hp)(a:Gj):Rw->Prop
 |.draw i x t b=>∃ q,H a=some (.tup [.str "draw",.int ((i:Nat):Int),.str x,.ref q])/\H q=some (.tup [.int t,.int b])
 |.fill i x t b=>∃ q,H a=some (.tup [.str "fill",.int ((i:Nat):Int),.str x,.ref q])/\H q=some (.tup [.int t,.int b])
 |.pour i j t b=>∃ q,H a=some (.tup [.str "pour",.int ((i:Nat):Int),.int ((j:Nat):Int),.ref q])/\H q=some (.tup [.int t,.int b])
 |.empty i=>H a=some (.tup [.str "empty",.int ((i:Nat):Int)])
 |.rinse i=>H a=some (.tup [.str "rinse",.int ((i:Nat):Int)])
def RwV.keep {H H':Hp}{a:Gj}{r:Rw}(s:Same H H')(h:RwV H a r):RwV H' a r:=by
 cases r with
 |draw i x t b=>obtain ⟨q,h1,h2⟩:=h;exact ⟨q,s _ _ h1,s _ _ h2⟩
 |fill i x t b=>obtain ⟨q,h1,h2⟩:=h;exact ⟨q,s _ _ h1,s _ _ h2⟩
 |pour i j t b=>obtain ⟨q,h1,h2⟩:=h;exact ⟨q,s _ _ h1,s _ _ h2⟩
 |empty i=>exact s _ _ h
 |rinse i=>exact s _ _ h
theorem RwV.w {H:Hp}{a:Gj}{r:Rw}(h:RwV H a r):∃ q,H a=some (.tup (.str (RwW q r).1::(RwW q r).2))/\RwQ H q r:=by
 cases r with
 |draw i x t b=>exact h
 |fill i x t b=>exact h
 |pour i j t b=>exact h
 |empty i=>exact ⟨a,h,trivial⟩
 |rinse i=>exact ⟨a,h,trivial⟩
def GoodR (nb:Nat)(ws:Gh):Rw->Prop
 |.draw i x t b=>i<nb/\x∈ws/\RwA t b/\1<=t
 |.fill i x t b=>i<nb/\x∈ws/\RwA t b
 |.pour i j t b=>i<nb/\j<nb/\i≠j/\RwA t b/\1<=t/\t<=b
 |.empty i=>i<nb
 |.rinse i=>i<nb
def frms:List (Str×Gh):=[("draw",["phial","ware","amount"]),("fill",["phial","ware","level"]),("pour",["phial","phial","part"]),("empty",["phial"]),("rinse",["phial"])]
def frmR:Rw->Gh
 |.draw ..=>["phial","ware","amount"]
 |.fill ..=>["phial","ware","level"]
 |.pour ..=>["phial","phial","part"]
 |_=>["phial"]
structure FormsK (w:World)(K:Ab)(mg:Gb)(aF:Gj)(f:Str->Option Gj):Prop where
 d:KDict w K aF f
 m:mg "FORMS" = some (.ref aF)
 y:∀ p∈frms,∃ a,f p.1=some a/\∀ H:Hp,SqT K H a (p.2.map V.str)
def RwW.frm {q:Gj}{r:Rw}:((RwW q r).1,frmR r)∈frms:=by
 cases r<;>simp [frms,RwW,frmR]
theorem RwW.len {q:Gj}{r:Rw}:(RwW q r).2.length=(frmR r).length/\(frmR r).length<=3:=by
 cases r<;>simp [RwW,frmR]
def iteN {A B:Prop}{c:Bool}(e:c=false)(h:B):if c=true then A else B:=by
 rw [e];exact iteF h
def zF {H:Hp}{nb:Nat}{k1 k2 k3:Str}{u1 u2 u3:V}{β1 β2 β3:Bool}(h1:KindG H nb k1 u1 β1)(h2:KindG H nb k2 u2 β2)(h3:KindG H nb k3 u3 β3):∀ (i:Nat) k u β,[k1,k2,k3][i]?=some k->[u1,u2,u3][i]?=some u->[β1,β2,β3][i]?=some β->KindG H nb k u β
 |0,_,_,_,hk,hu,hb=>by cases hk;cases hu;cases hb;exact h1
 |1,_,_,_,hk,hu,hb=>by cases hk;cases hu;cases hb;exact h2
 |2,_,_,_,hk,hu,hb=>by cases hk;cases hu;cases hb;exact h3
 |i+3,_,_,_,hk,_,_=>by simp at hk
def aFm {H:Hp}{nb:Nat}{k1:Str}{u1:V}{β1:Bool}(h1:KindG H nb k1 u1 β1):∀ (i:Nat) k u β,[k1][i]?=some k->[u1][i]?=some u->[β1][i]?=some β->KindG H nb k u β
 |0,_,_,_,hk,hu,hb=>by cases hk;cases hu;cases hb;exact h1
 |i+1,_,_,_,hk,_,_=>by simp at hk
structure RIn (H:Hp)(b a:Gj)(nb:Nat)(ws:Gh)(r:Rw):Prop where
 bn:BnV H b nb
 rv:RwV H a r
 gd:GoodR nb ws r
 wr:∀ x∈ws,Wr x
structure RowD (H:Hp)(nb:Nat)(a:Gj)(x:Str)(us:Gq)(ks:Gh)(bs:List Bool)(res:Bool):Prop where
 ha:H a=some (.tup (.str x::us))
 fm:(x,ks)∈frms
 ul:us.length=ks.length
 k3:ks.length<=3
 bl:bs.length=ks.length
 ek:∀ (i:Nat) k u β,ks[i]?=some k->us[i]?=some u->bs[i]?=some β->KindG H nb k u β
 rs:(bs.all id=false/\res=false)\/(bs.all id=true/\((x ≠ "pour" /\ res=true)\/(x = "pour" /\ ∃ (p o:Int) (w':V),us=[.int p,.int o,w']/\res=!decide (p=o))))
inductive OddV (H:Hp):V->Prop
 |non:OddV H .non
 |rin {a}:H a=some (.tup [.str "rinse"])->OddV H (.ref a)
 |nou {a q}:H a=some (.tup [.str "draw",.int 0,.str "salt",.ref q])->H q=some (.tup [.int 0,.int 1])->OddV H (.ref a)
 |slf {a q}:H a=some (.tup [.str "pour",.int 0,.int 0,.ref q])->H q=some (.tup [.int 1,.int 1])->OddV H (.ref a)
 |far {a}:H a=some (.tup [.str "empty",.int 99])->OddV H (.ref a)
def OddV.keep {H H':Hp}{v:V}(s:Same H H')(h:OddV H v):OddV H' v:=by
 cases h with
 |non=>exact .non
 |rin h=>exact .rin (s _ _ h)
 |nou h g=>exact .nou (s _ _ h) (s _ _ g)
 |slf h g=>exact .slf (s _ _ h) (s _ _ g)
 |far h=>exact .far (s _ _ h)
inductive RowK (H:Hp)(nb:Nat):V->Bool->Prop
 |row {a x us ks bs res}:RowD H nb a x us ks bs res->RowK H nb (.ref a) res
 |non:RowK H nb .non false
 |rin {a}:H a=some (.tup [.str "rinse"])->RowK H nb (.ref a) false
def aGs {t b:Int}(h0:0<=t)(h1:t<=1)(e:b=1):RwA t b:=by
 subst e;have:t=0\/t=1:=by lia
 rcases this with rfl|rfl
 ·exact ⟨⟨by decide,by decide,by decide +kernel⟩,bR 200 (c:=2) (by decide) (by decide),bR 200 (c:=2) (by decide) (by decide)⟩
 ·exact ⟨⟨by decide,by decide,by decide +kernel⟩,bR 200 (c:=2) (by decide) (by decide),bR 200 (c:=2) (by decide) (by decide)⟩
def aDj:Wr "salt":=by decide +kernel
theorem OddV.k {H:Hp}{nb:Nat}{v:V}(h:OddV H v)(n1:1<=nb)(n16:nb<=16):RowK H nb v false:=by
 cases h with
 |non=>exact .non
 |rin h=>exact .rin h
 |@nou a q h g=>exact .row ⟨h,by simp [frms],rfl,by decide,(rfl:[true,true,false].length=_),zF (.ph (n:=0) (by lia)) (.wa aDj) (.muF g),.inl ⟨rfl,rfl⟩⟩
 |@slf a q h g=>exact .row ⟨h,by simp [frms],rfl,by decide,(rfl:[true,true,true].length=_),zF (.ph (n:=0) (by lia)) (.ph (n:=0) (by lia)) (.pa g (aGs (by decide) (by decide) rfl) (by decide) (by decide)),.inr ⟨rfl,.inr ⟨rfl,0,0,_,rfl,rfl⟩⟩⟩
 |@far a h=>exact .row ⟨h,by simp [frms],rfl,by decide,(rfl:[false].length=_),aFm (.phF (n:=99) (by lia)),.inl ⟨rfl,rfl⟩⟩
theorem RIn.k {H:Hp}{b a:Gj}{nb:Nat}{ws:Gh}{r:Rw}(h:RIn H b a nb ws r):RowK H nb (.ref a) true:=by
 obtain ⟨bn,rv,g,wr⟩:=h;obtain ⟨q,ha,hq⟩:=rv.w;obtain ⟨ul,k3⟩:=RwW.len (q:=q) (r:=r);cases r with
 | draw i x t b=>exact .row ⟨ha,RwW.frm (q:=q) (r:=.draw i x t b),ul,k3,(rfl:[true,true,true].length=_),zF (.ph g.1) (.wa (wr x g.2.1)) (.mu hq g.2.2.1 g.2.2.2),.inr ⟨rfl,.inl ⟨(show ("draw":Str)≠_ by decide +kernel),rfl⟩⟩⟩
 | fill i x t b=>exact .row ⟨ha,RwW.frm (q:=q) (r:=.fill i x t b),ul,k3,(rfl:[true,true,true].length=_),zF (.ph g.1) (.wa (wr x g.2.1)) (.lv hq g.2.2),.inr ⟨rfl,.inl ⟨(show ("fill":Str)≠_ by decide +kernel),rfl⟩⟩⟩
 |pour i j t b=>exact .row ⟨ha,RwW.frm (q:=q) (r:=.pour i j t b),ul,k3,(rfl:[true,true,true].length=_),zF (.ph g.1) (.ph g.2.1) (.pa hq g.2.2.2.1 g.2.2.2.2.1 g.2.2.2.2.2),.inr ⟨rfl,.inr ⟨rfl,_,_,_,rfl,by rw [decide_eq_false λe=>g.2.2.1 (by lia)];rfl⟩⟩⟩
 | empty i=>exact .row ⟨ha,RwW.frm (q:=q) (r:=.empty i),ul,k3,(rfl:[true].length=_),aFm (.ph g),.inr ⟨rfl,.inl ⟨(show ("empty":Str)≠_ by decide +kernel),rfl⟩⟩⟩
 | rinse i=>exact .row ⟨ha,RwW.frm (q:=q) (r:=.rinse i),ul,k3,(rfl:[true].length=_),aFm (.ph g),.inr ⟨rfl,.inl ⟨(show ("rinse":Str)≠_ by decide +kernel),rfl⟩⟩⟩
inductive spIsRow (vs:Gq)(H:Hp)(Q:VK)(Ex:XK):Prop
 |mk (b nb v res:_) (e0:vs=[.ref b,v]) (bn:BnV H b nb) (e1:RowK H nb v res) (e2:∀ H',Same H H'->Q (.bl res) H'):spIsRow  vs H Q Ex
theorem tH {xs:Gq}{j:Nat}(h:j<=xs.length):cutV xs (some (j:Int)) none=xs.drop j:=by
 unfold cutV;rw [HT.sIx_nat,HT.sIx_none,Nat.min_eq_left h];exact EC (by rw [Dz];lia)
theorem zQ (x:Str)(us:Gq):cutV (V.str x::us) (some 1) none=us:=by
 have:=tH (xs:=V.str x::us) (j:=1) (by simp)
 simpa using this
section
variable {P:Aw}{w:World}{K:Ab}{mg:Gb}{base:Heap}
def aHp:(["kind","thing","bench"]:Gh).Nodup:=by decide +kernel
abbrev Nrow:Gh:=["bench","row","form"]
def vV:FnScope Nrow ["bench","row"] (aH nH):=fnScOk (by decide +kernel)
def aBk {f aF:Gj}{fF:Str->Option Gj}{fd:Az}(F:Fun K "is_row" "is_row" nH f fd)(T:Txt mg)(FK:FormsK w K mg aF fF)(cK:Cal P w K mg base CX0 3 "is_of_kind" ["bench","kind","thing"] spOfKind):FnOk P w K mg base CX0 4 f fd ["bench","row"] spIsRow:=by
 refine F.okA vV (λcdv A outer s H vs Q E hr h=>?_)
 ·obtain ⟨b,nb,v,res,rfl,bn,rk,k⟩:=h
  refine ⟨_,(aD (bH (PW.pt (mB (fJ (eA (aT fG rfl T.isi DZ (aA (pv 1) (aA (gF (v:=.ty "tuple") rfl T.tup' dB rfl) aC))))) (mB (aL bW (aT aY rfl T.len BA (aA (pv 1) aC)) aG) (iH (fJ (eA (aT fG rfl T.isi DZ (aA (pit 1 0) (aA (gF (v:=.ty "str") rfl T.str' aDa rfl) aC)))))))))
    (aE (aM iD))
    aQ)
   (aD (aJ (i:=2) vV.nd (aEn FK.d rfl FK.m (pit 1 0) ⟨rfl,rfl,rfl,rfl⟩))
   (aD (bH (PW.pt (mB (aL xG (pv 2) dO) (iH (aL mE (aT aY rfl T.len BA (aA (pv 1) aC)) (aP bJ (aT aY rfl T.len BA (aA (pv 2) aC)) aG)))))
    (aE (aM iD))
    aQ)
   (aD (bH (fJ (eA (aT (kN rfl) rfl T.all' boot_all (aA (eO (N':=["kind","thing","bench"]) (g:=gTup K 2 (qG (L2.gName 0) (qG (L2.gName 1) gNil))) (λZ=>[none,none,some 0].map λt=>t.bind λj=>(Z[j]?).join) rfl rfl (by decide +kernel) (by decide +kernel)
      (kY (sc:=aH nH) rfl (by decide +kernel)) (λ_ _ _=>eR (sc:=aH nH) (N:=Nrow) [none,none,some 0] rfl rfl rfl rfl (by decide +kernel))
      (aEk rfl T.zip' (aA (pv 2) (aA (dJ aDu (pv 1) (eB aG) eC) aC))) (λ_ _ _ _ _ _=>fR rfl (bE (aR (i:=0) aHp) (bE (aR (i:=1) aHp) eD)))
      (λ_ _ _ _ _ _=>dY)
      (λ_ _ _ _ _ _=>aI cK hr (aA (pv 2) (aA (pv 0) (aA (pv 1) aC))))) aC))))
    (aE (aM iD))
    aQ)
   (aE (aM (aG3 (dD mE (pit 1 0) aS) (gQ (dD mE (pit 1 1) (pit 1 2)))))))))),?_⟩
  refine cut5 ?_
  intros
  cases rk with
  |non=>exact ⟨_,rfl,_,"tuple",false,rfl,.non_tuple,_,rfl,iteT (k _ (Same.refl _))⟩
  |@rin a ha=>
   obtain ⟨g,eg,hg⟩:=FK.y ("rinse",["phial"]) (by simp [frms]);refine ⟨_,rfl,_,"tuple",true,rfl,.tup_tuple (Gv ha),_,rfl,iteF ⟨_,rfl,a,_,rfl,.inr (Gv ha),rfl,_,rfl,iteF ⟨a,_,_,rfl,Gv ha,rfl,_,"str",true,rfl,.str_str,_,rfl,iteF ⟨a,_,_,rfl,Gv ha,rfl,"rinse",rfl,?_⟩⟩⟩⟩;rw [eg];exact ⟨_,rfl,rfl,_,rfl,iteF ⟨_,rfl,a,_,rfl,.inr (Gv ha),_,rfl,g,_,rfl,.inr (hg H),_,_,rfl,rfl,rfl,_,rfl,iteT (k _ (Same.refl _))⟩⟩
  |@row a x us ks bs _ rd=>
  obtain ⟨ha,fm,ul,k3,bl,ek,rs⟩:=rd;obtain ⟨g,eg,hg⟩:=FK.y _ fm;refine ⟨_,rfl,_,"tuple",true,rfl,.tup_tuple (Gv ha),_,rfl,iteF ⟨_,rfl,a,_,rfl,.inr (Gv ha),rfl,_,rfl,iteN (decide_eq_false λz=>?_) ⟨a,_,_,rfl,Gv ha,rfl,_,"str",true,rfl,.str_str,_,rfl,iteF ⟨a,_,_,rfl,Gv ha,rfl,x,rfl,?_⟩⟩⟩⟩
  ·have:=V.int.inj z
   rw [AX] at this;lia
  rw [eg];refine ⟨_,rfl,rfl,_,rfl,iteF ⟨_,rfl,a,_,rfl,.inr (Gv ha),_,rfl,g,_,rfl,.inr (hg H),_,_,rfl,rfl,rfl,_,rfl,iteN ?_ ?_⟩⟩
  ·show (!decide (V.int (((V.str x::us).length:Nat):Int)=V.int (((ks.map V.str).length:Nat)+1)))=false
   rw [decide_eq_true (by rw [AX,Af,ul];rfl)];rfl
  refine ⟨_,rfl,_,rfl,_,rfl,a,_,rfl,ha,λc H1 s1 hc=>?_⟩;rw [show cutV (V.str x::us) (some 1) none=us from zQ x us] at hc;refine ⟨g,c,rfl,⟨_,hg H1⟩,⟨_,Gv hc⟩,λD nD=>?_⟩;refine zR (hg H1) (Gv hc) (by rw [Af,ul]) (λi v=>∃ β,bs[i]?=some β/\v=.bl β) nD (by lia) (λi kx u T' Hx R hk hu sx hT hR=>?_) (λzs H2 s2 hD zl hz=>?_)
  ·rw [Aq] at hk
   obtain ⟨kd,hkd,rfl⟩:=AZ.mp hk;obtain ⟨β,hβ⟩:∃ β,bs[i]?=some β:=⟨_,Ae (by rw [bl];exact (Ad.mp hkd).1)⟩;exact ⟨T',_,rfl,Gv hT,rfl,_,_,rfl,_,_,rfl,rfl,((Keep.refl _).set rfl).set rfl,_,rfl,_,rfl,_,rfl,b,nb,kd,u,β,rfl,bn.keep (s1.trans sx),(ek i kd u β hkd hu hβ).keep (s1.trans sx),λH3 s3=>hR _ _ s3 ⟨β,hβ,rfl⟩⟩
  have ez:zs=bs.map V.bl:=list_eq (by rw [zl,Af,Af,bl]) λi x' y' hx' hy'=>by
   obtain ⟨β,hβ,e⟩:=hz i y' hy';rw [Aq,hβ] at hx';cases hx';exact e
  subst ez;have s02:=s1.trans s2;have ha2:=s02 _ _ ha;have k':=k H2 s02;refine ⟨D,bs,rfl,Gw hD,_,rfl,?_⟩
  rcases rs with ⟨e,rfl⟩|⟨e,rs⟩
  ·rw [e]
   exact iteT k'
  rw [e];refine iteF ⟨a,_,_,rfl,Gv ha2,rfl,rfl,_,rfl,?_⟩
  rcases rs with ⟨n,rfl⟩|⟨rfl,p,o,w',rfl,rfl⟩
  ·show if (!decide (V.str x=V.str "pour"))=true then _ else _
   rw [decide_eq_false λz=>n (V.str.inj z)];exact iteT k'
  ·refine iteF ⟨a,_,_,rfl,Gv ha2,rfl,a,_,_,rfl,Gv ha2,rfl,rfl,?_⟩
   show Q (.bl (!decide (V.int p=V.int o))) H2;have:decide (V.int p=V.int o)=decide (p=o):=decide_eq_decide.mpr ⟨V.int.inj,congrArg V.int⟩;rw [this];exact k'
end
end K51
namespace SX
open PySem PySem.Spec PyProof.Rows
def dZ:Slot "set_iterator" "__next__" "set_iterator.__next__":=.of (owner:="set_iterator") (n:="__next__") (by rw [typeLookup_type,builtinLookup_eq_fast];kernel_rfl) (by decide +kernel) (by decide +kernel) (by decide +kernel) (by first|exact .inl (by decide +kernel)|exact .inr (by decide +kernel)) (by rw [isSubtype_type];kernel_rfl)
def iV:entryFor table "set_iterator.__next__" = some AG.«set_iterator.__next__»:=entryFor_of_tree (by kernel_rfl)
def mR (a:Gk):argsOk "set_iterator.__next__" ⟨[a],[]⟩:=by unfold argsOk;kernel_rfl
def rF:Slot "set_iterator" "__iter__" "set_iterator.__iter__":=.of (owner:="set_iterator") (n:="__iter__") (by rw [typeLookup_type,builtinLookup_eq_fast];kernel_rfl) (by decide +kernel) (by decide +kernel) (by decide +kernel) (by first|exact .inl (by decide +kernel)|exact .inr (by decide +kernel)) (by rw [isSubtype_type];kernel_rfl)
def oB:entryFor table "set.__iter__" = some AG.«frozenset.__iter__»:=entryFor_alias (id':="frozenset.__iter__") (by kernel_rfl) rfl (by decide +kernel) (by kernel_rfl)
def itO (f:Gk)(i:Int)(n ep:Nat)(a:Gj):Obj:={ cls:=.type "set_iterator",dict:=none,data:=.fields #[f,.int i 0,.ref a,.int n 0,.int ep 0],slots:=#[] }
theorem iF {α:Type}:∀ {l:List α} {i:Nat} (h:i<l.length),(l[i]::l.eraseIdx i).Perm l
 |[],_,h=>by simp at h
 |x::l,0,h=>by simp
 |x::l,i+1,h=>by
  have:=iF (l:=l) (i:=i) (by simpa using h);simp only [List.getElem_cons_succ,List.eraseIdx_cons_succ];exact (List.Perm.swap _ _ _).trans (this.cons x)
section
variable {P:Aw}{w:World}{A:Around}{E:Ga}{s:Gm}
def uU {n:Nat}(hn:n≠0)(h:∀ i d',i<n->Q i { s with drawn:=d' }):wpAny (model P w) A (choose src n) Q E s:=
 λ_ _ _=>⟨hn,h _ _ (Nat.mod_lt _ (by lia))⟩
theorem oF {α:Type}:∀ (n:Nat) (xs:List α) (s:Gm) (Q:List α->Gm->Prop),xs.length=n->(∀ ys d',ys.Perm xs->Q ys { s with drawn:=d' })->wpAny (model P w) A (drawOrder n xs) Q E s
 |0,xs,s,Q,hl,h=>by
  obtain rfl:xs=[]:=Bm.mp hl;unfold drawOrder;exact Ag (h [] s.drawn (.refl _))
 |n+1,[],s,Q,hl,h=>by cases hl
 |n+1,x::xs,s,Q,hl,h=>by
  unfold drawOrder;refine Aa (uU (by simp) λi d' hi=>?_);have e:(x::xs)[i]?=some (x::xs)[i]:=Ae hi;simp only [e];have el:((x::xs).eraseIdx i).length=n:=by rw [List.length_eraseIdx_of_lt hi];simpa using hl
  refine Aa (oF n _ _ _ el λys d2 pm=>Ag ?_);exact h _ d2 ((pm.cons _).trans (iF hi))
theorem wU {α:Type}(nx:Nat->Nat):∀ (n k:Nat) (l:List α) (o:Array α),l.length=n->(pickOrder.go nx n k l o).toList.Perm (o.toList++l)
 |0,k,l,o,h=>by
  obtain rfl:l=[]:=Bm.mp h;unfold pickOrder.go;rw [BX]
 |n+1,k,l,o,h=>by
  have lt:nx k%l.length<l.length:=Nat.mod_lt _ (by lia);unfold pickOrder.go;rw [Ae lt];dsimp only;refine (wU nx n (k+1) _ _ (by rw [List.length_eraseIdx_of_lt lt];lia)).trans ?_;rw [Array.toList_push,List.append_assoc];exact List.Perm.append_left _ (iF lt)
def wR {α:Type}(nx:Nat->Nat)(xs:Array α):(pickOrder nx xs).toList.Perm xs.toList:=by
 have:=wU nx xs.size 0 xs.toList #[] (by simp)
 simpa [pickOrder] using this
def pC {ep:Nat}(ho:s.heap.get? a=some (setO es ep t))(hf:t.fits es.size=true)(h:Q (!byT w&&(!t.plain&&decide (es.size > 1))) s):wpAny (model P w) A (setDrawn a) Q E s:=by
 unfold setDrawn;refine Aa (Ef ho rfl hf ?_);unfold setsByText;refine Aa (Aa (Eo (Ag ?_)));exact Ag h
def vO (hh:A.handled=none)(hQ:∀ h',(∀ b o,s.heap.get? b=some o->h'.get? b=some o)->Q none { s with heap:=h' }) :
  wpAny (model P w) A.in1 (do raiseNew (<- newExc (.type "StopIteration") [])) (λ(fin:Fin) s'=>∃ v,fin=.done (.ret v)/\wpAny (model P w) A (pure (some v)) Q E s') (λe s'=>wpAny (model P w) A (do if <- isInstance e (.type "StopIteration") then pure none else throw e) Q E s') s:=by
 refine Aa ?_;simp only [newExc,newTuple];refine Aa (Bc ?_ (by size_fits));refine Aa (m:=firstArgMember _ _) (Ew (a:=BO) (by first|rfl|(simp only [firstArgMember];rfl)) ?_);refine Bc ?_ (by size_fits);simp only [raiseNew];refine Aa (wpAny_handled ?_);rw [show A.in1.handled=none from hh];refine Aa (Ag (wpAny_throw ?_));refine Aa (Fj (T:="StopIteration") (b:=true) ⟨_,Ai _ rfl,rfl⟩ isSubtype_stop ?_);exact Ag (hQ _ λb o e=>Ac _ (Ac _ e))
end
def zE:entryFor table "set_iterator.__iter__" = some AG.«dict_keyiterator.__iter__»:=entryFor_alias (id':="dict_keyiterator.__iter__") (by kernel_rfl) rfl (by decide +kernel) (by kernel_rfl)
def aB6 (a:Gk):argsOk "set_iterator.__iter__" ⟨[a],[]⟩:=by unfold argsOk;kernel_rfl
abbrev IP (ord:Gi)(i:Nat)(v:Gk):Prop:=ord[i]?=some v
section
variable {P:Aw}{w:World}{A:Around}{E:Ga}{s:Gm}{a I:Gj}{es:Array (Int×Gk)}{ep:Nat}{t:BU}
def vT {i:Int}{n:Nat}(hI:s.heap.get? I=some (itO f i n ep a))(h:Q (.ref I) s):wpAny (model P w) A (pyIter (.ref I)) Q E s:=by
 refine wpAny_pyIter_slot ⟨_,hI,rfl⟩ rF (Bp rF ⟨_,hI,rfl⟩ zE ?_ (aB6 _));show wpAny _ _ (ret (.ref I)) _ _ s;exact Ag ⟨_,rfl,"set_iterator",_,⟨_,hI,rfl⟩,dZ.lookup,h⟩
def lX {i:Int}{n k:Nat}(hI:s.heap.get? I=some (itO f i n ep a))(hk:k<5)(h:∀ h',h'.get? I=some { cls:=.type "set_iterator",dict:=none,data:=.fields (#[f,.int i 0,.ref a,.int n 0,.int ep 0].setIfInBounds k x),slots:=#[] }->Cf I s.heap h'->Q () { s with heap:=h' }) :
  wpAny (model P w) A (setField (.ref I) k x) Q E s:=Cr hI hk h
def mT (hh:A.handled=none)(ne:a≠I)(hf:t.fits es.size=true)(ord:Gi)(sl:Nat->Nat)(hx:∀ (A:Around) (E:Ga) (i:Nat) (s:Gm) (Q:Option (Gk×Nat)->Gm->Prop),i<=ord.length->s.heap.get? a=some (setO es ep t)->Q (ord[i]?.map λv=>(v,sl (i+1))) s->wpAny (model P w) A (setNext a (sl i) i ep) Q E s) :
  Walks P w A I [I,a] [I] ord.length (IP ord) (λi h=>h.get? I=some (itO (.int (sl i) 0) i es.size ep a)/\h.get? a=some (setO es ep t)) where
 sub:=λb hb=>by simp at hb;simp [hb]
 frame:=λi h h' st k=>⟨k I (by simp) _ st.1,k a (by simp) _ st.2⟩
 self:=λi s Q E st hQ=>vT st.1 hQ
 item:=λi s Q E hi st hQ=>by
  obtain ⟨hI,ho⟩:=st;unfold pyNext;refine Aa (DE (Bs (name:=CN "__next__") ⟨_,hI,rfl⟩ dZ (Bp dZ ⟨_,hI,rfl⟩ iV ?_ (mR _))));show wpAny _ _ (fieldsOf (.ref I) >>= _) _ _ s;refine Aa (wpAny_fieldsOf hI rfl ?_);show wpAny _ _ (setEntries a >>= _) _ _ s;refine Aa (Eu ho rfl hf ?_);dsimp only;rw [if_neg (by simp)];simp only [Ci];refine Aa (hx _ _ i s _ (Nat.le_of_lt hi) ho ?_);rw [Ae hi];dsimp only [Option.map];refine Aa (lX hI (by decide) λh1 g1 b1=>?_);refine Aa (Cr (k:=1) g1 (by simp) λh2 g2 b2=>?_);refine Ag ⟨_,rfl,Ag (hQ _ h2 s.toks (Ae hi) ⟨?_,?_⟩ λb o hb e=>?_)⟩
  ·rw [g2]
   rfl
  ·rw [b2.2 a ne,b1.2 a ne]
   exact ho
  ·have hb':b≠I:=by simpa using hb
   show h2.get? b=some o;rw [b2.2 b hb',b1.2 b hb'];exact e
 done:=λs Q E st hQ=>by
  obtain ⟨hI,ho⟩:=st;unfold pyNext;refine Aa (DE (Bs (name:=CN "__next__") ⟨_,hI,rfl⟩ dZ (Bp dZ ⟨_,hI,rfl⟩ iV ?_ (mR _))));show wpAny _ _ (fieldsOf (.ref I) >>= _) _ _ s;refine Aa (wpAny_fieldsOf hI rfl ?_);show wpAny _ _ (setEntries a >>= _) _ _ s;refine Aa (Eu ho rfl hf ?_);dsimp only;rw [if_neg (by simp)];simp only [Ci];refine Aa (hx _ _ ord.length s _ (Aj _) ho ?_);rw [AY (Aj _)];dsimp only [Option.map];refine Aa (lX hI (by decide) λh1 g1 b1=>?_);refine vO hh λh2 k2=>hQ h2 s.toks λb o hb e=>k2 b o ?_;have hb':b≠I:=by simpa using hb
  show h1.get? b=some o;rw [b1.2 b hb'];exact e
def tR (hh:A.handled=none)(ne:a≠I)(nt:tp≠I)(hf:t.fits es.size=true)(pl:List Nat)(ord:Gi)(ol:ord.length=pl.length)(hp:∀ (i p:Nat),pl[i]?=some p->∃ x v,es[p]?=some (x,v)/\ord[i]?=some v) :
  Walks P w A I [I,a,tp] [I] ord.length (IP ord) (λi h=>h.get? I=some (itO (.ref tp) i es.size ep a)/\h.get? a=some (setO es ep t)/\h.get? tp=some { cls:=.type "tuple",dict:=none,data:=.seq (pl.map λ(p:Nat)=>rawInt p).toArray,slots:=#[] }) where
 sub:=λb hb=>by simp at hb;simp [hb]
 frame:=λi h h' st k=>⟨k I (by simp) _ st.1,k a (by simp) _ st.2.1,k tp (by simp) _ st.2.2⟩
 self:=λi s Q E st hQ=>vT st.1 hQ
 item:=λi s Q E hi st hQ=>by
  obtain ⟨hI,ho,ht⟩:=st;obtain ⟨p,hpl⟩:∃ p,pl[i]?=some p:=⟨_,Ae (by lia)⟩;obtain ⟨x,v,he,hv⟩:=hp i p hpl;unfold pyNext;refine Aa (DE (Bs (name:=CN "__next__") ⟨_,hI,rfl⟩ dZ (Bp dZ ⟨_,hI,rfl⟩ iV ?_ (mR _))));show wpAny _ _ (fieldsOf (.ref I) >>= _) _ _ s;refine Aa (wpAny_fieldsOf hI rfl ?_);show wpAny _ _ (setEntries a >>= _) _ _ s;refine Aa (Eu ho rfl hf ?_);dsimp only;rw [if_neg (by simp)];refine Aa (CU ht rfl ?_);dsimp only;have hq:((pl.map λ(p:Nat)=>rawInt p).toArray)[(Int.toNat (i:Int))]?=some (.int p 0):=by
   rw [Ci,List.getElem?_toArray,Aq,hpl];rfl
  rw [hq];dsimp only;simp only [Ci];refine Aa ?_;unfold setNextDrawn;refine Aa (Ef ho rfl hf ?_);dsimp only;rw [if_neg (by simp),he];refine Ag ?_;refine Aa (lX hI (by decide) λh1 g1 b1=>?_);refine Ag ⟨_,rfl,Ag (hQ _ h1 s.toks hv ⟨?_,?_,?_⟩ λb o hb e=>?_)⟩
  ·rw [g1]
   rfl
  ·rw [b1.2 a ne]
   exact ho
  ·rw [b1.2 tp nt]
   exact ht
  ·have hb':b≠I:=by simpa using hb
   show h1.get? b=some o;rw [b1.2 b hb'];exact e
 done:=λs Q E st hQ=>by
  obtain ⟨hI,ho,ht⟩:=st;unfold pyNext;refine Aa (DE (Bs (name:=CN "__next__") ⟨_,hI,rfl⟩ dZ (Bp dZ ⟨_,hI,rfl⟩ iV ?_ (mR _))));show wpAny _ _ (fieldsOf (.ref I) >>= _) _ _ s;refine Aa (wpAny_fieldsOf hI rfl ?_);show wpAny _ _ (setEntries a >>= _) _ _ s;refine Aa (Eu ho rfl hf ?_);dsimp only;rw [if_neg (by simp)];refine Aa (CU ht rfl ?_);dsimp only;have hq:((pl.map λ(p:Nat)=>rawInt p).toArray)[(Int.toNat (ord.length:Int))]?=none:=by
   rw [Ci,List.getElem?_toArray,Aq,AY (by lia)];rfl
  rw [hq];dsimp only;refine Aa (lX hI (by decide) λh0 g0 b0=>?_);refine Aa (Cr (k:=2) g0 (by simp) λh1 g1 b1=>?_);refine vO hh λh2 k2=>hQ h2 s.toks λb o hb e=>k2 b o ?_;have hb':b≠I:=by simpa using hb
  show h1.get? b=some o;rw [b1.2 b hb',b0.2 b hb'];exact e
end
section
variable {P:Aw}{w:World}{A:Around}{E:Ga}{s:Gm}{a I:Gj}{es:Array (Int×Gk)}{ep:Nat}{t:BU}
def yE {sl i:Nat}(hb:byT w=true)(hf:t.fits es.size=true)(ho:s.heap.get? a=some (setO es ep t))(h:Q ((pickOrder (w.params.setOrder a ep) es)[i]?.map λe=>(e.2,sl)) s):wpAny (model P w) A (setNext a sl i ep) Q E s:=by
 unfold setNext;refine Aa (Ef ho rfl hf ?_);dsimp only;unfold setsByText;refine Aa (Aa (Eo (Ag ?_)));show wpAny _ _ (if byT w=true then _ else _) _ _ s;rw [if_pos hb,if_neg (by simp)];refine Aa ?_;unfold setWalk;refine Aa (Ef ho rfl hf ?_);dsimp only;unfold setsByText;refine Aa (Aa (Eo (Ag ?_)));show wpAny _ _ (if byT w=true then _ else _) _ _ s;rw [if_pos hb];refine Aa (Eo (Ag ?_));exact Ag h
def aBq {sl i:Nat}(hb:byT w=false)(hf:t.fits es.size=true)(hl:t.led=true)(h1:es.size<=1)(ho:s.heap.get? a=some (setO es ep t))(h:Q (match es[DR t.place sl]?,t.place[DR t.place sl]? with|some (_,x),some j=>some (x,j+1)|_,_=>none) s):wpAny (model P w) A (setNext a sl i ep) Q E s:=by
 unfold setNext;refine Aa (Ef ho rfl hf ?_);dsimp only;unfold setsByText;refine Aa (Aa (Eo (Ag ?_)));show wpAny _ _ (if byT w=true then _ else _) _ _ s;rw [if_neg (by rw [hb];decide)];show wpAny _ _ (if (!t.plain&&decide (es.size > 1))=true then _ else _) _ _ s;rw [if_neg (by rw [decide_eq_false (by lia)];simp)];show wpAny _ _ (bind (if (!t.led&&!es.isEmpty)=true then _ else _) _) _ _ s;rw [if_neg (by rw [hl];simp)];refine Aa (Ag ?_);exact Ag h
theorem lT {P:Aw}{w:World}{es:List (Int×Gk)}(el:ElemsOf (strKind P w) es):∀ {l:List (Int×Gk)},(∀ e∈l,e∈es)->EK (l.map (·.2)) (l.map λe=>kv e.2)
 |[],_=>.nil
 |e::l,h=>by
  obtain ⟨t,ht⟩:=aC6 el (h e (Ar ..));have:=lT el (l:=l) λx hx=>h x (Ah _ hx);rw [Ak,Ak,ht];exact .cons _ _ this
def jS {α:Type}(es:Array α){pl:List Nat}(pm:pl.Perm (AV es.size)):(pl.filterMap λp=>es[p]?).Perm es.toList:=by
 have:=pm.filterMap λp=>es[p]?;rw [filterMap_getElem?_range] at this;exact this
theorem nK {α:Type}(es:Array α):∀ {pl:List Nat},(∀ p∈pl,p<es.size)->∀ (i p:Nat),pl[i]?=some p->∃ e,es[p]?=some e/\(pl.filterMap λp=>es[p]?)[i]?=some e
 |[],_,i,p,h=>by simp at h
 |q::pl,hlt,i,p,h=>by
  have hq:=hlt q (Ar ..);have eq:es[q]?=some es[q]:=Fq hq;rw [CS,eq];cases i with
  |zero=>
   simp at h;subst h;exact ⟨_,eq,rfl⟩
  |succ i=>
   simp only [List.getElem?_cons_succ] at h ⊢;exact nK es (λp hp=>hlt p (Ah _ hp)) i p h
theorem places_len {α:Type}(es:Array α):∀ {pl:List Nat},(∀ p∈pl,p<es.size)->(pl.filterMap λp=>es[p]?).length=pl.length
 |[],_=>rfl
 |q::pl,hlt=>by
  have eq:es[q]?=some (es[q]'(hlt q (Ar ..))):=Fq _;rw [CS,eq];simp only [AX];rw [places_len es λp hp=>hlt p (Ah _ hp)]
def aBu {ks:Gh}{Q:Ga}(hh:A.handled=none)(S:SetS P w s.heap a ks)
  (h:∀ I fp St ord h' d',Walks P w A I fp [I] ord.length (IP ord) St->St 0 h'->(∀ b o,s.heap.get? b=some o->h'.get? b=some o)->(∀ b∈fp,s.heap.objs.size<=b\/b=a)->s.heap.objs.size<=I->EK ord (ord.map kv)->(ord.map kv).Perm ks->Q (.ref I) { s with heap:=h',drawn:=d' }) :
  wpAny (model P w) A (pyIter (.ref a)) Q E s:=by
 obtain ⟨⟨es,ep,t,ho,el,hf,hl,hp,pm⟩,nd,lt⟩:=S;have la:a<s.heap.objs.size:=Ao ho;refine wpAny_pyIter_slot ⟨_,ho,rfl⟩ F.slot_set_iter (Bp F.slot_set_iter ⟨_,ho,rfl⟩ oB ?_ (F.args_set_iter_1 _));show wpAny _ _ (AG.Frozenset.sizeOf a >>= _) _ _ s;refine Aa (Aa (Eu ho rfl hf (Ag ?_)));refine Aa (pC ho hf ?_)
 by_cases hd:(!byT w&&(!t.plain&&decide (es.size > 1)))=true
 ·rw [if_pos hd]
  refine Aa (oF es.size (AV es.size) s _ List.length_range λpl d' pp=>?_);refine Aa (Bc ?_ ?hz)
  case hz=>
   show ((pl.map λ(p:Nat)=>rawInt p).toArray).size<=Au;rw [An,Af,pp.length_eq,List.length_range];have:es.size=ks.length:=by rw [<- BE,<- Af (f:=λe=>kv e.2),pm.length_eq]
   exact EW (by lia)
  refine Aa (wpAny_setEpoch_of (o:=setO es ep t) (Ac _ ho) rfl hf ?_);refine Aa (Bc (Ag ⟨_,rfl,"set_iterator",_,⟨_,Ai _ rfl,rfl⟩,dZ.lookup,?_⟩));have hlt:∀ p∈pl,p<es.size:=λp hp=>CM.mp (pp.mem_iff.mp hp);have sz:=λ(h:Heap) (o:Obj)=>BH h o;refine h _ _ _ ((pl.filterMap λp=>es[p]?).map (·.2)) _ d' (tR hh (a:=a) (tp:=s.heap.objs.size) ?_ ?_ hf pl _ (by rw [Af,places_len es hlt]) λi p hi=>?_) ⟨Ai _ rfl,Ac _ (Ac _ ho),Ac _ (Ai _ rfl)⟩ (λb o e=>Ac _ (Ac _ e)) (λb hb=>?_) ?_ ?_ ?_
  ·rw [sz]
   exact As (Cg la)
  ·rw [sz]
   exact As (Cd _)
  ·obtain ⟨e,h1,h2⟩:=nK es hlt i p hi
   exact ⟨e.1,e.2,h1,by rw [Aq,h2];rfl⟩
  ·simp only [Ay,Eh,or_false] at hb
   rcases hb with rfl|rfl|rfl
   ·left
    rw [sz];exact Dj _
   ·exact .inr rfl
   ·exact .inl (Aj _)
  ·rw [sz]
   exact Dj _
  ·rw [Ce]
   exact lT el λe he=>(jS es pp).mem_iff.mp he
  ·rw [Ce]
   exact ((jS es pp).map _).trans pm
 ·rw [if_neg hd]
  refine Aa (Ag ?_);refine Aa (wpAny_setEpoch_of ho rfl hf ?_);refine Aa (Bc (Ag ⟨_,rfl,"set_iterator",_,⟨_,Ai _ rfl,rfl⟩,dZ.lookup,?_⟩));have fpk:∀ b∈[s.heap.objs.size,a],s.heap.objs.size<=b\/b=a:=λb hb=>by
   simp only [Ay,Eh,or_false] at hb
   rcases hb with rfl|rfl
   ·exact .inl (Aj _)
   ·exact .inr rfl
  cases hb:byT w with
  |true=>
   have pk:=wR (w.params.setOrder a ep) es;refine h _ _ _ ((pickOrder (w.params.setOrder a ep) es).toList.map (·.2)) _ s.drawn (mT hh (a:=a) (As la) hf _ (λ_=>0) λA E i s Q _ ho h=>yE hb hf ho ?_) ⟨Ai _ rfl,Ac _ ho⟩ (λb o e=>Ac _ e) fpk (Aj _) ?_ ?_
   ·rw [Aq,Bd,Option.map_map] at h
    exact h
   ·rw [Ce]
    exact lT el λe he=>pk.mem_iff.mp he
   ·rw [Ce]
    exact (pk.map _).trans pm
  |false=>
   have s1:es.size<=1:=by
    rcases hp with hp|hp
    ·rw [hb,hp] at hd
     by_cases z:es.size > 1
     ·exact absurd (by rw [decide_eq_true z];rfl) hd
     ·lia
    ·lia
   rw [hb] at hl;refine h _ _ _ (es.toList.map (·.2)) _ s.drawn (mT hh (a:=a) (As la) hf _ (λi=>if i=0 then 0 else t.place.getD 0 0+1) λA E i s Q hi ho h=>aBq hb hf hl s1 ho ?_) ⟨Ai _ rfl,Ac _ ho⟩ (λb o e=>Ac _ e) fpk (Aj _) ?_ ?_
   ·have hpl:t.place.size=es.size:=by
     simp only [BU.fits,BG,beq_iff_eq] at hf;exact hf.1
    rw [Af,BE] at hi;generalize t.place=pl at *
    obtain ⟨pl⟩:=pl;obtain ⟨es⟩:=es
    match es,pl,hpl,i,hi with
    |[],[],_,0,_=>exact h
    |[e],[p],_,0,_=>exact h
    |[e],[p],_,1,_=>
     have e1:DR #[p] (p+1)=1:=by simp [DR,DR.go]
     simp only [Nat.one_ne_zero,if_false];show Q (match (#[e]:Array _)[DR #[p] (p+1)]?,(#[p]:Array _)[DR #[p] (p+1)]? with|some (_,x),some j=>some (x,j+1)|_,_=>none) s;rw [e1];exact h
    |_::_::_,_,_,_,_=>simp at s1
   ·rw [Ce]
    exact lT el λe he=>he
   ·rw [Ce]
    exact pm
end
section
variable {P:Aw}{w:World}{A:Around}{E:Ga}{s:Gm}{a:Gj}{ks:Gh}
def SetS.type (S:SetS P w s.heap a ks):s.TypeIs (.ref a) "set":=by
 obtain ⟨⟨es,ep,t,ho,_⟩,_,_⟩:=S;exact ⟨_,ho,rfl⟩
def aBv (hT:s.TypeIs (.ref a) "set")(h:Q false s):wpAny (model P w) A (AG.List.listLengthHint (.ref a)) Q E s:=by
 unfold AG.List.listLengthHint;refine Aa (wpAny_specialOf hT PySem.F.slot_set_len.lookup ?_);generalize hid:("set.__len__":String)=id0
 wp_delta
 rw [show splitId id0=some ("set","__len__") from by subst hid;decide +kernel];subst hid;refine Aa (Fj (T:="set") (b:=true) hT (by rw [isSubtype_type];kernel_rfl) ?_);refine wpAny_ite_split (λz=>absurd z (by decide)) (λ_=>?_);refine wpAny_ite_split (λ_=>?_) (λz=>absurd (by decide +kernel) z);exact Aa (DW hT (Ag h))
def uR {c:Nat}(hh:A.handled=none)(S:SetS P w s.heap a ks)(ne:L≠a)(res:Gk)(hL:s.heap.get? L=some { cls:=.type "list",data:=.seq #[] c })(hR:∀ h' d' tk acc c' ks',(∀ b o,b≠L->s.heap.get? b=some o->h'.get? b=some o)->h'.get? L=some { cls:=.type "list",dict:=none,data:=.seq acc c',slots:=#[] }->EK acc.toList ks'->ks'.Perm ks->R (.ok (.ret res)) { s with heap:=h',drawn:=d',toks:=tk }) :
  wpAny (model P w) A.in1 (EF (.ref L) (.ref a) res) (λfin s'=>match fin with|.done f=>R (.ok f) s'|.again c'=>c'.quiet=true/\Ey (model P w) A c' R s') (λe s'=>R (.error e) s') s:=by
 have lL:=Ao hL;have lt:=S.lt;unfold EF;refine Aa (DW (T:="set") S.type ?_);have h1:AG.List.listSameRef (.ref L) (.ref a)=false:=by simp [AG.List.listSameRef,ne]
 have h2:(CW "set" == CW "list")=false:=by decide
 have h3:(CW "set" == CW "tuple")=false:=by decide
 simp only [h1,h2,h3,Bool.or_false,Dd,if_false];refine Aa (aBu (A:=A.in1) hh S λI fp St ord h0 d' W st keep hfp hI hs pm=>?_);have hLf:L∉fp:=λz=>by
  rcases hfp L z with z|z
  ·exact absurd lL (Nat.not_lt.mpr z)
  ·exact ne z
 have on:ord.length<=Au:=by
  have:=pm.length_eq;rw [Af] at this;exact EW (by lia)
 have hT0:({ s with heap:=h0,drawn:=d' }:Gm).TypeIs (.ref a) "set":=(S.at (h':=h0) λo e=>keep _ o e).type (s:={ s with heap:=h0,drawn:=d' });have key:∀ (h:Heap) (c1 tk:Nat),St 0 h->(∀ b o,b≠L->s.heap.get? b=some o->h.get? b=some o)->h.get? L=some { cls:=.type "list",data:=.seq #[] c1 } ->
   Ey (model P w) A (.builtin "list.extend.loop" ⟨[.ref L,.ref I,res],[]⟩) R { s with heap:=h,drawn:=d',toks:=tk }:=by
  intro h c1 tk hst hk hL1;refine codeAny_extend_loopS W.toS on L hLf res ord.length 0 _ #[] c1 rfl (Bu _) hst hL1 (ItemsOf.nil _) λs' acc c' hm hL' hacc=>?_;rw [Moved.eq_with hm];have ea:acc.toList=ord:=ED λi=>by
   rw [Bd];cases q:acc[i]? with
   |none=>
    have:acc.size<=i:=Array.getElem?_eq_none_iff.mp q;rw [AY (by rw [<- hacc.1];exact this)]
   |some v=>exact (hacc.2 i v q).symm
  refine hR s'.heap d' s'.toks acc c' _ (λb o hb e=>hm.heap b o (λz=>?_) (hk b o hb e)) hL' (by rw [ea];exact hs) pm
  rcases Ay.mp z with z|z
  ·exact hb z
  ·exact absurd (Ao e) (by rw [AA.mp z];exact Nat.not_lt.mpr hI)
 have hL1:=keep _ _ hL;refine Aa (Br (aBv hT0 ?_));refine wpAny_ite_split (λ_=>?_) (λ_=>Ag ⟨EI PySem.F.plain_extend_loop _,key _ c s.toks st (λb o _ e=>keep b o e) hL1⟩);refine Aa (Dw ?_);refine Aa ?_;show wpAny _ _ (updateSeq L (·.push .none) >>= λ_=>updateSeq L (·.pop)) _ _ _;refine Aa (wpAny_updateSeq hL1 rfl ?_);have hL2:=BN (DU (·.push BO)) hL1 rfl;refine wpAny_updateSeq (hz:=by seq_fits) hL2 rfl ?_;have hL3:=BN (DU (·.pop)) hL2 rfl;refine Ag ⟨EI PySem.F.plain_extend_loop _,key _ _ s.toks ?_ (λb o hb e=>?_) hL3⟩
 ·refine W.frame 0 _ _ st λb hb o e=>?_
  have hbL:b≠L:=λh=>hLf (h▸hb);exact (Ba _ _ (Bi hbL)).trans ((Ba _ _ (Bi hbL)).trans e)
 ·exact (Ba _ _ (Bi hb)).trans ((Ba _ _ (Bi hb)).trans (keep b o e))
def qN (hh:A.handled=none)(S:SetS P w s.heap a ks)(h:∀ h' d' tk acc ks',(∀ b o,s.heap.get? b=some o->h'.get? b=some o)->EK acc ks'->ks'.Perm ks->R acc { s with heap:=h',drawn:=d',toks:=tk }):wpAny (model P w) A (collect (.ref a)) R E s:=by
 obtain ⟨⟨es,ep,t,ho,_⟩,_,_⟩:=id S;have la:=Ao ho;unfold collect;refine Aa (wpAny_runValue (CI entry_proto_collect' ?_));rw [CH PySem.F.plain_proto_collect _];show wpAny _ A.in1 (newList [] >>= λl=>again (.builtin "list.__iadd__" ⟨[l,.ref a],[]⟩)) _ _ s;refine Aa (Bc ?_);refine Ag ⟨EI PySem.F.plain_list_iadd _,CI entry_list_iadd' ?_⟩;rw [CH PySem.F.plain_list_iadd _];have hL:(s.heap.push { cls:=.type "list",data:=.seq ([]:Gi).toArray }).get? s.heap.objs.size=some { cls:=.type "list",data:=.seq #[] }:=Ai _ rfl;show wpAny _ A.in1 (EF (.ref s.heap.objs.size) (.ref a) (.ref s.heap.objs.size)) _ _ _;have key:=uR (P:=P) (w:=w) (A:=A) (s:={ s with heap:=s.heap.push { cls:=.type "list",data:=.seq ([]:Gi).toArray } }) (ks:=ks)
  (R:=λ(q:Result) (s':Gm)=>∃ h' d' tk acc c' ks',q=.ok (.ret (.ref s.heap.objs.size))/\s'={ s with heap:=h',drawn:=d',toks:=tk }/\(∀ b o,s.heap.get? b=some o->h'.get? b=some o)/\h'.get? s.heap.objs.size=some { cls:=.type "list",dict:=none,data:=.seq acc c',slots:=#[] }/\EK acc.toList ks'/\ks'.Perm ks)
  hh (S.at λo e=>Ac _ e) (Dr la) (.ref s.heap.objs.size) hL λh' d' tk acc c' ks' k k2 k3 k4=>⟨h',d',tk,acc,c',ks',rfl,rfl,λb o e=>k b o (As (Ao e)) (Ac _ e),k2,k3,k4⟩
 refine BR key (λfin s' x=>?_) λe s' x=>?_
 ·cases fin with
  |done f=>
   obtain ⟨h',d',tk,acc,c',ks',e,rfl,k,k2,k3,k4⟩:=x;cases e;show wpAny _ A (load s.heap.objs.size >>= _) _ _ _;exact Aa (wpAny_load k2 (Ag (h h' d' tk acc.toList ks' k k3 k4)))
  |again c1=>
   refine ⟨x.1,Ck x.2 λq s2 y=>?_⟩;obtain ⟨h',d',tk,acc,c',ks',rfl,rfl,k,k2,k3,k4⟩:=y;show wpAny _ A (load s.heap.objs.size >>= _) _ _ _;exact Aa (wpAny_load k2 (Ag (h h' d' tk acc.toList ks' k k3 k4)))
 ·obtain ⟨_,_,_,_,_,_,e',_⟩:=x
  cases e'
def sorted_set (hh:A.handled=none)(S:SetS P w s.heap a ks)(h:∀ (h':Heap) d' (tk:Nat) (acc:Gi) (ks':Gh),(∀ b o,s.heap.get? b=some o->h'.get? b=some o)->EK acc ks'->ks'.Perm ks ->
   wpAny (model P w) A.in1 (call (.builtin "list.sort") [.ref h'.objs.size]) (λ_ s'=>Q (.ref h'.objs.size) s') E { s with heap:=h'.push (seqObj "list" acc.toArray 0),drawn:=d',toks:=tk }) :
  wpAny (model P w) A (call (.builtin "sorted") [.ref a]) Q E s:=by
 have lt:=S.lt;refine Fp kind_sorted plain_sorted entry_sorted (args_sorted1 _) ?_;unfold AG.«sorted»;refine Aa (m:=checkCount "sorted" 1 1 _) (Ag ?_);refine Aa (qN (A:=A.in1) hh S λh' d' tk acc ks' keep hs pm=>?_);have hl:acc.length<=Au:=by
  rw [EK.length hs,pm.length_eq];exact EW lt
 refine Aa (wpAny_newList ?_ hl);refine Aa (Br (BR (h h' d' tk acc ks' keep hs pm) (λ_ s' x=>?_) λ_ _ e=>e));exact Ag ⟨_,rfl,x⟩
end
end SX
namespace L2
open PySem PySem.Spec PyProof.Rows
abbrev SetT (X:Cx)(a:Gj)(ks:Gh):HO:=.ext λh=>SX.SetS X.prog X.w h a ks
section
variable {X:Cx}
def Inv.drawn {Z:St}(I:Inv X U Z H s)(d':Drawn):Inv X U Z H { s with drawn:=d' }:=
 ⟨I.ok,I.os,I.bare,I.base,I.loc,I.cell,I.free,I.freeC,I.pin,I.hok,I.len⟩
def aIu (X:Cx):Gq->Hp->VK->Prop:=λxs H Q=>∃ a,∃ ss:Gh,xs=[.ref a]/\SqL X.K H a (ss.map V.str)/\ss.length<1000/\∀ p,H p=none->Q (.ref p) (upd H p (SetT X p (SX.ddl ss)))
def zX (hc:X.calm=true):fH X (.type "set") (aIu X):=by
 intro U s Z H xs us Q I r h;obtain ⟨a,ss,rfl,hq,h1,q⟩:=h;obtain ⟨u,rfl,rx⟩:=vals1 r;cases rx;obtain ⟨its,r',pl,hz⟩:=I.list hq;have hl:=r'.length;rw [Af] at hl;refine SX.call_set_strs (I.ok.hd hc) pl.isList (by simpa using hW r') (by rw [An];unfold EH;lia) λh' tk S k=>?_;obtain ⟨⟨es,ep,t,ho,_⟩,_,_⟩:=id S;exact ⟨.ref s.heap.objs.size,_,I.laid (a:=s.heap.objs.size) (o:=SetT X s.heap.objs.size (SX.ddl ss)) (t':=tk) k (Aj _) ⟨S,⟨_,ho⟩,λh1 h2 p k=>p.at k⟩,rfl,q _ (I.hok.fresh (Aj _))⟩
def aA1 (X:Cx):Gq->Hp->VK->Prop:=λxs H Q=>∃ a,∃ ks:Gh,xs=[.ref a]/\H a=some (SetT X a ks)/\ks.length<64/\∀ (p:Gj) (ss':Gh),ss'.Perm ks->sortedS ss'=true->H p=none->Q (.ref p) (upd H p (.lst (ss'.map V.str)))
def iM (hc:X.calm=true):fH X (.builtin "sorted") (aA1 X):=by
 intro U s Z H xs us Q I r h;obtain ⟨a,ks,rfl,hH,h64,q⟩:=h;obtain ⟨u,rfl,rx⟩:=vals1 r;cases rx;obtain ⟨S,_,_⟩:=I.hok a _ hH;refine SX.sorted_set (I.ok.hd hc) S λh' d' tk acc ks' keep hS pm=>?_;have hlen:=pm.length_eq;have hal:=EK.length hS;have hoL:(h'.push (seqObj "list" acc.toArray 0)).get? h'.objs.size=some (seqObj "list" acc.toArray 0):=Ai _ rfl;refine Bp slot_list_sort ⟨_,hoL,rfl⟩ entry_list_sort (list_sort_treeK strKind_oneLt hoL hS.keysOf (λv₁ v₂ rest e=>keyKind_strs (by rw [<- e];exact hS)) (by lia) λst' hp hs=>⟨_,rfl,?_⟩) (args_list_sort _);obtain ⟨ss',a1,a2,a3⟩:=sorted_out_str hS hp hs;obtain ⟨e,he⟩:∃ e,(sortedHeap (h'.push (seqObj "list" acc.toArray 0)) h'.objs.size acc ((arrOf st').map (·.2))).get? h'.objs.size=some (seqObj "list" ((arrOf st').map (·.2)) e):=sortedHeap_at hoL;have I1:=(I.drawn d').kept (t':=tk) keep;refine ⟨.ref h'.objs.size,_,I1.laid (a:=h'.objs.size) (o:=.lst (ss'.map V.str)) (t':=tk) (λb o hb'=>?_) (Aj _) (sJ (its:=((arrOf st').map (·.2)).toList) (e:=e) (eK a1) ?_ (by rw [ET];exact he)),rfl,q _ ss' (a2.trans pm) a3 (I1.hok.fresh (Aj _))⟩
 ·have lt:=Ao hb'
  rw [sortedHeap_old (As lt) (by rw [BH];exact Cg lt)];exact Ac _ hb'
 ·rw [Af,a2.length_eq]
  exact cJ (by lia)
end
end L2
namespace SX
open PySem PySem.Spec PyProof.Rows
section
variable {P:Aw}{w:World}{A:Around}{E:Ga}{s:Gm}
def call_set_tup {l:Gj}(hh:A.handled=none)(hl:s.heap.IsTuple l its)(hi:EK its.toList ss)(hb:its.size+1<EH)(h:∀ (h':Heap) (tk:Nat),SetS P w h' s.heap.objs.size (ddl ss)->(∀ b o,s.heap.get? b=some o->h'.get? b=some o)->Q (.ref s.heap.objs.size) { s with heap:=h',toks:=tk }) :
  wpAny (model P w) A (call (.type "set") [.ref l]) Q E s:=by
 obtain ⟨c,tl,hmro⟩:=BY.mro;have hmade:=BY.made;have hsub:=BY.sub;refine EA (Fu ?_);show wpAny _ _ (callAny (.type "set") _) _ _ _;refine Ag ⟨Et _ (by decide +kernel),CI F.entry_type_call ?_⟩;rw [Around.under_plain (weight_type_call_type "set" [.ref l] []) rfl];have h1:=BY.notType;have h2:=BY.canCreate;have hct:=F.typeCall_set_1 (.ref l)
 repeat (any_goals (first|assumption|wp_step))
 refine Ck (yF (.ref l) (E:=E) (Q1:=λobj s1=>obj=.ref s.heap.objs.size/\s1={ s with heap:=s.heap.push (eU w) }) ⟨rfl,rfl⟩) λr s1 hr=>?_;cases r with
 |error e=>exact hr
 |ok fl=>
  cases fl with
  |ret obj=>
   obtain ⟨rfl,rfl⟩:=hr;have hS:(s.heap.push (eU w)).get? s.heap.objs.size=some (eU w):=Ai _ rfl;have hT:Shared.TypeIs { s with heap:=s.heap.push (eU w) } (.ref s.heap.objs.size) "set":=⟨_,hS,rfl⟩;have hli:=BY.init.lookup;have hbi:=BY.init.bind (.ref s.heap.objs.size)
   repeat (any_goals (first|assumption|wp_step))
   refine Ck (Ej (R:=wants (λr s2=>r=.none/\∃ h' tk,s2={ s with heap:=h',toks:=tk }/\SetS P w h' s.heap.objs.size (ddl ss)/\(∀ b o,s.heap.get? b=some o->h'.get? b=some o)) E) BY.init.plain F.entry_set_init (check_set_init_1 hT ?_)) λr2 s2 hr2=>?_
   ·obtain ⟨ol,hol,hcl,nl,hdl⟩:=hl
    obtain ⟨ocls,odict,odata,oslots⟩:=ol;simp only at hcl hdl;subst hcl;subst hdl;have hol':(s.heap.push (eU w)).get? l=some { cls:=.type "tuple",dict:=odict,data:=.seq its nl,slots:=oslots }:=Ac _ hol;have hsls:=F.sub_tuple_set;have hslf:=F.sub_tuple_frozenset;have hne:(CW "tuple" == CW "dict")=false:=by decide
    have hl1:(s.heap.push (eU w)).IsTuple l its:=⟨_,hol',rfl,nl,rfl⟩;unfold AG.«set.__init__» noKeywords AG.Frozenset.updateFrom;generalize hPI:pyIter=PI
    wp_walk
    subst hPI;refine EG hl1 ?_;refine Aa (wpAny_runValue ?_);have hlS:l<s.heap.objs.size:=Ao hol;have hh3:A.in1.in1.in1.handled=none:=by simp [hh]
    have hz:(s.heap.push (eU w)).objs.size=s.heap.objs.size+1:=BH ..;have hneI:l≠(s.heap.push (eU w)).objs.size:=by
     rw [hz];exact As (Cg hlS)
    have haf:s.heap.objs.size∉[(s.heap.push (eU w)).objs.size,l]:=by
     simp only [Ay,Eh,or_false,not_or];rw [hz];exact ⟨As (Cd _),Dr hlS⟩
    have hlen:ss.length=its.size:=by rw [<- BE];exact (EK.length hi).symm
    refine qX ((Walks.tuple hh3 _ l hneI its).toS) s.heap.objs.size haf ss hlen (λi v hv=>oZ hi i v (by rw [Bd];exact hv)) hb (its.size-0) 0 _ (by lia) (Bu _) ⟨⟨_,Ai _ rfl,rfl,rfl⟩,(hl1.push _)⟩ ((rW s.heap).at λo e=>Ac _ e) λs' hm S'=>?_;obtain ⟨h',g',d',tk',os'⟩:=s';have eg:g'=s.gens:=hm.gens;have ed:d'=s.drawn:=hm.drawn;have eo:os'=s.os:=hm.os;subst eg;subst ed;subst eo;show wpAny _ _ _ _ _ _;refine Ag ?_;show wpAny _ _ (ret BO) _ _ _;refine Ag ⟨rfl,h',tk',rfl,S',λb o e=>?_⟩;have hb0:=Ao e;refine hm.heap b o ?_ (Ac _ (Ac _ e));simp only [Ay,Eh,or_false,not_or];rw [hz];exact ⟨As hb0,As (Cg hb0)⟩
   ·cases r2 with
    |error e=>exact hr2
    |ok f2=>
     cases f2 with
     |ret r=>
      obtain ⟨rfl,h',tk,rfl,S',hk'⟩:=hr2
      repeat (any_goals (first|assumption|wp_step))
      exact h _ _ S' hk'
     |_=>exact hr2.elim
  |_=>exact hr.elim
end
end SX
namespace L2
open PySem PySem.Spec PyProof.Rows
section
variable {X:Cx}
def aIt (X:Cx):Gq->Hp->VK->Prop:=λxs H Q=>∃ a,∃ ss:Gh,xs=[.ref a]/\SqT X.K H a (ss.map V.str)/\ss.length<1000/\∀ p,H p=none->Q (.ref p) (upd H p (SetT X p (SX.ddl ss)))
def zW (hc:X.calm=true):fH X (.type "set") (aIt X):=by
 intro U s Z H xs us Q I r h;obtain ⟨a,ss,rfl,hq,h1,q⟩:=h;obtain ⟨u,rfl,rx⟩:=vals1 r;cases rx;obtain ⟨its,r',pl,hz⟩:=I.tuple hq;have hl:=r'.length;rw [Af] at hl;refine SX.call_set_tup (I.ok.hd hc) pl (by simpa using hW r') (by rw [An];unfold EH;lia) λh' tk S k=>?_;obtain ⟨⟨es,ep,t,ho,_⟩,_,_⟩:=id S;exact ⟨.ref s.heap.objs.size,_,I.laid (a:=s.heap.objs.size) (o:=SetT X s.heap.objs.size (SX.ddl ss)) (t':=tk) k (Aj _) ⟨S,⟨_,ho⟩,λh1 h2 p k=>p.at k⟩,rfl,q _ (I.hok.fresh (Aj _))⟩
end
end L2
namespace K51
open PySem PySem.Spec PyProof.Rows L2 GM TM
def gH {n j:Nat}(h:j<n):ixN n (j:Int)=some j:=by
 unfold ixN;rw [if_pos (by lia),if_pos (by lia),Ci]
inductive spWith (vs:Gq)(H:Hp)(Q:VK)(Ex:XK):Prop
 |mk (ph:Gj) (i:Nat) (h n:V) (us:Gq) (e0:vs=[.ref ph,.int (i:Nat),h,n]) (e1:H ph=some (.lst us)) (e2:i<us.length) (e3:us.length<=20) (e4:∀ l z H',Same H H'->H l=none->H' z=some (.tup [h,n])->H' l=some (.lst (us.set i (.ref z)))->Q (.ref l) H'):spWith  vs H Q Ex
def RwO (CD CF CP CE CR:Gj)(dx q:Gj):Rw->HO
 |.draw i x _ _=>.ins CD dx (fs3 "phial" "ware" "amount" (.int ((i:Nat):Int)) (.str x) (.ref q))
 |.fill i x _ _=>.ins CF dx (fs3 "phial" "ware" "level" (.int ((i:Nat):Int)) (.str x) (.ref q))
 |.pour i j _ _=>.ins CP dx (fs3 "one" "other" "part" (.int ((i:Nat):Int)) (.int ((j:Nat):Int)) (.ref q))
 |.empty i=>.ins CE dx (fs1 "phial" (.int ((i:Nat):Int)))
 |.rinse i=>.ins CR dx (fs1 "phial" (.int ((i:Nat):Int)))
inductive spDeedAt (c5 CD CF CP CE CR:Gj)(vs:Gq)(H:Hp)(Q:VK)(Ex:XK):Prop
 |mk (b a:Gj) (nb:Nat) (ws:Gh) (r:Rw) (n:Nat) (e0:vs=[.ref b,.ref a,.int (n:Nat)]) (e1:RIn H b a nb ws r) (e2:∀ q p dx H',RwQ H q r->Same H H'->H p=none->H' p=some (RwO CD CF CP CE CR dx q r)->Q (.ref p) H'):spDeedAt c5 CD CF CP CE CR vs H Q Ex
 |odd (b nb v n:_) (e0:vs=[.ref b,v,.int ((n:Nat):Int)]) (hn:n<1000) (bn:BnV H b nb) (n1:1<=nb) (n16:nb<=16) (o:OddV H v) (kB:BadE c5 [("place",.int (n:Nat))] H Ex):spDeedAt c5 CD CF CP CE CR vs H Q Ex
structure MkD (P:Aw)(w:World)(K:Ab)(mg:Gb)(base:Heap)(C:Gj)(nm:Str)(ps:Gh)(sp:Sp):Prop where
 ex:∃ f fd,Mk K C f/\FnOk P w K mg base CX0 4 f fd ps sp/\Binds K fd ps []/\mg nm=some (.ref C)
def sm0 {H H1:Hp}{p:Gj}(h:Same H H1)(n:H1 p=none):H p=none:=by
 cases e:H p with
 |none=>rfl
 |some o=>rw [h _ _ e] at n;cases n
def yH {H H':Hp}{p dx C:Gj}(np:H p=none)(nd:H dx=none)(kp:∀ b o,b≠p->upd (upd H dx (.own p)) p (.ins C dx []) b=some o->H' b=some o):Same H H':=λb o e=>
 kp b o (bB e np) (by rw [aK (bB e np),aK (bB e nd)];exact e)
section
variable {P:Aw}{w:World}{K:Ab}{mg:Gb}{base:Heap}{CD CF CP CE CR f:Gj}{fd:Az}
def aAz:FnScope ["bench","row","place"] ["bench","row","place"] (aH pR):=fnScOk (by decide +kernel)
def yB {fd5:Az}(F:Fun K "deed_at" "deed_at" pR f fd)(R:ErB K mg cP c0 c1 c2 c3 c4 c5 f0 f1 f2 f3 f4 f5)(FI:FnOk P w K mg base CX0 1 f5 fd5 ["self","place"] (spI1 c5))(bI:Binds K fd5 ["self","place"] [])(cR:Cal P w K mg base CX0 5 "is_row" ["bench","row"] spIsRow)
  (D1:MkD P w K mg base CD "Draw" ["self","phial","ware","amount"] (kW CD "phial" "ware" "amount")) (D2:MkD P w K mg base CF "Fill" ["self","phial","ware","level"] (kW CF "phial" "ware" "level")) (D3:MkD P w K mg base CP "Pour" ["self","one","other","part"] (kW CP "one" "other" "part")) (D4:MkD P w K mg base CE "Empty" ["self","phial"] (pA CE "phial")) (D5:MkD P w K mg base CR "Rinse" ["self","phial"] (pA CR "phial")):FnOk P w K mg base (CXg P w) 6 f fd ["bench","row","place"] (spDeedAt c5 CD CF CP CE CR):=by
 refine F.okF aAz (λvs H Q E h=>?_) (λcdv A outer s H vs Q E hr h=>?_)
 ·cases h with
  |mk _ _ _ _ _ _ e=>subst e;rfl
  |odd _ _ _ _ e=>subst e;rfl
 ·obtain ⟨f1,g1,M1,F1,b1,m1⟩:=D1.ex
  obtain ⟨f2,g2,M2,F2,b2,m2⟩:=D2.ex;obtain ⟨f3,g3,M3,F3,b3,m3⟩:=D3.ex;obtain ⟨f4,g4,M4,F4,b4,m4⟩:=D4.ex;obtain ⟨f5,g5,M5,F5,b5,m5⟩:=D5.ex;refine ⟨_,(aD (bH (fJ (eA (aI cR hr (aA (pv 0) (aA (pv 1) aC)))))
    (aE (eS (k:=1) rfl xe_f rfl (hr.mono (by decide)) rfl R.m5 (R.r5.e "place" (by simp)).i FI bI (aA (pv 2) aC)))
    aQ)
   (aD (bH (aL bW (pit 1 0) aS)
    (aE (aM (jV M1 F1 hr rfl m1 b1 .nil uD (aA (pit 1 1) (aA (pit 1 2) (aA (pit 1 3) aC))))))
    aQ)
   (aD (bH (aL bW (pit 1 0) aS)
    (aE (aM (jV M2 F2 hr rfl m2 b2 .nil uD (aA (pit 1 1) (aA (pit 1 2) (aA (pit 1 3) aC))))))
    aQ)
   (aD (bH (aL bW (pit 1 0) aS)
    (aE (aM (jV M3 F3 hr rfl m3 b3 .nil uD (aA (pit 1 1) (aA (pit 1 2) (aA (pit 1 3) aC))))))
    aQ)
   (aE (aM (aA6 (aL bW (pit 1 0) aS) (jV M4 F4 hr rfl m4 b4 .nil uD (aA (pit 1 1) aC)) (jV M5 F5 hr rfl m5 b5 .nil uD (aA (pit 1 1) aC))))))))),?_⟩
  refine cut5 ?_
  intros
  cases h with
  |odd b nb v n e hn bn n1 n16 o kB=>
   subst e;exact ⟨_,rfl,_,rfl,b,nb,v,false,rfl,bn,o.k n1 n16,λH1 s1=>⟨_,rfl,iteT ⟨_,rfl,aGx hn (kB.mono s1)⟩⟩⟩
  |mk b a nb ws rw' n e ri k=>
  subst e;refine ⟨_,rfl,_,rfl,b,nb,.ref a,true,rfl,ri.bn,ri.k,λH1 s1=>⟨_,rfl,iteF ?_⟩⟩;have md:∀ {x dx C q fs H'},RwQ H q rw'->H1 x=none->H1 dx=none->(∀ b o,b≠x->upd (upd H1 dx (.own x)) x (.ins C dx []) b=some o->H' b=some o)->H' x=some fs->fs=RwO CD CF CP CE CR dx q rw'->Q (.ref x) H':=λhq nx nd kp hx e=>k _ _ _ _ hq (s1.trans (yH nx nd kp)) (sm0 s1 nx) (e▸hx);obtain ⟨q,ha,hq⟩:=ri.rv.w;have sq:=Gv (K:=K) (s1 _ _ ha);cases rw' with
  |draw i x t b'=>exact ⟨a,_,_,rfl,sq,rfl,rfl,_,rfl,iteT ⟨a,_,_,rfl,sq,rfl,a,_,_,rfl,sq,rfl,a,_,_,rfl,sq,rfl,λx dx nx nd _=>⟨x,dx,_,_,_,rfl,aB,λH' kp hx=>⟨rfl,md hq nx nd kp hx rfl⟩⟩⟩⟩
  |fill i x t b'=>exact ⟨a,_,_,rfl,sq,rfl,rfl,_,rfl,iteF ⟨a,_,_,rfl,sq,rfl,rfl,_,rfl,iteT ⟨a,_,_,rfl,sq,rfl,a,_,_,rfl,sq,rfl,a,_,_,rfl,sq,rfl,λx dx nx nd _=>⟨x,dx,_,_,_,rfl,aB,λH' kp hx=>⟨rfl,md hq nx nd kp hx rfl⟩⟩⟩⟩⟩
  |pour i j t b'=>exact ⟨a,_,_,rfl,sq,rfl,rfl,_,rfl,iteF ⟨a,_,_,rfl,sq,rfl,rfl,_,rfl,iteF ⟨a,_,_,rfl,sq,rfl,rfl,_,rfl,iteT ⟨a,_,_,rfl,sq,rfl,a,_,_,rfl,sq,rfl,a,_,_,rfl,sq,rfl,λx dx nx nd _=>⟨x,dx,_,_,_,rfl,aB,λH' kp hx=>⟨rfl,md hq nx nd kp hx rfl⟩⟩⟩⟩⟩⟩
  |empty i=>exact ⟨a,_,_,rfl,sq,rfl,rfl,_,rfl,iteF ⟨a,_,_,rfl,sq,rfl,rfl,_,rfl,iteF ⟨a,_,_,rfl,sq,rfl,rfl,_,rfl,iteF ⟨a,_,_,rfl,sq,rfl,rfl,_,rfl,iteT ⟨a,_,_,rfl,sq,rfl,λx dx nx nd _=>⟨x,dx,_,rfl,aB,λH' kp hx=>⟨rfl,md hq nx nd kp hx rfl⟩⟩⟩⟩⟩⟩⟩
  |rinse i=>exact ⟨a,_,_,rfl,sq,rfl,rfl,_,rfl,iteF ⟨a,_,_,rfl,sq,rfl,rfl,_,rfl,iteF ⟨a,_,_,rfl,sq,rfl,rfl,_,rfl,iteF ⟨a,_,_,rfl,sq,rfl,rfl,_,rfl,iteF ⟨a,_,_,rfl,sq,rfl,λx dx nx nd _=>⟨x,dx,_,rfl,aB,λH' kp hx=>⟨rfl,md hq nx nd kp hx rfl⟩⟩⟩⟩⟩⟩⟩
def aCh:FnScope ["phials","phial","holds","names","behind"] ["phials","phial","holds","names"] (aH pE):=fnScOk (by decide +kernel)
def aEv {f:Gj}{fd:Az}(F:Fun K "with_phial" "with_phial" pE f fd)(T:Txt mg):FnOk P w K mg base CX0 1 f fd ["phials","phial","holds","names"] spWith:=by
 refine F.okA aCh (λcdv A outer s H vs Q E hr h=>?_)
 ·obtain ⟨ph,i,h,n,us,rfl,hp,il,u20,k⟩:=h
  refine ⟨_,(aD (aJ (i:=4) aCh.nd (aV bA rfl T.list' dN (aA (pv 0) aC)))
   (aD (fQ (aU (aA (pv 2) (aA (pv 3) aC))) (jU (pv 4) (pv 1) set_list))
   (aE (aM (pv 4))))),?_⟩
  refine cut3 ?_
  intros
  refine ⟨_,rfl,ph,_,rfl,.inl (Gw hp),λl nl=>?_⟩;have sl:=Gu (o:=.lst us) nl;refine ⟨_,rfl,_,rfl,zLn2,λz nz=>?_⟩;have sz:=Gu (o:=.tup [h,n]) nz;have lz:l≠z:=λe=>by rw [<- e,aB] at nz;cases nz
  refine ⟨_,rfl,_,rfl,l,us,(i:Int),i,rfl,rfl,sz _ _ aB,gH il,?_⟩;refine ⟨_,rfl,k l z _ (λb o e=>?_) nl ?_ aB⟩
  ·rw [aK (bB e nl)]
   exact (sl.trans sz) _ _ e
  ·rw [aK lz.symm]
   exact aB
end
end K51
namespace HT
open PySem PySem.Spec PyProof.Rows
section
variable {prog:Aw}{w:World}{A:Around}{E:Ga}{s:Gm}
end
end HT
namespace L2
open PySem PySem.Spec PyProof.Rows
section
variable {X:Cx}
def rRepTA (K:Ab):R2:=λx y H Q=>∃ a k xs,x=.ref a/\y=.int k/\SqT K H a xs/\xs≠[]/\1<=k/\k<=1000/\xs.length<=1000/\(k=1->Q (.ref a) H)/\(2<=k->∀ p,H p=none->Q (.ref p) (upd H p (.tup (Cm k.toNat xs).flatten)))
def rCatTB (K:Ab):R2:=λx y H Q=>∃ a b xs ys,x=.ref a/\y=.ref b/\SqT K H a xs/\H b=some (.tup ys)/\ys≠[]/\xs.length+ys.length<=Au/\∀ p H',Same H H'->H' p=some (.tup (xs++ys))->Q (.ref p) H'
end
end L2
namespace K51
open PySem PySem.Spec PyProof.Rows L2 GM TM
abbrev PF:Type:=(Str->Int)×Gh
def PhA (H:Hp)(M:Int)(v:V)(d:PF):Prop:=∃ (a m n:Gj) (us:Gq) (ys:Gc),v=.ref a/\H a=some (.tup [.ref m,.ref n])/\H m=some (.tup us)/\PrL H us ys/\IsMx M d.1 ys/\H n=some (.tup (d.2.map V.str))
def PhA.keep {H H':Hp}{M:Int}{v:V}{d:PF}(s:Same H H')(h:PhA H M v d):PhA H' M v d:=by
 obtain ⟨a,m,n,us,ys,e,h1,h2,h3,h4,h5⟩:=h;exact ⟨a,m,n,us,ys,e,s _ _ h1,s _ _ h2,h3.keep s.tk,h4,s _ _ h5⟩
structure StV (H:Hp)(l:Gj)(M:Int)(S:List PF):Prop where
 ex:∃ vs,H l=some (.lst vs)/\vs.length=S.length/\∀ (i:Nat) v d,vs[i]?=some v->S[i]?=some d->PhA H M v d
def StV.keep {H H':Hp}{l:Gj}{M:Int}{S:List PF}(s:Same H H')(h:StV H l M S):StV H' l M S:=by
 obtain ⟨vs,h1,h2,h3⟩:=h;exact ⟨vs,s _ _ h1,h2,λi v d hv hd=>(h3 i v d hv hd).keep s⟩
theorem StV.get {H:Hp}{l:Gj}{M:Int}{S:List PF}{i:Nat}{d:PF}(h:StV H l M S)(hd:S[i]?=some d):∃ vs v,H l=some (.lst vs)/\vs.length=S.length/\vs[i]?=some v/\PhA H M v d:=by
 obtain ⟨vs,h1,h2,h3⟩:=h;obtain ⟨v,hv⟩:∃ v,vs[i]?=some v:=⟨_,Ae (by rw [h2];exact (Ad.mp hd).1)⟩;exact ⟨vs,v,h1,h2,hv,h3 i v d hv hd⟩
def StV.put {H H':Hp}{l l' z:Gj}{M:Int}{S:List PF}{vs:Gq}{i:Nat}{d:PF}(h:StV H l M S)(hl:H l=some (.lst vs))(s:Same H H')(hl':H' l'=some (.lst (vs.set i (.ref z))))(hz:PhA H' M (.ref z) d):StV H' l' M (S.set i d):=by
 obtain ⟨vs',h1,h2,h3⟩:=h;rw [hl] at h1;cases h1;refine ⟨_,hl',by rw [BM,BM];exact h2,λj v e hv he=>?_⟩
 by_cases ij:i=j
 ·subst ij
  have lt:i<vs.length:=by
   have:=(Ad.mp hv).1;rw [BM] at this;exact this
  rw [CT lt] at hv;rw [CT (by lia)] at he;cases hv;cases he;exact hz
 ·rw [Cn ij] at hv he
  exact (h3 j v e hv he).keep s
def tot (ws:Gh)(f:Str->Int):Int:=(ws.map f).sum
structure Wss (ws:Gh):Prop where
 nd:ws.Nodup
 l:ws.length<=7
 w:∀ x∈ws,Wr x
structure Okf (ws:Gh)(d:PF):Prop where
 nn:∀ y,0<=d.1 y
 nin:∀ y∈d.2,y∈ws
 srt:d.2.Pairwise ltS
 inw:∀ y,d.1 y≠0->y∈ws
structure NmU (a b c:Gh):Prop where
 srt:c.Pairwise ltS
 mem:∀ y,y∈c↔y∈a\/y∈b
def eN {c:Gh}(h:c.Pairwise ltS):c.Nodup:=h.imp λ{a b} h=>aE9 h
def aE8 {c c':Gh}(h:c.Pairwise ltS)(h':c'.Pairwise ltS)(m:∀ y,y∈c↔y∈c'):c=c':=by
 have p:c.Perm c':=(List.perm_ext_iff_of_nodup (eN h) (eN h')).mpr m;exact p.eq_of_pairwise (le:=leS) (λx y _ _ h1 h2=>TM.ext (ER h1 h2)) (h.imp λh=>List.le_of_lt h) (h'.imp λh=>List.le_of_lt h)
def NmU.uniq {a b c c':Gh}(h:NmU a b c)(h':NmU a b c'):c=c':=aE8 h.srt h'.srt λy=>(h.mem y).trans (h'.mem y).symm
def aCx {a b ss:Gh}(p:ss.Perm (SX.ddl (a++b)))(so:sortedS ss=true):NmU a b ss:=by
 have nd:ss.Nodup:=p.nodup_iff.mpr (SX.ddl_nodup _);refine ⟨?_,λy=>by rw [p.mem_iff,SX.ddl_mem,AS]⟩;refine (List.pairwise_and_iff.mpr ⟨jB so,nd⟩).imp λ{x y} h=>?_;exact Bg λz=>h.2 (TM.ext (ER h.1 (List.not_lt.mp z)))
def hU {ws:Gh}{M:Int}{f:Str->Int}{ys:Gc}(nd:ws.Nodup)(mx:IsMx M f ys)(h:∀ y,f y≠0->y∈ws):sumN M ys=tot ws f:=by
 rw [<- lQ nd λx hx=>h x.1 ((mx.mem x.1).mp (Bq hx))];unfold tot;exact congrArg List.sum (Ei λy _=>mx.nw y)
def yG {ws:Gh}{M:Int}{f:Str->Int}{ys:Gc}(mx:IsMx M f ys)(h:∀ y,f y≠0->y∈ws):ys.length<=ws.length:=by
 have:=mx.nd.length_le_of_subset (l₂:=ws) λy hy=>h y ((mx.mem y).mp hy);rwa [Af] at this
def BadO (c:Gj)(n i:Nat)(M N:Int)(rb:Int×Int)(H:Hp)(E:XK):Prop:=∀ a t b dx H',Same H H'->H' a=some (.tup [.int t,.int b])->Fr (M*rb.2) t b (N*rb.2-rb.1*M)->H' dx=some (xdE dx [("over",.ref a),("phial",.int (i:Nat)),("place",.int (n:Nat))])->E (.ref c) (some dx) H'
def BadO.mono {c:Gj}{n i:Nat}{M N:Int}{rb:Int×Int}{H H1:Hp}{E:XK}(s:Same H H1)(h:BadO c n i M N rb H E):BadO c n i M N rb H1 E:=λa t b dx H' s'=>h a t b dx H' (s.trans s')
structure MoreIn (K:Ab)(H:Hp)(b r q l cm nm:Gj)(rs us:Gq)(ps:Gf)(rbs:Gg)(ws:Gh)(M:Int)(S:List PF)(i:Nat)(d:PF)(rb:Int×Int)(cus:Gq)(cs:Gc)(xs:Gh):Prop where
 bn:Bn H b r q rs us ps
 rm:RmL H rs rbs
 ww:Wss ws
 st:StV H l M S
 sl:S.length=rs.length
 ok:∀ d∈S,Okf ws d
 di:S[i]?=some d
 rbi:rbs[i]?=some rb
 hc:H cm=some (.tup cus)
 pc:PrL H cus cs
 oc:Over M cs
 cw:∀ x∈cs,x.1∈ws
 cl:cs.length<=7
 hn:H nm=some (.tup (xs.map V.str))
 xw:∀ x∈xs,x∈ws
 xl:xs.length<=20
 m0:0<M
 bm:Bt 2900 M
 bs:Bt 2900 (tot ws (λy=>d.1 y+NW M cs y))
inductive spMore (K:Ab)(c3 c4:Gj)(vs:Gq)(H:Hp)(Q:VK)(E:XK):Prop
 |mk (b r q l cm nm rs us ps rbs ws M S i d rb cus cs xs n:_) (e0:vs=[.ref b,.ref l,.int (i:Nat),.ref cm,.ref nm,.int (n:Nat)]) (e1:n<1000) (e2:MoreIn K H b r q l cm nm rs us ps rbs ws M S i d rb cus cs xs) (e3:(rb.1*M<tot ws (λy=>d.1 y+NW M cs y)*rb.2->BadO c3 n i M (tot ws (λy=>d.1 y+NW M cs y)) rb H E)) (e4:(¬ rb.1*M<tot ws (λy=>d.1 y+NW M cs y)*rb.2->∀ nm',NmU d.2 xs nm'->(∀ pa,pairOf us ps nm'=.ref pa->BadE c4 [("pair",.ref pa),("phial",.int (i:Nat)),("place",.int (n:Nat))] H E) /\
  (pairOf us ps nm'=.non->∀ l' H',Same H H'->H l'=none->StV H' l' M (S.set i (λy=>d.1 y+NW M cs y,nm'))->Q (.ref l') H'))):spMore K c3 c4 vs H Q E
theorem jZ {H:Hp}:∀ {us:Gq} {ps:Gf} {xs:Gh},PsT H us ps->pairOf us ps xs=.non\/∃ pa p,pairOf us ps xs=.ref pa/\p∈ps/\H pa=some (.tup [.str p.1,.str p.2])
 |[],ps,xs,_=>.inl iE
 |u::us,[],xs,h=>.inl rfl
 |u::us,p::ps,xs,h=>by
  unfold pairOf;split
  ·obtain ⟨q,e,hq⟩:=h.2 0 u p rfl rfl
   exact .inr ⟨q,p,e,Ar ..,hq⟩
  ·rcases jZ (us:=us) (ps:=ps) (xs:=xs) ⟨by have:=h.1;simpa using this,λi u p hu hp=>h.2 (i+1) u p (by simpa using hu) (by simpa using hp)⟩ with e|⟨pa,p',e1,e2,e3⟩
   ·exact .inl e
   ·exact .inr ⟨pa,p',e1,Ah _ e2,e3⟩
def aDb:BZ "set" = some (.type "set"):=by decide +kernel
def catT {K:Ab}{H:Hp}{a b:Gj}{xs ys:Gh}{Q:VK}(ha:H a=some (.tup (xs.map V.str)))(hb:H b=some (.tup (ys.map V.str)))(hz:xs.length+ys.length<=100)(h:∀ p H',Same H H'->SqT K H' p ((xs++ys).map V.str)->Q (.ref p) H'):aCn K (.ref a) (.ref b) H Q:=by
 by_cases e:xs=[]
 ·subst e
  exact .inl ⟨a,b,_,rfl,rfl,Gv ha,Gv hb,h b H (Same.refl _) (Gv hb)⟩
 ·refine .inr ⟨a,b,_,_,rfl,rfl,Gv ha,Gv hb,(λz=>e (Fh.mp z)),by rw [Af,Af];exact cJ (by lia),λz=>?_,λz p np=>?_⟩
  ·have:ys=[]:=Fh.mp z
   subst this;exact h a H (Same.refl _) (by rw [BX];exact Gv ha)
  ·exact h p _ (Gu np) (by rw [Be];exact Gv aB)
def zB {t b:Int}(h:Rm t b):Fr b t b t:=⟨⟨by have:=h.1;lia,h.2,h.3⟩,by rw [BD]⟩
def Tw.flip {K:Ab}{H:Hp}{p q:Gj}{t1 b1 t2 b2:Int}(h:Tw K H p q t1 b1 t2 b2):Tw K H q p t2 b2 t1 b1:=⟨h.sq,h.sp,h.a2,h.a1,h.st2,h.sb2,h.st1,h.sb1⟩
theorem hV (g h:Str->Int):∀ ws:Gh,tot ws (λy=>g y+h y)=tot ws g+tot ws h
 |[]=>rfl
 |y::r=>by
  have ih:=hV g h r;unfold tot at ih ⊢;rw [Ak,Ak,Ak,AH,AH,AH,ih];lia
section
variable {P:Aw}{w:World}{K:Ab}{mg:Gb}{base:Heap}{cP c0 c1 c2 c3 c4 c5 f0 f1 f2 f3 f4 f5:Gj}
abbrev aJi:Gh:=["bench","phials","phial","comes","names","place","holds","much","room","names_behind","pair"]
def lA:FnScope aJi ["bench","phials","phial","comes","names","place"] (aH jG):=fnScOk (by decide +kernel)
def aEz {f:Gj}{fd g3 g4:Az}(F:Fun K "with_more" "with_more" jG f fd)(T:Txt mg)(R:ErB K mg cP c0 c1 c2 c3 c4 c5 f0 f1 f2 f3 f4 f5)
  (F3:FnOk P w K mg base CX0 1 f3 g3 ["self","place","phial","over"] (spI3 c3)) (b3:Binds K g3 ["self","place","phial","over"] []) (F4:FnOk P w K mg base CX0 1 f4 g4 ["self","place","phial","pair"] (aDr K c4)) (b4:Binds K g4 ["self","place","phial","pair"] [])
  (cT:Cal P w K mg base CX0 5 "together" ["one","other"] (aGf K)) (cW:Cal P w K mg base CX0 5 "whole" ["one"] (lV K)) (cL:Cal P w K mg base CX0 5 "less" ["one","other"] (spLess K)) (cM:Cal P w K mg base CX0 5 "minus" ["one","other"] (spMinus K)) (cP':Cal P w K mg base CX0 5 "pair_in" ["bench","names"] (rD K)) (cH:Cal P w K mg base CX0 5 "with_phial" ["phials","phial","holds","names"] spWith) :
  FnOk P w K mg base (CXg P w) 6 f fd ["bench","phials","phial","comes","names","place"] (spMore K c3 c4):=by
 refine F.okFA lA (λcdv A outer s H vs Q E hr h=>?_)
 ·obtain ⟨b,r,q,l,cm,nm,rs,us,ps,rbs,ws,M,S,i,d,rb,cus,cs,xs,n,rfl,hn,m,kS,kG⟩:=h
  refine ⟨_,(aD (aJ (i:=6) lA.nd (aI cT hr (aA (aZ cY (aZ aX (pv 1) (pv 2) (λ_ _=>rfl)) aG (λ_ _=>rfl)) (aA (pv 3) aC))))
   (aD (aJ (i:=7) lA.nd (aI cW hr (aA (pv 6) aC)))
   (aD (aJ (i:=8) lA.nd (aZ cY (pit 0 0) (pv 2) (λ_ _=>rfl)))
   (aD (bH (eA (aI cL hr (aA (pv 8) (aA (pv 7) aC))))
    (aE (eS (k:=1) rfl xe_f rfl (hr.mono (by decide)) rfl R.m3 (R.r3.e "place" (by simp)).i F3 b3 (aA (pv 5) (aA (pv 2) (aA (aI cM hr (aA (pv 7) (aA (pv 8) aC))) aC)))))
    aQ)
   (aD (aJ (i:=9) lA.nd (aV bG rfl T.tup' dB (aA (aT (iM rfl) rfl T.sorted' boot_sorted (aA (aV (zW rfl) rfl T.set' aDb (aA (aP aA7 (aZ cY (aZ aX (pv 1) (pv 2) (λ_ _=>rfl)) aG (λ_ _=>rfl)) (pv 4)) aC)) aC)) aC)))
   (aD (aJ (i:=10) lA.nd (aI cP' hr (aA (pv 0) (aA (pv 9) aC))))
   (aD (bH (aL xA (pv 10) dO)
    (aE (eS (k:=1) rfl xe_f rfl (hr.mono (by decide)) rfl R.m4 (R.r4.e "place" (by simp)).i F4 b4 (aA (pv 5) (aA (pv 2) (aA (pv 10) aC)))))
    aQ)
   (aE (aM (aI cH hr (aA (pv 1) (aA (pv 2) (aA (pv 6) (aA (pv 9) aC)))))))))))))),?_⟩
  obtain ⟨vs,v,hl,vl,hv,a,mm,nn,ms,ys,rfl,ha,hm,pr,mx,hnn⟩:=m.st.get m.di;have okd:=m.ok d (Al m.di);have M0:=m.m0;have oy:Over M ys:=mx.over;have tS:sumN M ys=tot ws d.1:=hU m.ww.nd mx okd.inw;have cS:sumN M cs=tot ws (NW M cs):=(lQ m.ww.nd m.cw).symm;have tA:tot ws (λy=>d.1 y+NW M cs y)=sumN M ys+sumN M cs:=by rw [hV,tS,cS]
  have nY:=bU M0 oy;have nC:=bU M0 m.oc;have yl:=yG mx okd.inw;have wl:=m.ww.l;have bT:=m.bs;rw [tA] at bT;refine ⟨_,rfl,_,rfl,l,_,(i:Int),.ref a,rfl,rfl,Gw hl,aW hv,a,_,0,.ref mm,rfl,rfl,Gv ha,rfl,_,rfl,mm,cm,ms,cus,ys,cs,M,rfl,Gv hm,pr,Gv m.hc,m.pc,by have:=m.cl;lia,oy,m.oc,M0,m.bm.mono (by decide),by rw [oY];exact bT.mono (by decide),λhd zs zy H1 s1 hhd pz mz=>?_⟩;have mz':IsMx M (λy=>d.1 y+NW M cs y) zy:=mz.congr λy=>by rw [mx.nw]
  have okz:∀ y,d.1 y+NW M cs y≠0->y∈ws:=λy hy=>by
   by_cases e:d.1 y=0
   ·have:NW M cs y≠0:=by lia
    by_cases z:y∈cs.map (·.1)
    ·obtain ⟨x,hx,rfl⟩:=AE.mp z
     exact m.cw x hx
    ·exact absurd (eJ z) this
   ·exact okd.inw y e
  have zS:sumN M zy=tot ws (λy=>d.1 y+NW M cs y):=hU m.ww.nd mz' okz;have oz:Over M zy:=mz'.over;have nZ:=bU M0 oz;have bZ:=m.bs;rw [<- zS] at bZ kS kG;refine ⟨_,rfl,hd,zs,zy,M,rfl,Gv hhd,pz,oz,M0,m.bm.mono (by decide),λj=>(bZ.le (bU M0 (oz.take j)) (fM M0 j oz)).mono (by decide),λmu t b' H2 s2 hmu fr=>?_⟩;have s02:=s1.trans s2;obtain ⟨t_le,b_le⟩:=dE M0 fr;have bb:=fr.am.b1;have bt:Bt 4000 t:=(bZ.le fr.am.t0 t_le).mono (by decide);have bb':Bt 4000 b':=(m.bm.le (by lia) b_le).mono (by decide);obtain ⟨rv,hrv⟩:∃ rv,rs[i]?=some rv:=⟨_,Ae (by rw [<- m.sl];exact (Ad.mp m.di).1)⟩;obtain ⟨rb',hrb',ra,rfl,hra,rmm⟩:=m.rm.get hrv;rw [m.rbi] at hrb';cases hrb';have bn2:=m.bn.keep s02;have i16:i<16:=by
   have h1:=(Ad.mp hrv).1;have h2:=m.bn.l16;lia
  have tw:Tw K H2 ra mu rb.1 rb.2 t b':=⟨Gv (s02 _ _ hra),hmu,⟨by have:=rmm.t1;lia,rmm.b1,rmm.g⟩,fr.am,rmm.st.mono (by decide),rmm.sb.mono (by decide),bt,bb'⟩;have frr:Fr rb.2 rb.1 rb.2 rb.1:=zB rmm;refine ⟨b,_,_,rfl,Gv bn2.hp,rfl,_,rfl,r,_,(i:Int),.ref ra,rfl,rfl,Gv bn2.hr,aW hrv,?_⟩;refine ⟨_,rfl,_,rfl,ra,mu,rb.1,rb.2,t,b',rfl,tw,_,rfl,?_⟩;rw [zC M0 fr];refine ite2 (λc=>?_) (λc=>?_)
  ·have c':rb.1*M<sumN M zy*rb.2:=of_decide_eq_true c
   obtain ⟨le,fo⟩:=fY (M1:=M) (M2:=rb.2) M0 (by have:=rmm.b1;lia) fr frr (by lia);refine ⟨_,rfl,_,rfl,_,rfl,_,rfl,mu,ra,t,b',rb.1,rb.2,rfl,tw.flip,le,λpo H3 s3 hpo=>?_⟩;exact aGw hn (by lia) λdx H' s' hd=>kS c' po _ _ dx H' ((s02.trans s3).trans s') (s' _ _ hpo) fo hd
  ·have c':¬ rb.1*M<sumN M zy*rb.2:=of_decide_eq_false (by simpa using c)
   refine ⟨_,rfl,_,rfl,l,_,(i:Int),.ref a,rfl,rfl,Gw (s02 _ _ hl),aW hv,a,_,1,.ref nn,rfl,rfl,Gv (s02 _ _ ha),rfl,_,rfl,?_⟩;have nl:d.2.length<=7:=AR ((eN okd.srt).length_le_of_subset okd.nin) wl;refine catT (s02 _ _ hnn) (s02 _ _ m.hn) (by have:=m.xl;lia) λpc H3 s3 hpc=>?_;have ll:(d.2++xs).length<=30:=by rw [Av];have:=m.xl;lia
   refine ⟨pc,_,rfl,hpc,by lia,λp2 np2=>⟨p2,_,rfl,aB,DI (SX.ddl_len _) (by lia),λp3 nm' pm so np3=>⟨p3,_,rfl,.inl ⟨Gw aB,λp4 np4=>?_⟩⟩⟩⟩;have u:=aCx pm so;have s4:=Gu (o:=.tup (nm'.map V.str)) np4;have s3':=((Gu np2).trans (Gu (o:=.lst (nm'.map V.str)) np3)).trans s4;have s04:=(s02.trans s3).trans s3';have bn4:=m.bn.keep s04;refine ⟨_,rfl,_,rfl,b,r,q,rs,us,ps,p4,nm',rfl,bn4,Gv aB,?_⟩;obtain ⟨kT,kO⟩:=kG c' nm' u
   rcases jZ (xs:=nm') m.bn.pt with e|⟨pa,p,e,pmem,hpa⟩
   ·rw [e]
    refine ⟨_,rfl,rfl,_,rfl,iteF ?_⟩;have s14:=(s2.trans s3).trans s3';have il:=(Ad.mp hv).1;have l16:=m.bn.l16;have sl:=m.sl;refine ⟨_,rfl,_,rfl,_,rfl,_,rfl,l,i,.ref hd,.ref p4,vs,rfl,s04 _ _ hl,il,by lia,λl' z H5 s5 nl' hz hl'=>?_⟩;exact kO e l' H5 (s04.trans s5) (sm0 s04 nl') (m.st.put hl (s04.trans s5) hl' ⟨z,hd,p4,zs,zy,rfl,hz,(s14.trans s5) _ _ hhd,pz.keep (s14.trans s5).tk,mz',s5 _ _ aB⟩)
   ·rw [e]
    refine ⟨_,rfl,rfl,_,rfl,iteT ?_⟩;have g:=m.bn.g.ok p pmem;exact ⟨_,rfl,_,rfl,_,rfl,aEf hn (by lia) (s04 _ _ hpa) g.1 g.2.1 ((kT pa e).mono s04)⟩
end
structure BS (H:Hp)(b r q:Gj)(rs us:Gq)(ps:Gf)(rbs:Gg)(ws:Gh):Prop where
 bn:Bn H b r q rs us ps
 rm:RmL H rs rbs
 ww:Wss ws
def BS.keep {H H':Hp}{b r q:Gj}{rs us:Gq}{ps:Gf}{rbs:Gg}{ws:Gh}(s:Same H H')(h:BS H b r q rs us ps rbs ws):BS H' b r q rs us ps rbs ws:=⟨h.bn.keep s,h.rm.keep s.tk,h.ww⟩
structure Sok (ws:Gh)(rbs:Gg)(M:Int)(S:List PF)(β:Nat):Prop where
 m0:0<M
 bm:Bt β M
 sl:S.length=rbs.length
 ok:∀ d∈S,Okf ws d
 fit:∀ (i:Nat) d rb,S[i]?=some d->rbs[i]?=some rb->tot ws d.1*rb.2<=rb.1*M
def scl (b:Int)(S:List PF):List PF:=S.map λd=>(λy=>d.1 y*b,d.2)
def fN {b:Int}{S:List PF}{i:Nat}{d:PF}(h:S[i]?=some d):(scl b S)[i]?=some (λy=>d.1 y*b,d.2):=by
 unfold scl;rw [Aq,h];rfl
theorem eY (f:Str->Int)(b:Int):∀ ws:Gh,tot ws (λy=>f y*b)=tot ws f*b
 |[]=>by simp [tot]
 |y::r=>by
  have ih:=eY f b r;unfold tot at ih ⊢;rw [Ak,Ak,AH,AH,ih,Int.add_mul]
def iU {M1 M2 t b n1 n2:Int}(h:Fr M1 t b n1)(h1:0<M1)(e:n1*M2=n2*M1):Fr M2 t b n2:=by
 refine ⟨h.am,Bl (show M1≠0 by lia) ?_⟩;have:=h.e
 calc t*M2*M1=t*M1*M2:=by rw [AQ]
  _=n1*b*M2:=by rw [this]
  _=n1*M2*b:=by rw [AQ]
  _=n2*M1*b:=by rw [e]
  _=n2*b*M1:=by rw [AQ]
def IsMx.scale {M1 M2:Int}{f1 f2:Str->Int}{ys:Gc}(h:IsMx M1 f1 ys)(h1:0<M1)(h2:0<M2)(e:∀ y,f1 y*M2=f2 y*M1):IsMx M2 f2 ys:=by
 refine ⟨h.pw,h.nd,λy=>?_,λp hp=>iU (h.fr p hp) h1 (e _)⟩;rw [h.mem];have q:=e y;constructor
 ·intro n z
  rw [z,Bo] at q
  rcases DP.mp q with w|w
  ·exact n w
  ·lia
 ·intro n z
  rw [z,Bo] at q
  rcases DP.mp q.symm with w|w
  ·exact n w
  ·lia
def StV.scale {H:Hp}{l:Gj}{M b:Int}{S:List PF}(h:StV H l M S)(M0:0<M)(b0:0<b):StV H l (M*b) (scl b S):=by
 obtain ⟨vs,h1,h2,h3⟩:=h;refine ⟨vs,h1,by unfold scl;rw [Af];exact h2,λi v d hv hd=>?_⟩;unfold scl at hd;rw [Aq] at hd;obtain ⟨e,he,rfl⟩:=AZ.mp hd;obtain ⟨a,m,n,us,ys,e1,e2,e3,e4,e5,e6⟩:=h3 i v e hv he;exact ⟨a,m,n,us,ys,e1,e2,e3,e4,e5.scale M0 (Cp M0 b0) λy=>by rw [BD M b,<- BI],e6⟩
def Okf.scale {ws:Gh}{d:PF}{b:Int}(h:Okf ws d)(b0:0<b):Okf ws (λy=>d.1 y*b,d.2):=
 ⟨λy=>Bv (h.nn y) (Int.le_of_lt b0),h.nin,h.srt,λy hy=>h.inw y λe=>hy (by show d.1 y*b=0;rw [e,Bo])⟩
def Sok.scale {ws:Gh}{rbs:Gg}{M b:Int}{S:List PF}{β γ:Nat}(h:Sok ws rbs M S β)(b0:0<b)(bb:Bt γ b):Sok ws rbs (M*b) (scl b S) (β+γ):=by
 refine ⟨Cp h.m0 b0,h.bm.mul bb,by unfold scl;rw [Af];exact h.sl,λd hd=>?_,λi d rb hd hr=>?_⟩
 ·unfold scl at hd
  obtain ⟨e,he,rfl⟩:=AE.mp hd;exact (h.ok e he).scale b0
 ·unfold scl at hd
  rw [Aq] at hd;obtain ⟨e,he,rfl⟩:=AZ.mp hd;have f:=EN (h.fit i e rb he hr) (Int.le_of_lt b0);show tot ws (λy=>e.1 y*b)*rb.2<=rb.1*(M*b);rw [eY,AQ,<- BI];exact f
def oneW (x:Str)(n:Int):Str->Int:=λy=>if x=y then n else 0
def IntoR (c3 c4:Gj)(us:Gq)(ps:Gf)(ws:Gh)(M:Int)(S:List PF)(i:Nat)(d:PF)(rb:Int×Int)(add:Str->Int)(xs:Gh)(n:Nat)(H:Hp)(Q:VK)(E:XK):Prop:=
 (rb.1*M<tot ws (λy=>d.1 y+add y)*rb.2->BadO c3 n i M (tot ws (λy=>d.1 y+add y)) rb H E) /\
 (¬ rb.1*M<tot ws (λy=>d.1 y+add y)*rb.2->∀ nm',NmU d.2 xs nm'->(∀ pa,pairOf us ps nm'=.ref pa->BadE c4 [("pair",.ref pa),("phial",.int (i:Nat)),("place",.int (n:Nat))] H E) /\
  (pairOf us ps nm'=.non->∀ l' H',Same H H'->H l'=none->StV H' l' M (S.set i (λy=>d.1 y+add y,nm'))->Q (.ref l') H'))
def IntoR.mono {c3 c4:Gj}{us:Gq}{ps:Gf}{ws:Gh}{M:Int}{S:List PF}{i:Nat}{d:PF}{rb:Int×Int}{add:Str->Int}{xs:Gh}{n:Nat}{H H1:Hp}{Q:VK}{E:XK}(s:Same H H1)(h:IntoR c3 c4 us ps ws M S i d rb add xs n H Q E):IntoR c3 c4 us ps ws M S i d rb add xs n H1 Q E:=
 ⟨λc=>(h.1 c).mono s,λc nm' u=>⟨λpa e=>((h.2 c nm' u).1 pa e).mono s,λe l' H' s' nl=>(h.2 c nm' u).2 e l' H' (s.trans s') (sm0 s nl)⟩⟩
theorem aDf {M t b:Int}{x:Str}(b0:0<b)(y:Str):NW (M*b) [(x,t,b)] y=oneW x (t*M) y:=by
 rw [kQ];unfold oneW;have:NW (M*b) [] y=0:=eJ (by simp);rw [this,Int.add_zero];have e:nOf (M*b) (x,t,b)=t*M:=by
  show t*(M*b/b)=t*M;rw [Int.mul_ediv_cancel _ (by lia)]
 rw [e]
theorem oX {x:Str}{n:Int}:∀ {ws:Gh},ws.Nodup->x∈ws->tot ws (oneW x n)=n
 |[],_,h=>by cases h
 |y::r,nd,h=>by
  have nd':=BF.mp nd;have z:∀ {r:Gh},x∉r->tot r (oneW x n)=0:=λ{r}=>by
   induction r with
   |nil=>intro _;rfl
   |cons u q ih=>
    intro h;have ih':=ih λm=>h (Ah _ m);unfold tot at ih' ⊢;rw [Ak,AH,ih'];unfold oneW;rw [if_neg λe=>h (by rw [e];exact Ar ..)];rfl
  by_cases e:x=y
  ·subst e
   have zr:=z nd'.1;unfold tot at zr ⊢;rw [Ak,AH,zr];unfold oneW;rw [if_pos rfl,Int.add_zero]
  ·have ih:=oX (n:=n) nd'.2 ((Ay.mp h).resolve_left e)
   unfold tot at ih ⊢;rw [Ak,AH,ih];unfold oneW;rw [if_neg e,Int.zero_add]
def Sok.small {ws:Gh}{rbs:Gg}{M:Int}{S:List PF}{β:Nat}{i:Nat}{d:PF}{rb:Int×Int}(h:Sok ws rbs M S β)(hd:S[i]?=some d)(hr:rbs[i]?=some rb)(rm:Rm rb.1 rb.2):0<=tot ws d.1/\Bt (100+β) (tot ws d.1):=by
 have n0:∀ r:Gh,0<=tot r d.1:=λr=>by
  induction r with
  |nil=>exact Dy _
  |cons y r ih=>
   have:=(h.ok d (Al hd)).nn y;unfold tot at ih ⊢;rw [Ak,AH];lia
 have f:=h.fit i d rb hd hr;have b1:=rm.b1;have m:=CJ b1 (n0 ws);rw [Int.mul_one] at m;exact ⟨n0 ws,(rm.st.mul h.bm).le (n0 ws) (by lia)⟩
structure OnIn (H:Hp)(b r q l:Gj)(rs us:Gq)(ps:Gf)(rbs:Gg)(ws:Gh)(M:Int)(S:List PF)(β:Nat):Prop where
 bs:BS H b r q rs us ps rbs ws
 st:StV H l M S
 so:Sok ws rbs M S β
 b24:β<=2400
def OnIn.keep {H H':Hp}{b r q l:Gj}{rs us:Gq}{ps:Gf}{rbs:Gg}{ws:Gh}{M:Int}{S:List PF}{β:Nat}(s:Same H H')(h:OnIn H b r q l rs us ps rbs ws M S β):OnIn H' b r q l rs us ps rbs ws M S β:=⟨h.bs.keep s,h.st.keep s,h.so,h.b24⟩
theorem RmL.at {H:Hp}{rs:Gq}{rbs:Gg}(h:RmL H rs rbs){i:Nat}{rb:Int×Int}(hr:rbs[i]?=some rb):Rm rb.1 rb.2:=by
 obtain ⟨v,hv⟩:∃ v,rs[i]?=some v:=⟨_,Ae (by rw [h.1];exact (Ad.mp hr).1)⟩;obtain ⟨_,_,_,rm⟩:=h.2 i v rb hv hr;exact rm
def aHq {K:Ab}{H:Hp}{b r q l cm nm pr qa:Gj}{rs us:Gq}{ps:Gf}{rbs:Gg}{ws:Gh}{M:Int}{S:List PF}{β i:Nat}{d:PF}{rb:Int×Int}{x:Str}{t t' b':Int}
  (o:OnIn H b r q l rs us ps rbs ws M S β) (hd:S[i]?=some d) (hr:rbs[i]?=some rb) (xw:x∈ws) (hM:b'∣M*t') (am:Amt t b') (t0:0<t') (bt:Bt 2600 (NW (M*t') [(x,t,b')] x)) (bt':Bt 200 t')
  (hc:H cm=some (.tup [.ref pr])) (hp:H pr=some (.tup [.str x,.ref qa])) (hq:H qa=some (.tup [.int t,.int b'])) (hn:H nm=some (.tup [.str x])) :
  MoreIn K H b r q l cm nm rs us ps rbs ws (M*t') (scl t' S) i (λy=>d.1 y*t',d.2) rb [.ref pr] [(x,t,b')] [x]:=by
 have rm:=o.bs.rm.at hr;obtain ⟨n0,sm⟩:=o.so.small hd hr rm;have b24:=o.b24;have ss:=o.so.scale t0 bt';refine ⟨o.bs.bn,o.bs.rm,o.bs.ww,o.st.scale o.so.m0 t0,by unfold scl;rw [Af,o.so.sl];exact o.bs.rm.1.symm,ss.ok,fN hd,hr,hc,.cons ⟨pr,qa,rfl,hp,hq⟩ .nil,λz hz=>?_,λz hz=>?_,(by show 1<=7;decide),hn,λz hz=>?_,(by show 1<=20;decide),Cp o.so.m0 t0,(o.so.bm.mul bt').mono (by lia),?_⟩
 ·rw [AA.mp hz]
  exact ⟨am,hM⟩
 ·rw [AA.mp hz]
  exact xw
 ·rw [AA.mp hz]
  exact xw
 ·have e:tot ws (λy=>d.1 y*t'+NW (M*t') [(x,t,b')] y)=tot ws d.1*t'+NW (M*t') [(x,t,b')] x:=by
   rw [hV (λy=>d.1 y*t') (NW (M*t') [(x,t,b')]) ws,eY];have:NW (M*t') [(x,t,b')]=oneW x (NW (M*t') [(x,t,b')] x):=funext λy=>by
    unfold oneW;split
    ·rename_i h;rw [h]
    ·rename_i h;exact eJ (by simpa using λe=>h e.symm)
   conv=>lhs;rw [this]
   rw [oX o.bs.ww.nd xw]
  show Bt 2900 (tot ws (λy=>d.1 y*t'+NW (M*t') [(x,t,b')] y));rw [e];have h1:Bt 2800 (tot ws d.1*t'):=(sm.mul bt').mono (by lia);exact (h1.add (bt.mono (by decide))).mono (by decide)
inductive spODraw (C c3 c4:Gj)(vs:Gq)(H:Hp)(Q:VK)(E:XK):Prop
 |mk (p dx b r q l qa rs us ps rbs ws M S β i d rb x t b' n:_) (e0:vs=[.ref p,.ref b,.ref l,.int (n:Nat)]) (e1:n<1000) (e2:H p=some (.ins C dx (fs3 "phial" "ware" "amount" (.int (i:Nat)) (.str x) (.ref qa)))) (e3:H qa=some (.tup [.int t,.int b'])) (e4:RwA t b') (e5:x∈ws) (e6:OnIn H b r q l rs us ps rbs ws M S β) (e7:S[i]?=some d) (e8:rbs[i]?=some rb) (e9:IntoR c3 c4 us ps ws (M*b') (scl b' S) i (λy=>d.1 y*b',d.2) rb (oneW x (t*M)) [x] n H Q E):spODraw C c3 c4 vs H Q E
inductive spOEmpty (C:Gj)(vs:Gq)(H:Hp)(Q:VK)(E:XK):Prop
 |mk (p dx bv l M S i d nv:_) (e0:vs=[.ref p,bv,.ref l,nv]) (e1:H p=some (.ins C dx (fs1 "phial" (.int ((i:Nat):Int))))) (e2:StV H l M S) (e3:S.length<=16) (e4:S[i]?=some d) (e5:∀ l' H',Same H H'->H l'=none->StV H' l' M (S.set i (λ_=>0,d.2))->Q (.ref l') H'):spOEmpty C vs H Q E
inductive spORinse (C c2:Gj)(vs:Gq)(H:Hp)(Q:VK)(E:XK):Prop
 |mk (p dx bv l M S i d n:_) (e0:vs=[.ref p,bv,.ref l,.int ((n:Nat):Int)]) (e1:n<1000) (e2:H p=some (.ins C dx (fs1 "phial" (.int ((i:Nat):Int))))) (e3:StV H l M S) (e4:S.length<=16) (e5:S[i]?=some d) (e6:(¬ (∀ y,d.1 y=0)->BadE c2 [("phial",.int (i:Nat)),("place",.int (n:Nat))] H E)) (e7:((∀ y,d.1 y=0)->∀ l' H',Same H H'->H l'=none->StV H' l' M (S.set i (λ_=>0,[]))->Q (.ref l') H')):spORinse C c2 vs H Q E
def lH {M:Int}:IsMx M (λ_=>0) []:=⟨.nil,.nil,λy=>by simp,λp h=>nomatch h⟩
def fU {M:Int}{f:Str->Int}{ys:Gc}(mx:IsMx M f ys):ys=[]↔∀ y,f y=0:=by
 constructor
 ·rintro rfl y
  exact Bg λh=>nomatch (mx.mem y).mpr h
 ·intro h
  cases ys with
  |nil=>rfl
  |cons x r=>exact absurd (h x.1) ((mx.mem x.1).mp (by simp))
section
variable {P:Aw}{w:World}{K:Ab}{mg:Gb}{base:Heap}{cP c0 c1 c2 c3 c4 c5 f0 f1 f2 f3 f4 f5 C:Gj}
abbrev Non:Gh:=["self","bench","phials","place"]
def aDz:FnScope Non Non (aH wB):=fnScOk (by decide +kernel)
def aBg {f:Gj}{fd:Az}(F:Fun K "onto_at" "Draw.onto_at" wB f fd)(D:DCl K C ["phial","ware","amount"])(cM:Cal P w K mg base (CXg P w) 6 "with_more" ["bench","phials","phial","comes","names","place"] (spMore K c3 c4)):FnOk P w K mg base (CXg P w) 7 f fd Non (spODraw C c3 c4):=by
 refine F.okFA aDz (λcdv A outer s H vs Q E hr h=>?_)
 ·obtain ⟨p,dx,b,r,q,l,qa,rs,us,ps,rbs,ws,M,S,β,i,d,rb,x,t,b',n,rfl,hn,hp,hqa,ra,xw,o,hd,hrb,kI⟩:=h
  refine ⟨_,aE (aM (jX cM hr rfl lG (aA (pv 1) (aA (pv 2) (aA (cZ (pv 0) rfl) (aA (aU (aA (aU (aA (cZ (pv 0) rfl) (aA (cZ (pv 0) rfl) aC))) aC)) (aA (aU (aA (cZ (pv 0) rfl) aC)) (aA (pv 3) aC)))))))),?_⟩;have F1:=aFj (f1:="phial") (f2:="ware") (f3:="amount") (u1:=.int (i:Nat)) (u2:=.str x) (u3:=.ref qa) (by decide +kernel) (by decide +kernel);have F2:=aFi (f1:="phial") (f2:="ware") (f3:="amount") (u1:=.int (i:Nat)) (u2:=.str x) (u3:=.ref qa) (by decide +kernel);have F3:=aFh (f1:="phial") (f2:="ware") (f3:="amount") (u1:=.int (i:Nat)) (u2:=.str x) (u3:=.ref qa);refine ⟨_,rfl,_,rfl,_,rfl,p,C,dx,_,_,rfl,hp,D.cl,D.na _ (by simp),F1,_,rfl,p,C,dx,_,_,rfl,hp,D.cl,D.na _ (by simp),F2,_,rfl,p,C,dx,_,_,rfl,hp,D.cl,D.na _ (by simp),F3,zLn2,λpr npr=>⟨zLn1,λcm ncm=>?_⟩⟩;have s1:=Gu (o:=.tup [.str x,.ref qa]) npr;have s2:=Gu (o:=.tup [.ref pr]) ncm;refine ⟨_,rfl,p,C,dx,_,_,rfl,(s1.trans s2) _ _ hp,D.cl,D.na _ (by simp),F2,zLn1,λnm nnm=>⟨_,rfl,?_⟩⟩;have s3:=Gu (o:=.tup [.str x]) nnm;have s03:=(s1.trans s2).trans s3;have b0:0<b':=by have:=ra.am.b1;lia
  have e:NW (M*b') [(x,t,b')]=oneW x (t*M):=funext (aDf b0);have kI':=(kI.mono s03);rw [<- e] at kI';refine ⟨b,r,q,l,cm,nm,rs,us,ps,rbs,ws,M*b',scl b' S,i,_,rb,[.ref pr],[(x,t,b')],[x],n,rfl,hn,aHq (o.keep s03) hd hrb xw (Int.dvd_mul_left ..) ra.am b0 ?_ ra.bb (s3 _ _ aB) ((s2.trans s3) _ _ aB) (s03 _ _ hqa) aB,kI'.1,kI'.2⟩;rw [aDf b0];unfold oneW;rw [if_pos rfl];have b24:=o.b24;exact (ra.bt.mul o.so.bm).mono (by lia)
def aAu:FnScope Non Non (aH pM):=fnScOk (by decide +kernel)
def xU {f:Gj}{fd:Az}(F:Fun K "onto_at" "Empty.onto_at" pM f fd)(D:DCl K C ["phial"])(cH:Cal P w K mg base CX0 6 "with_phial" ["phials","phial","holds","names"] spWith):FnOk P w K mg base (CXg P w) 7 f fd Non (spOEmpty C):=by
 refine F.okFA aAu (λcdv A outer s H vs Q E hr h=>?_)
 ·obtain ⟨p,dx,bv,l,M,S,i,d,nv,rfl,hp,st,s16,hd,k⟩:=h
  refine ⟨_,aE (aM (aI cH hr (aA (pv 2) (aA (cZ (pv 0) rfl) (aA (aU aC) (aA (aZ cY (aZ aX (pv 2) (cZ (pv 0) rfl) (λ_ _=>rfl)) aG (λ_ _=>rfl)) aC)))))),?_⟩;obtain ⟨vs,v,hl,vl,hv,a,mm,nn,ms,ys,rfl,ha,hm,pr,mx,hnn⟩:=st.get hd;have il:=(Ad.mp hv).1;refine ⟨_,rfl,_,rfl,p,C,dx,_,_,rfl,hp,D.cl,D.na _ (by simp),zA,zLn0,λz0 nz0=>?_⟩;have s1:=Gu (o:=.tup []) nz0;refine ⟨_,rfl,_,rfl,p,C,dx,_,_,rfl,s1 _ _ hp,D.cl,D.na _ (by simp),zA,l,_,(i:Int),.ref a,rfl,rfl,Gw (s1 _ _ hl),aW hv,a,_,1,.ref nn,rfl,rfl,Gv (s1 _ _ ha),rfl,?_⟩;refine ⟨l,i,.ref z0,.ref nn,vs,rfl,s1 _ _ hl,il,by lia,λl' z H5 s5 nl' hz hl'=>?_⟩;exact k l' H5 (s1.trans s5) (sm0 s1 nl') (st.put hl (s1.trans s5) hl' ⟨z,z0,nn,[],[],rfl,hz,s5 _ _ aB,.nil,lH,(s1.trans s5) _ _ hnn⟩)
def aAt:FnScope Non Non (aH pK):=fnScOk (by decide +kernel)
def xS {f:Gj}{fd g2:Az}(F:Fun K "onto_at" "Rinse.onto_at" pK f fd)(D:DCl K C ["phial"])(R:ErB K mg cP c0 c1 c2 c3 c4 c5 f0 f1 f2 f3 f4 f5)(F2:FnOk P w K mg base CX0 1 f2 g2 ["self","place","phial"] (spI2 c2))(b2:Binds K g2 ["self","place","phial"] [])(cH:Cal P w K mg base CX0 6 "with_phial" ["phials","phial","holds","names"] spWith):FnOk P w K mg base (CXg P w) 7 f fd Non (spORinse C c2):=by
 refine F.okFA aAt (λcdv A outer s H vs Q E hr h=>?_)
 ·obtain ⟨p,dx,bv,l,M,S,i,d,n,rfl,hn,hp,st,s16,hd,kB,kG⟩:=h
  refine ⟨_,(aD (bH (aL (xC hr.units) (aZ cY (aZ aX (pv 2) (cZ (pv 0) rfl) (λ_ _=>rfl)) aG (λ_ _=>rfl)) (aU aC))
    (aE (eS (k:=1) rfl xe_f rfl (hr.mono (by decide)) rfl R.m2 (R.r2.e "place" (by simp)).i F2 b2 (aA (pv 3) (aA (cZ (pv 0) rfl) aC))))
    aQ)
   (aE (aM (aI cH hr (aA (pv 2) (aA (cZ (pv 0) rfl) (aA (aU aC) (aA (aU aC) aC)))))))),?_⟩
  obtain ⟨vs,v,hl,vl,hv,a,mm,nn,ms,ys,rfl,ha,hm,pr,mx,hnn⟩:=st.get hd;have il:=(Ad.mp hv).1;refine ⟨_,rfl,_,rfl,p,C,dx,_,_,rfl,hp,D.cl,D.na _ (by simp),zA,l,_,(i:Int),.ref a,rfl,rfl,Gw hl,aW hv,a,_,0,.ref mm,rfl,rfl,Gv ha,rfl,zLn0,λz0 nz0=>?_⟩;obtain ⟨H1,eH1,s1,hz0⟩:=updX (o:=.tup []) nz0;rw [eH1];refine ⟨mm,z0,_,rfl,rfl,Gv (s1 _ _ hm),Gv hz0,_,rfl,?_⟩;have pl:=pr.length;refine ite2 (λc=>?_) (λc=>?_)
  ·have ne:¬ (∀ y,d.1 y=0):=λz=>by
    have:=(fU mx).mpr z;subst this;have:ms=[]:=Bm.mp pl;subst this;exact absurd c (by decide)
   exact ⟨_,rfl,_,rfl,p,C,dx,_,_,rfl,s1 _ _ hp,D.cl,D.na _ (by simp),zA,wM hn (by lia) ((kB ne).mono s1)⟩
  ·have em:ms=[]:=by
    cases ms with
    |nil=>rfl
    |cons u r=>exact absurd rfl c
   have z:∀ y,d.1 y=0:=(fU mx).mp (Bm.mp (by rw [<- pl,em];rfl));refine ⟨_,rfl,_,rfl,p,C,dx,_,_,rfl,s1 _ _ hp,D.cl,D.na _ (by simp),zA,zLn0,λz1 nz1=>⟨zLn0,λz2 nz2=>?_⟩⟩;have s2:=Gu (o:=.tup []) nz1;have s3:=Gu (o:=.tup []) nz2;have h1:upd (upd H1 z1 (.tup [])) z2 (.tup []) z1=some (.tup []):=s3 _ _ aB;have s03:=(s1.trans s2).trans s3;refine ⟨l,i,.ref z1,.ref z2,vs,rfl,s03 _ _ hl,il,by lia,λl' z' H5 s5 nl' hz hl'=>?_⟩;exact kG z l' H5 (s03.trans s5) (sm0 s03 nl') (st.put hl (s03.trans s5) hl' ⟨z',z1,z2,[],[],rfl,hz,s5 _ _ h1,.nil,lH,s5 _ _ aB⟩)
end
end K51
namespace L2
open PySem PySem.Spec PyProof.Rows
def aF6 (m:Str)(Cs:List (Gj×Sp))(E:XK)(ta:TE)(t:TA):TE:=λZ H Q=>ta Z H λx H1=>∃ C sp a dx fs,(C,sp)∈Cs/\x=.ref a/\H1 a=some (.ins C dx fs)/\fs.lookup m=none/\t Z H1 λys H2=>sp (x::ys) H2 Q E
def aG4 {k:Nat}(hC:∀ c∈Cs,Cls X.K c.1/\MCal X.prog X.w X.K X.mg X.base CX k c.1 m ps c.2)(hr:Room k X.A)(hx:hJ CX X E)(he:PE X o ta)(ha:PA X (e::es) t)(hst:AL (e::es) X.env=(false,eval e X.env)::AL es X.env:=by rfl)(hpl:(backTo pos (AL es X.env)).any (·.1)=false:=by rfl)(ht:eval (.Call (.Attribute o m apos) (e::es) [] pos) X.env=(do
   let ov <- eval o X.env
   standAt apos.atName
   let (f,first) <- holding [ov] (getMethod ov m pl)
   callWith pos f first (backTo pos (AL (e::es) X.env)) (backToKw pos (keywordEach [] X.env))):=by rfl) :
  PE X (.Call (.Attribute o m apos) (e::es) [] pos) (aF6 m Cs E ta t):=by
 intro U s Z H Q I h;refine PySem.W.methodCall_KW (pl:=pl) (thn (he U s Z H _ I h) λu s1 ⟨x,H1,I1,rx,C,sp,a,dx,fs,hm,ex,ea,l,q⟩=>?_) ht;subst ex;obtain rfl:u=AC a:=rx;obtain ⟨c,M⟩:=hC _ hm;obtain ⟨f,fd,hm',b,F⟩:=M;refine uP I1 ea c hm' l ?_;refine Ek (first:=[.ref a]) (h₀:=X.base) I.ok.mod.kin hm'.kp (thn (ha pos U s1 Z H1 _ I1 q) λus s2 ⟨vs,H2,I2,r,q2⟩=>⟨I2.kIn,?_⟩) hst hpl;exact aCl (us:=.ref a::us) (vs:=.ref a::vs) (dvs:=[]) F hr b .nil hx I2 (.cons rfl r) (by rw [BX];exact q2)
end L2
namespace K51
end K51
namespace K51
open PySem PySem.Spec PyProof.Rows L2 GM TM
def aIg {H H2:Hp}{d:Gj}{ob:Obj}{kvs:Gp}(hd:H d=some (.dK kvs))(s:Same (upd H d (.frz ob (.dK kvs))) H2):Same H (upd H2 d (.dK kvs)):=λb o e=>by
 by_cases n:b=d
 ·subst n
  rw [hd] at e;rw [aB];exact e
 ·rw [aK n]
  exact s b o (by rw [aK n];exact e)
def aCy {ks:Gh}{kvs:Gp}{i:Nat}{kv:Key×V}(h:kvs.map (·.1)=ks.map AM)(hk:kvs[i]?=some kv):∃ y,ks[i]?=some y/\kv.1=AM y:=by
 have e:=congrArg (λl=>l[i]?) h;simp only [Aq,hk,Dk] at e;cases q:ks[i]? with
 |none=>rw [q] at e;cases e
 |some y=>rw [q] at e;exact ⟨y,rfl,AF e⟩
inductive spSum (K:Ab)(vs:Gq)(H:Hp)(Q:VK)(Ex:XK):Prop
 |mk (d kvs ks M xs:_) (e0:vs=[.ref d]) (e1:H d=some (.dK kvs)) (e2:DA H M xs kvs ks) (e3:0<M) (e4:Bt 2900 M) (e5:Over M xs) (e6:Bt 2900 (sumN M xs)) (e7:∀ f t b H',Same H H'->H' f=some (.tup [.int t,.int b])->Fr M t b (sumN M xs)->Q (.ref f) H'):spSum K vs H Q Ex
theorem lS (f:Str->Int)(nn:∀ y,0<=f y):∀ (ks:Gh) (i:Nat),((ks.take i).map f).sum<=(ks.map f).sum/\0<=((ks.take i).map f).sum
 |[],i=>by simp
 |y::r,0=>by
  have h:=lS f nn r r.length;rw [Bz] at h;have:=nn y;simp only [List.take_zero,List.map_nil,List.sum_nil,Ak,AH];exact ⟨by lia,Dy _⟩
 |y::r,i+1=>by
  have h:=lS f nn r i;have:=nn y;rw [List.take_succ_cons,Ak,Ak,AH,AH];exact ⟨by lia,by lia⟩
def aFt {M:Int}(hM:0<M){xs:Gc}(h:Over M xs)(y:Str):0<=NW M xs y:=by
 have:=(qR hM h xs.length y).1;rwa [Bz] at this
section
variable {P:Aw}{w:World}{K:Ab}{mg:Gb}{base:Heap}
def aAr:FnScope ["_law_held","_law_found","_law_ware"] ["_law_held"] (aH sSum):=fnScOk (by decide +kernel)
def aHc {f:Gj}{fd:Az}(F:Fun K "_law_sum" "_law_sum" sSum f fd)(cA:Cal P w K mg base CX0 2 "_law_add" ["_law_one","_law_other_here"] (spAdd K)):FnOk P w K mg base CX0 3 f fd ["_law_held"] (spSum K):=by
 refine F.okA aAr (λcdv A outer s H vs Q E hr h=>?_)
 ·obtain ⟨d,kvs,ks,M,xs,rfl,hd,da,M0,bM,ov,bS,k⟩:=h
  refine ⟨_,(aD (aJ (i:=1) aAr.nd (aU (aA aG (aA aG aC))))
   (aD (wN (dA AO rfl (wV (pv 0)) (aR (i:=2) aAr.nd)
    (aE (aJ (i:=1) aAr.nd (aI cA hr (aA (pv 1) (aA (jW (kX hr) (pv 0) (pv 2) (λ_ _=>rfl)) aC)))))))
   (aE (aM (pv 1))))),?_⟩
  refine ⟨zLn2,λz nz=>?_⟩;obtain ⟨H1,eH1,s1,hz⟩:=updX (o:=.tup [.int 0,.int 1]) nz;rw [eH1];have hd1:=s1 _ _ hd;have da1:=da.keep s1.tk;have tkd:Tk H1 (upd H1 d (.frz (default:Obj) (.dK kvs))):=Tk.dk hd1;refine ⟨_,rfl,d,kvs,rfl,hd1,λob=>?_⟩;have tk:Tk H1 (upd H1 d (.frz ob (.dK kvs))):=Tk.dk hd1;have kl:ks.length=kvs.length:=by have:=congrArg List.length da.1.keys;simpa using this.symm
  have nw:=λy=>aFt M0 ov y;have tot':(ks.map (NW M xs)).sum=sumN M xs:=lQ da.1.nd λx hx=>(da.2.1 x.1).mpr (Bq hx);refine nX (λi Z H'=>∃ (v2:Gr) (p:Gj) (t b:Int),Z=[some (.ref d),some (.ref p),v2]/\Same (upd H1 d (.frz ob (.dK kvs))) H'/\H' p=some (.tup [.int t,.int b])/\Fr M t b ((ks.take i).map (NW M xs)).sum) ⟨none,z,0,1,rfl,Same.refl _,tk _ _ hz,Fr.zero⟩ ?_ ?_ ?_
  ·rintro i Z H' _ ⟨_,_,_,_,rfl,sm,_⟩
   exact sm _ _ aB
  ·rintro i kv Z H2 D' hN hkv ⟨v2,p,t,b,rfl,s2,hp,fr⟩
   obtain ⟨y,hy,ek⟩:=aCy da.1.keys hkv;rw [ek];obtain ⟨q,t2,b2,e1,e2,e3⟩:=da1.2.2 y (Al hy);have dg:DGet H2 d (.str y) (some (.ref q)):=.inl ⟨kvs,.inr y,.inr ⟨ob,s2 _ _ aB⟩,rfl,e1.symm⟩;have st:=lS (NW M xs) nw ks i;have sy:0<=NW M xs y/\NW M xs y<=sumN M xs:=by
    have:=qR M0 ov xs.length y;rwa [Bz] at this
   have f1:=dE M0 fr;have f2:=dE M0 e3;have tw:Tw K H2 p q t b t2 b2:=⟨Gv hp,Gv (s2 _ _ (tk _ _ e2)),fr.am,e3.am,(bS.le fr.am.t0 (by lia)).mono (by decide),(bM.le (by have:=fr.am.b1;lia) f1.2).mono (by decide),(bS.le e3.am.t0 (by lia)).mono (by decide),(bM.le (by have:=e3.am.b1;lia) f2.2).mono (by decide)⟩;refine ⟨_,rfl,_,rfl,_,rfl,d,_,rfl,dg,p,q,t,b,t2,b2,rfl,tw,λr H3 s3 h3=>?_⟩;refine hN _ _ ⟨_,r,_,_,rfl,s2.trans s3,h3,?_⟩;have e:((ks.take (i+1)).map (NW M xs)).sum=((ks.take i).map (NW M xs)).sum+NW M xs y:=by
    rw [CO,hy,Be,Ff];simp
   rw [e];exact fr.plus e3
  ·rintro Z H2 ⟨v2,p,t,b,rfl,s2,hp,fr⟩
   refine ⟨d,ob,kvs,s2 _ _ aB,(λo u z=>by have z':H d=some (.frz o u):=z;rw [hd] at z';cases z'),?_⟩;have pd:p≠d:=λe=>by rw [e,s2 _ _ aB] at hp;cases hp
   rw [<- kl,Bz,tot'] at fr;exact ⟨_,rfl,k p t b _ (s1.trans (aIg hd1 s2)) (by rw [aK pd];exact hp) fr⟩
end
def aAb:BZ "dict" = some (.type "dict"):=by decide +kernel
def oV {kvs:Gp}(nd:(kvs.map (·.1)).Nodup){kv:Key×V}(h:kv∈kvs):valV kvs kv.1=some kv.2:=by
 induction kvs with
 |nil=>cases h
 |cons x r ih=>
  rw [Ak] at nd;have nd':=BF.mp nd;unfold valV
  rcases Ay.mp h with e|hm
  ·subst e
   simp
  ·have ne:¬ x.1=kv.1:=λe=>nd'.1 (e▸Bq hm)
   have:=ih nd'.2 hm;unfold valV at this;rw [DM,decide_eq_false ne];exact this
def aCq {H:Hp}{us:Gq}{ys:Gc}(h:PrL H us ys):∃ kvs:Gp,us.length=kvs.length/\kvs.map (·.1)=(ys.map (·.1)).map AM/\(∀ (i:Nat) u kv,us[i]?=some u->kvs[i]?=some kv->∃ z,u=.ref z/\H z=some (.tup [kV kv.1,kv.2])) /\
  ∀ y∈ys,∃ q,(AM y.1,V.ref q)∈kvs/\H q=some (.tup [.int y.2.1,.int y.2.2]):=by
 induction h with
 |nil=>exact ⟨[],rfl,rfl,λi u kv h=>by simp at h,λy h=>nomatch h⟩
 |@cons v x vs xs p _ ih=>
  obtain ⟨kvs,h1,h2,h3,h4⟩:=ih;obtain ⟨a,q,rfl,ha,hq⟩:=p;refine ⟨(AM x.1,.ref q)::kvs,by rw [AX,AX,h1],by rw [Ak,Ak,Ak,h2],λi u kv hu hk=>?_,λy hy=>?_⟩
  ·cases i with
   |zero=>cases hu;cases hk;exact ⟨a,rfl,ha⟩
   |succ i=>exact h3 i u kv (by simpa using hu) (by simpa using hk)
  ·rcases Ay.mp hy with rfl|hy
   ·exact ⟨q,Ar ..,hq⟩
   ·obtain ⟨q',m,e⟩:=h4 y hy
    exact ⟨q',Ah _ m,e⟩
theorem rZ {M t b N:Int}{x:Str}(hM:0<M)(h:Fr M t b N):nOf M (x,t,b)=N:=by
 have b0:b≠0:=by have:=h.am.b1;lia
 show t*(M/b)=N;obtain ⟨k,hk⟩:=h.dvd;have e:=h.e;rw [hk,Int.mul_ediv_cancel_left _ b0];rw [hk] at e;refine Bl b0 ?_;rw [<- e,BD b k,BI]
theorem tG {H:Hp}{M:Int}{cs:Gc}{kvs:Gp}:∀ {ks:Gh},(∀ y∈ks,∃ (p:Gj) (t b:Int),valV kvs (AM y)=some (.ref p)/\H p=some (.tup [.int t,.int b])/\Fr M t b (NW M cs y)) ->
  ∃ es:Gc,es.map (·.1)=ks/\∀ e∈es,∃ q,valV kvs (AM e.1)=some (.ref q)/\H q=some (.tup [.int e.2.1,.int e.2.2])/\Fr M e.2.1 e.2.2 (NW M cs e.1)
 |[],_=>⟨[],rfl,λe h=>nomatch h⟩
 |y::r,h=>by
  obtain ⟨es,h1,h2⟩:=tG (ks:=r) λz hz=>h z (Ah _ hz);obtain ⟨p,t,b,e1,e2,e3⟩:=h y (Ar ..);refine ⟨(y,t,b)::es,by rw [Ak,h1],λe he=>?_⟩
  rcases Ay.mp he with rfl|he
  ·exact ⟨p,e1,e2,e3⟩
  ·exact h2 e he
theorem gR {M:Int}(hM:0<M){f:Str->Int}:∀ {es:Gc},(es.map (·.1)).Nodup->(∀ e∈es,Fr M e.2.1 e.2.2 (f e.1))->∀ y,NW M es y=if y∈es.map (·.1) then f y else 0
 |[],_,_,y=>by rw [if_neg (by simp)];exact eJ (by simp)
 |e::r,nd,h,y=>by
  rw [Ak] at nd;have nd':=BF.mp nd;have ih:=gR hM nd'.2 (λz hz=>h z (Ah _ hz)) y;rw [kQ,ih];have n:=rZ (x:=e.1) hM (h e (Ar ..));have n':nOf M e=f e.1:=n
  by_cases c:e.1=y
  ·subst c
   rw [if_pos rfl,if_neg nd'.1,if_pos (by simp),n',Int.add_zero]
  ·rw [if_neg c,Int.zero_add]
   by_cases c2:y∈r.map (·.1)
   ·rw [if_pos c2,if_pos (by rw [Ak];exact Ah _ c2)]
   ·rw [if_neg c2,if_neg (by rw [Ak];exact λz=>(Ay.mp z).elim (λz=>c z.symm) c2)]
theorem aF1:∀ {kvs:Gp} {ks:Gh},kvs.map (·.1)=ks.map AM->∃ zs:Gn,kvs=txK zs/\zs.map (·.1)=ks
 |[],[],_=>⟨[],rfl,rfl⟩
 |[],_::_,h=>by simp at h
 |_::_,[],h=>by simp at h
 |kv::r,k::ks,h=>by
  rw [Ak,Ak] at h;injection h with h1 h2;obtain ⟨zs,e1,e2⟩:=aF1 h2;refine ⟨(k,kv.2)::zs,?_,by rw [Ak,e2]⟩;rw [e1];show kv::txK zs=(AM k,kv.2)::txK zs;rw [<- h1]
theorem sS {H:Hp}{M:Int}{X:Gc}:∀ {as:List Gj} {zs:Gn},as.length=zs.length->(∀ a z,(a,z)∈as.zip zs->H a=some (.tup [.str z.1,z.2]))->(∀ z∈zs,∃ q t b,z.2=.ref q/\H q=some (.tup [.int t,.int b])/\Fr M t b (NW M X z.1)) ->
  ∃ ys:Gc,PrL H (as.map V.ref) ys/\ys.map (·.1)=zs.map (·.1)/\∀ y∈ys,Fr M y.2.1 y.2.2 (NW M X y.1)
 |[],[],_,_,_=>⟨[],.nil,rfl,λy h=>nomatch h⟩
 |[],_::_,h,_,_=>by simp at h
 |_::_,[],h,_,_=>by simp at h
 |a::as,z::zs,h,h1,h2=>by
  obtain ⟨ys,e1,e2,e3⟩:=sS (as:=as) (zs:=zs) (by simpa using h) (λa' z' m=>h1 a' z' (by rw [BV];exact Ah _ m)) λz' m=>h2 z' (Ah _ m);obtain ⟨q,t,b,f1,f2,f3⟩:=h2 z (Ar ..);have f4:=h1 a z (by rw [BV];exact Ar ..);rw [f1] at f4;refine ⟨(z.1,t,b)::ys,.cons ⟨a,q,rfl,f4,f2⟩ e1,by rw [Ak,Ak,e2],λy hy=>?_⟩
  rcases Ay.mp hy with rfl|hy
  ·exact f3
  ·exact e3 y hy
structure LawIn (K:Ab)(H:Hp)(b r q l dm nm:Gj)(rs us:Gq)(ps:Gf)(rbs:Gg)(ws:Gh)(M:Int)(S:List PF)(i:Nat)(d:PF)(rb:Int×Int)(kvm:Gp)(ksm:Gh)(cs:Gc)(xs:Gh):Prop where
 bs:BS H b r q rs us ps rbs ws
 st:StV H l M S
 sl:S.length=rs.length
 ok:∀ d∈S,Okf ws d
 di:S[i]?=some d
 rbi:rbs[i]?=some rb
 hm:H dm=some (.dK kvm)
 da:DA H M cs kvm ksm
 oc:Over M cs
 cw:∀ x∈cs,x.1∈ws
 cp:∀ y∈ksm,0<NW M cs y
 hn:SqL K H nm (xs.map V.str)\/SqT K H nm (xs.map V.str)
 xw:∀ x∈xs,x∈ws
 xl:xs.length<=20
 m0:0<M
 bm:Bt 2900 M
 bS:Bt 2900 (tot ws (λy=>d.1 y+NW M cs y))
def IntoL (us:Gq)(ps:Gf)(ws:Gh)(M:Int)(S:List PF)(i:Nat)(d:PF)(rb:Int×Int)(add:Str->Int)(xs:Gh)(H:Hp)(Q:VK):Prop:=
 (rb.1*M<tot ws (λy=>d.1 y+add y)*rb.2->∀ z t3 a t b H',Same H H'->H' z=some (.tup [.ref t3,.non])->H' t3=some (.tup [.str "spilt",.int ((i:Nat):Int),.ref a])->H' a=some (.tup [.int t,.int b])->Fr (M*rb.2) t b (tot ws (λy=>d.1 y+add y)*rb.2-rb.1*M)->Q (.ref z) H') /\
 (¬ rb.1*M<tot ws (λy=>d.1 y+add y)*rb.2->∀ nm',NmU d.2 xs nm'->(∀ pa,pairOf us ps nm'=.ref pa->∀ z t3 H',Same H H'->H' z=some (.tup [.ref t3,.non])->H' t3=some (.tup [.str "touch",.int ((i:Nat):Int),.ref pa])->Q (.ref z) H') /\
  (pairOf us ps nm'=.non->∀ z l' H',Same H H'->H l'=none->H' z=some (.tup [.non,.ref l'])->StV H' l' M (S.set i (λy=>d.1 y+add y,nm'))->Q (.ref z) H'))
inductive spInto (K:Ab)(vs:Gq)(H:Hp)(Q:VK)(Ex:XK):Prop
 |mk (b r q l dm nm rs us ps rbs ws M S i d rb kvm ksm cs xs:_) (e0:vs=[.ref b,.ref l,.int ((i:Nat):Int),.ref dm,.ref nm]) (e1:LawIn K H b r q l dm nm rs us ps rbs ws M S i d rb kvm ksm cs xs) (e2:IntoL us ps ws M S i d rb (NW M cs) xs H Q):spInto K vs H Q Ex
section
variable {P:Aw}{w:World}{K:Ab}{mg:Gb}{base:Heap}
abbrev aJj:Gh:=["_law_bench","_law_state","_law_phial","_law_more","_law_names_here","_law_held","_law_ware","_law_lies","_law_named","_law_pair","_law_found"]
def jD:FnScope aJj ["_law_bench","_law_state","_law_phial","_law_more","_law_names_here"] (aH aEa):=fnScOk (by decide +kernel)
def aE3 {f:Gj}{fd:Az}(F:Fun K "_law_into" "_law_into" aEa f fd)(T:Txt mg)(cA:Cal P w K mg base CX0 3 "_law_add" ["_law_one","_law_other_here"] (spAdd K))(cS:Cal P w K mg base CX0 3 "_law_sum" ["_law_held"] (spSum K))(cU:Cal P w K mg base CX0 3 "_law_under" ["_law_one","_law_other_here"] (spLess K))(cT:Cal P w K mg base CX0 3 "_law_take" ["_law_one","_law_other_here"] (spTake K)):FnOk P w K mg base CX0 4 f fd ["_law_bench","_law_state","_law_phial","_law_more","_law_names_here"] (spInto K):=by
 refine F.okA jD (λcdv A outer s H vs Q E hr h=>?_)
 ·obtain ⟨b,r,q,l,dm,nm,rs,us,ps,rbs,ws,M,S,i,d,rb,kvm,ksm,cs,xs,rfl,m,kS,kG⟩:=h
  refine ⟨_,(aD (aJ (i:=5) jD.nd (aV (lP rfl) rfl T.dict' aAb (aA (aZ cY (aZ aX (pv 1) (pv 2) (λ_ _=>rfl)) aG (λ_ _=>rfl)) aC)))
   (aD (wN (dA AO rfl (wV (pv 3)) (aR (i:=6) jD.nd)
    (aE (pS (kX hr) (pv 5) (pv 6) (aI cA hr (aA (rQ (kX hr) (pv 5) (pv 6) (aU (aA aG (aA aG aC))) ⟨rfl,rfl,rfl,rfl⟩) (aA (jW (kX hr) (pv 3) (pv 6) (λ_ _=>rfl)) aC))) rfl))))
   (aD (aJ (i:=7) jD.nd (aI cS hr (aA (pv 5) aC)))
   (aD (bH (eA (aI cU hr (aA (aZ cY (pit 0 0) (pv 2) (λ_ _=>rfl)) (aA (pv 7) aC))))
    (aE (aM (aU (aA (aU (aA aS (aA (pv 2) (aA (aI cT hr (aA (pv 7) (aA (aZ cY (pit 0 0) (pv 2) (λ_ _=>rfl)) aC))) aC)))) (aA dO aC)))))
    aQ)
   (aD (aJ (i:=8) jD.nd (aV bG rfl T.tup' dB (aA (aT (iM rfl) rfl T.sorted' boot_sorted (aA (aV (zX rfl) rfl T.set' aDb (aA (aP fT (aV bA rfl T.list' dN (aA (aZ cY (aZ aX (pv 1) (pv 2) (λ_ _=>rfl)) aG (λ_ _=>rfl)) aC)) (aV bA rfl T.list' dN (aA (pv 4) aC))) aC)) aC)) aC)))
   (aD (dA AO rfl (gC (pit 0 1)) (aR (i:=9) jD.nd)
    (aE (bH (PW.pt (jQ (aL eT (pit 9 0) (pv 8) rfl) (gD (aL eT (pit 9 1) (pv 8) rfl))))
     (aE (aM (aU (aA (aU (aA aS (aA (pv 2) (aA (pv 9) aC)))) (aA dO aC)))))
     aQ)))
   (aD (aJ (i:=10) jD.nd (aV bA rfl T.list' dN (aA (pv 1) aC)))
   (aD (fQ (aU (aA (aV bG rfl T.tup' dB (aA (nM rfl rfl T.sorted' (pv 5)) aC)) (aA (pv 8) aC))) (jU (pv 10) (pv 2) set_list))
   (aE (aM (aU (aA dO (aA (pv 10) aC))))))))))))),?_⟩
  obtain ⟨vs,v,hl,vl,hv,a,mm,nn,ms,ys,rfl,ha,hmm,pr,mx,hnn⟩:=m.st.get m.di;have okd:=m.ok d (Al m.di);have M0:=m.m0;have bn:=m.bs.bn;obtain ⟨kv0,k1,k2,k3,k4⟩:=aCq pr;have nd0:(kv0.map (·.1)).Nodup:=by
   rw [k2];exact Cu.mpr (mx.nd.imp λh e=>h (AM.inj e))
  refine ⟨_,rfl,_,rfl,l,_,(i:Int),.ref a,rfl,rfl,Gw hl,aW hv,a,_,0,.ref mm,rfl,rfl,Gv ha,rfl,mm,ms,kv0,rfl,hmm,k1,nd0,k3,λp np=>?_⟩;obtain ⟨H1,eH1,s1,hp1⟩:=updX (o:=.dK kv0) np;rw [eH1];have pm:p≠dm:=λe=>by rw [e,m.hm] at np;cases np
  have da1:DA H1 M ys kv0 (ys.map (·.1)):=⟨⟨k2,mx.nd⟩,λy=>Iff.rfl,λy hy=>by
   obtain ⟨x,hx,rfl⟩:=AE.mp hy;obtain ⟨q',mq,hq'⟩:=k4 x hx;refine ⟨q',_,_,oV nd0 mq,s1 _ _ hq',?_⟩;rw [mx.nw];exact mx.fr x hx⟩
  obtain ⟨es,ee,ef⟩:=tG m.da.2.2;have oe:Over M es:=λe he=>by
   obtain ⟨_,_,_,fr⟩:=ef e he;exact ⟨fr.am,fr.dvd⟩
  have oy:Over M ys:=mx.over;have oye:Over M (ys++es):=λe he=>(AS.mp he).elim (oy e) (oe e);have nwe:∀ y,NW M es y=NW M cs y:=λy=>by
   rw [gR M0 (f:=NW M cs) (by rw [ee];exact m.da.1.nd) (λe he=>by obtain ⟨_,_,_,fr⟩:=ef e he;exact fr),ee]
   by_cases c:y∈ksm
   ·rw [if_pos c]
   ·rw [if_neg c,eJ λz=>c ((m.da.2.1 y).mpr z)]
  have nwT:∀ y,NW M (ys++es) y=d.1 y+NW M cs y:=λy=>by rw [kR,mx.nw,nwe]
  have ew:∀ e∈es,e.1∈ws:=λe he=>by
   have:e.1∈ksm:=by rw [<- ee];exact Bq he
   obtain ⟨x,hx,e'⟩:=AE.mp ((m.da.2.1 e.1).mp this);rw [<- e'];exact m.cw x hx
  have yw:∀ e∈ys,e.1∈ws:=λe he=>okd.inw e.1 ((mx.mem e.1).mp (Bq he));have sT:sumN M (ys++es)=tot ws (λy=>d.1 y+NW M cs y):=by
   rw [<- lQ m.bs.ww.nd (xs:=ys++es) (λx hx=>(AS.mp hx).elim (yw x) (ew x))];unfold tot;exact congrArg List.sum (Ei λy _=>nwT y)
  have bT:=m.bS;rw [<- sT] at bT kS kG;have el:es.length=ksm.length:=by rw [<- ee,Af]
  have kl:kvm.length=ksm.length:=m.da.1.len;have hm1:=s1 _ _ m.hm;have l6:∀ zs:Gc,(zs.map (·.1)).Nodup->(∀ z∈zs,z.1∈ws)->zs.length<=7:=λzs n w=>by
   have:=n.length_le_of_subset (l₂:=ws) λy hy=>by
    obtain ⟨x,hx,rfl⟩:=AE.mp hy;exact w x hx
   rw [Af] at this;exact AR this m.bs.ww.l
  have yl:=l6 ys mx.nd yw;have esl:=l6 es (by rw [ee];exact m.da.1.nd) ew;refine ⟨_,rfl,dm,kvm,rfl,hm1,λob=>?_⟩;have tk:Tk H1 (upd H1 dm (.frz ob (.dK kvm))):=Tk.dk hm1;refine nX (λj Z H'=>∃ (v6:Gr) (kvs:Gp) (ks:Gh),Z=[some (.ref b),some (.ref l),some (.int ((i:Nat):Int)),some (.ref dm),some (.ref nm),some (.ref p),v6,none,none,none,none]/\(∀ c o,c≠p->upd H1 dm (.frz ob (.dK kvm)) c=some o->H' c=some o)/\H' p=some (.dK kvs)/\DA H' M ((ys++es).take (ys.length+j)) kvs ks/\ks.length<=ys.length+j) ⟨none,kv0,_,rfl,λc o _ h=>h,by rw [aK pm];exact hp1,by rw [Nat.add_zero,List.take_left];exact da1.keep tk,by rw [Af];exact Aj _⟩ ?_ ?_ ?_
  ·rintro j Z H' _ ⟨_,_,_,rfl,sm,_⟩
   exact sm _ _ (Bi pm) aB
  ·rintro j kv Z H2 D' hN hkv ⟨v6,kvs,ks,rfl,s2,hp2,da,kl2⟩
   obtain ⟨y,hy,ek⟩:=aCy m.da.1.keys hkv;rw [ek];have jl:=(Ad.mp hkv).1;obtain ⟨e,he⟩:∃ e,es[j]?=some e:=⟨_,Ae (by have:=(Ad.mp hy).1;lia)⟩;have ey:e.1=y:=by
    have h1:(es.map (·.1))[j]?=some e.1:=by rw [Aq,he];rfl
    rw [ee,hy] at h1;exact (AF h1).symm
   have hx:(ys++es)[ys.length+j]?=some e:=by rw [BC (by lia),Nat.add_sub_cancel_left];exact he
   obtain ⟨q',e1,e2,e3⟩:=ef e (Al he);rw [ey] at e1;refine ⟨_,rfl,p,rfl,.inl ⟨kvs,.inl hp2⟩,_,rfl,zLn2,λz1 nz1=>⟨_,DGet.k (k:=AM y) ((Gu nz1) _ _ hp2),?_⟩⟩;have w1:=Gu (o:=.tup [.int 0,.int 1]) nz1;have hz1:upd H2 z1 (.tup [.int 0,.int 1]) z1=some (.tup [.int 0,.int 1]):=aB;have hp3:=w1 _ _ hp2;have da3:=da.keep w1.tk;have dm3:upd H2 z1 (.tup [.int 0,.int 1]) dm=some (.frz ob (.dK kvm)):=w1 _ _ (s2 _ _ (Bi pm) aB);have q3:upd H2 z1 (.tup [.int 0,.int 1]) q'=some (.tup [.int e.2.1,.int e.2.2]):=by
    have qp:q'≠p:=λz=>by rw [z,np] at e2;cases e2
    exact w1 _ _ (s2 _ _ qp (tk _ _ (s1 _ _ e2)))
   generalize upd H2 z1 (.tup [.int 0,.int 1])=H3 at w1 hz1 hp3 da3 dm3 q3 ⊢;obtain ⟨g,t,b',eg,hg,fr⟩:∃ (g:Gj) (t b':Int),(valV kvs (AM y)).getD (.ref z1)=.ref g/\SqT K H3 g [.int t,.int b']/\Fr M t b' (NW M ((ys++es).take (ys.length+j)) y):=by
    by_cases hyk:y∈ks
    ·obtain ⟨p',t,b',f1,f2,f3⟩:=da3.2.2 _ hyk
     exact ⟨p',t,b',by rw [f1];rfl,Gv f2,f3⟩
    ·have:valV kvs (AM y)=none:=by
      cases e:valV kvs (AM y) with
      |none=>rfl
      |some v=>exact absurd ((da.1.get y).mp (by rw [e];rfl)) hyk
     refine ⟨z1,0,1,by rw [this];rfl,Gv hz1,?_⟩;rw [eJ (λz=>hyk ((da.2.1 _).mpr z))];exact Fr.zero
   rw [eg];have nwl:=qR M0 oye (ys.length+j) y;have fs:=dE M0 fr;have fse:=dE M0 e3;have nwe':NW M cs e.1<=sumN M (ys++es):=by
    have h1:=qR M0 oye (ys++es).length e.1;rw [Bz,kR,nwe] at h1;have h2:=aFt M0 oy e.1;lia
   have tw:Tw K H3 g q' t b' e.2.1 e.2.2:=⟨hg,Gv q3,fr.am,e3.am,(bT.le fr.am.t0 (by lia)).mono (by decide),(m.bm.le (by have:=fr.am.b1;lia) fs.2).mono (by decide),(bT.le e3.am.t0 (by lia)).mono (by decide),(m.bm.le (by have:=e3.am.b1;lia) fse.2).mono (by decide)⟩;have dg:DGet H3 dm (.str y) (some (.ref q')):=.inl ⟨kvm,.inr y,.inr ⟨ob,dm3⟩,rfl,e1.symm⟩;refine ⟨_,rfl,_,rfl,dm,_,rfl,dg,g,q',t,b',e.2.1,e.2.2,rfl,tw,λr' H4 s4 h4=>?_⟩;have hp4:=s4 _ _ hp3;have frn:Fr M ((t*e.2.2+e.2.1*b')/G (t*e.2.2+e.2.1*b') (b'*e.2.2)) (b'*e.2.2/G (t*e.2.2+e.2.1*b') (b'*e.2.2)) (NW M ((ys++es).take (ys.length+j)) e.1+nOf M e):=by
    have n':nOf M e=NW M cs e.1:=rZ (x:=e.1) M0 e3;rw [n',ey];have e3':=e3;rw [ey] at e3';exact fr.plus e3'
   obtain ⟨ks',da',kl'⟩:=(da3.keep s4.tk).step hx h4 frn;rw [ey] at da';refine ⟨_,rfl,_,rfl,p,_,rfl,DPut.k (k:=AM y) hp4 (bP (by rw [da.1.len];lia)),?_⟩;refine hN _ _ ⟨_,_,ks',rfl,λc o nc hc=>?_,aB,da'.keep (Tk.dk hp4),by lia⟩;rw [aK nc];exact s4 _ _ (w1 _ _ (s2 c o nc hc))
  ·rintro Z H2 ⟨v6,kvs,ks,rfl,s2,hp2,da,kl2⟩
   have dm2:=s2 _ _ (Bi pm) aB;refine ⟨dm,ob,kvm,dm2,(λo u z=>by have z':H dm=some (.frz o u):=z;rw [m.hm] at z';cases z'),?_⟩;have s3:Same H (upd H2 dm (.dK kvm)):=λc o hc=>by
    by_cases n:c=dm
    ·subst n
     rw [m.hm] at hc;rw [aB];exact hc
    ·have ncp:c≠p:=λz=>by rw [z,np] at hc;cases hc
     rw [aK n];exact s2 c o ncp (by rw [aK n];exact s1 _ _ hc)
   have hp3:upd H2 dm (.dK kvm) p=some (.dK kvs):=by rw [aK pm];exact hp2
   have da3:DA (upd H2 dm (.dK kvm)) M (ys++es) kvs ks:=by
    rw [kl,<- el,<- Av,Bz] at da;exact da.keep λc zs hc=>by
     have n:c≠dm:=λz=>by rw [z,dm2] at hc;cases hc
     rw [aK n];exact hc
   generalize upd H2 dm (.dK kvm)=H3 at s3 hp3 da3 ⊢;refine ⟨_,rfl,p,kvs,ks,M,ys++es,rfl,hp3,da3,M0,m.bm,oye,bT,λli t b' H4 s4 hli fr=>?_⟩;have s04:=s3.trans s4;have bn4:=bn.keep s04;obtain ⟨t_le,b_le⟩:=dE M0 fr;have bb:=fr.am.b1;have bt:Bt 4000 t:=(bT.le fr.am.t0 t_le).mono (by decide);have bb':Bt 4000 b':=(m.bm.le (by lia) b_le).mono (by decide);obtain ⟨rv,hrv⟩:∃ rv,rs[i]?=some rv:=⟨_,Ae (by rw [<- m.sl];exact (Ad.mp m.di).1)⟩;obtain ⟨rb',hrb',ra,rfl,hra,rmm⟩:=m.bs.rm.get hrv;rw [m.rbi] at hrb';cases hrb';have tw:Tw K H4 ra li rb.1 rb.2 t b':=⟨Gv (s04 _ _ hra),Gv hli,⟨by have:=rmm.t1;lia,rmm.b1,rmm.g⟩,fr.am,rmm.st.mono (by decide),rmm.sb.mono (by decide),bt,bb'⟩;have frr:Fr rb.2 rb.1 rb.2 rb.1:=zB rmm;refine ⟨b,_,_,rfl,Gv bn4.hp,rfl,_,rfl,r,_,(i:Int),.ref ra,rfl,rfl,Gv bn4.hr,aW hrv,_,rfl,ra,li,rb.1,rb.2,t,b',rfl,tw,_,rfl,?_⟩;rw [zC M0 fr];refine ite2 (λc=>?_) (λc=>?_)
   ·have c':rb.1*M<sumN M (ys++es)*rb.2:=of_decide_eq_true c
    obtain ⟨le,fo⟩:=fY (M1:=M) (M2:=rb.2) M0 (by have:=rmm.b1;lia) fr frr (by lia);refine ⟨_,rfl,_,rfl,b,_,_,rfl,Gv bn4.hp,rfl,_,rfl,r,_,(i:Int),.ref ra,rfl,rfl,Gv bn4.hr,aW hrv,li,ra,t,b',rb.1,rb.2,rfl,tw.flip,le,λpo H5 s5 h5=>⟨zLn3,λt3 nt3=>⟨zLn2,λz nz=>?_⟩⟩⟩;have s6:=Gu (o:=.tup [.str "spilt",.int ((i:Nat):Int),.ref po]) nt3;have s7:=Gu (o:=.tup [.ref t3,.non]) nz;exact kS c' z t3 po _ _ _ (((s04.trans s5).trans s6).trans s7) aB (s7 _ _ aB) ((s6.trans s7) _ _ h5) fo
   ·have c':¬ rb.1*M<sumN M (ys++es)*rb.2:=of_decide_eq_false (by simpa using c)
    refine ⟨_,rfl,_,rfl,l,_,(i:Int),.ref a,rfl,rfl,Gw (s04 _ _ hl),aW hv,a,_,1,.ref nn,rfl,rfl,Gv (s04 _ _ ha),rfl,nn,_,rfl,.inr (Gv (s04 _ _ hnn)),λc1 nc1=>?_⟩;have w1:=Gu (o:=.lst (d.2.map V.str)) nc1;refine ⟨_,rfl,nm,_,rfl,m.hn.imp (λh=>(s04.trans w1).seq h) (λh=>(s04.trans w1).tup h),λc2 nc2=>?_⟩;have w2:=Gu (o:=.lst (xs.map V.str)) nc2;have nl:d.2.length<=7:=AR ((eN okd.srt).length_le_of_subset okd.nin) m.bs.ww.l;have xl:=m.xl;refine ⟨c1,c2,_,_,rfl,rfl,w2 _ _ aB,aB,cJ (by rw [Af,Af];lia),λc3 nc3=>?_⟩;have ll:(d.2++xs).length<=30:=by rw [Av];lia
    refine ⟨c3,d.2++xs,rfl,Gw (by rw [Be];exact aB),by lia,λp2 np2=>⟨p2,_,rfl,aB,DI (SX.ddl_len _) (by lia),λp3 nm' pm' so np3=>⟨p3,_,rfl,.inl ⟨Gw aB,λp4 np4=>?_⟩⟩⟩⟩;have u:=aCx pm' so;have w4:=Gu (o:=.tup (nm'.map V.str)) np4;have w:=((((w1.trans w2).trans (Gu nc3)).trans (Gu np2)).trans (Gu (o:=.lst (nm'.map V.str)) np3)).trans w4;have bn5:=bn4.keep w;obtain ⟨kT,kO⟩:=kG c' nm' u;refine ⟨b,_,_,rfl,Gv bn5.hp,rfl,q,rfl,⟨_,Gv bn5.hq⟩,?_⟩;refine mG (xs:=us) (λj Z H'=>∃ v9:Gr,Z=[some (.ref b),some (.ref l),some (.int ((i:Nat):Int)),some (.ref dm),some (.ref nm),some (.ref p),v6,some (.ref li),some (.ref p4),v9,none]/\pairOf us ps nm'=pairOf (us.drop j) (ps.drop j) nm'/\Same H4 H'/\H' p4=some (.tup (nm'.map V.str))) ⟨none,rfl,rfl,w,aB⟩ ?_ ?_ ?_
    ·rintro j Z H' hj ⟨_,rfl,_,s',_⟩
     exact Gv (s' _ _ bn4.hq)
    ·rintro j v' Z H5 hv' ⟨v9,rfl,e,s5,h5⟩
     obtain ⟨y,hy⟩:∃ y,ps[j]?=some y:=⟨_,Ae (by rw [<- bn4.pt.1];exact (Ad.mp hv').1)⟩;obtain ⟨z,rfl,hz⟩:=bn4.pt.2 j v' y hv' hy;have hz':SqT K H5 z [.str y.1,.str y.2]:=Gv (s5 _ _ hz);have hn5:SqT K H5 p4 (nm'.map V.str):=Gv h5;rw [jY hv' hy] at e;refine ⟨z,_,_,rfl,hz',rfl,_,rfl,p4,_,rfl,.inr hn5,rfl,eG nm',_,rfl,ite2 (λh1=>?_) (λh1=>?_)⟩
     ·have m1:=dW.mp h1
      refine ⟨z,_,_,rfl,hz',rfl,_,rfl,p4,_,rfl,.inr hn5,rfl,eG nm',_,rfl,ite2 (λh2=>?_) (λh2=>?_)⟩
      ·rw [if_pos ⟨m1,dW.mp h2⟩] at e
       refine ⟨_,rfl,_,rfl,zLn3,λt3 nt3=>⟨zLn2,λzz nzz=>?_⟩⟩;have s6:=Gu (o:=.tup [.str "touch",.int ((i:Nat):Int),.ref z]) nt3;have s7:=Gu (o:=.tup [.ref t3,.non]) nzz;exact kT z e zz t3 _ (((s04.trans s5).trans s6).trans s7) aB (s7 _ _ aB)
      ·rw [if_neg λz=>h2 (dW.mpr z.2)] at e
       exact ⟨_,rfl,e,s5,h5⟩
     ·rw [if_neg λz=>h1 (dW.mpr z.1)] at e
      exact ⟨_,rfl,e,s5,h5⟩
    ·rintro Z H5 ⟨v9,rfl,e,s5,h5⟩
     rw [List.drop_length,iE] at e;have kO':=kO e;have s05:=s04.trans s5;refine ⟨_,rfl,l,_,rfl,.inl (Gw (s05 _ _ hl)),λl' nl'=>?_⟩;obtain ⟨H6,eH6,w6,hl6⟩:=updX (o:=.lst vs) nl';rw [eH6];obtain ⟨zs,ez,ek⟩:=aF1 da3.1.keys;have hp6:H6 p=some (.dK (txK zs)):=by rw [<- ez];exact w6 _ _ (s5 _ _ (s4 _ _ hp3))
     have zl:zs.length=ks.length:=by rw [<- ek,Af]
     have da6:=((da3.keep s4.tk).keep s5.tk).keep w6.tk;refine ⟨_,rfl,p,zs,rfl,hp6,by rw [ek];exact da3.1.nd,by lia,λq1 as zs' H7 s7 pz srt al ht hq1=>?_⟩;have zv:∀ z∈zs',∃ q t b,z.2=.ref q/\H7 q=some (.tup [.int t,.int b])/\Fr M t b (NW M (ys++es) z.1):=λz hz=>by
      have mz:=pz.mem_iff.mp hz;have mk:((AM z.1:Key),z.2)∈kvs:=by rw [ez];exact AE.mpr ⟨z,mz,rfl⟩
      have nk:(kvs.map (·.1)).Nodup:=by rw [da3.1.keys];exact Cu.mpr (da3.1.nd.imp λh e=>h (AM.inj e))
      have vz:=oV nk mk;obtain ⟨q',t',b2,f1,f2,f3⟩:=da6.2.2 z.1 (by rw [<- ek];exact Bq mz);have vz':valV kvs (AM z.1)=some z.2:=vz;rw [f1] at vz';exact ⟨q',t',b2,(AF vz').symm,s7 _ _ f2,f3⟩
     obtain ⟨yn,py,ny,fy⟩:=sS al ht zv;refine ⟨q1,_,rfl,.inl ⟨Gw hq1,λtz ntz=>⟨_,rfl,zLn2,λzt nzt=>?_⟩⟩⟩;have w8:=Gu (o:=.tup (as.map V.ref)) ntz;have w9:=Gu (o:=.tup [.ref tz,.ref p4]) nzt;have w79:=(s7.trans w8).trans w9;have il:=(Ad.mp hv).1;have lz:l'≠zt:=λe=>by rw [<- e,(s7.trans w8) _ _ hl6] at nzt;cases nzt
     refine ⟨_,rfl,_,rfl,l',vs,(i:Int),i,rfl,rfl,w79 _ _ hl6,gH il,?_⟩;refine ⟨_,rfl,zLn2,λzz nzz=>?_⟩;have nl0:H l'=none:=sm0 s05 nl';have sF:Same H (upd (upd (upd (upd H7 tz (.tup (as.map V.ref))) zt (.tup [.ref tz,.ref p4])) l' (.lst (vs.set i (.ref zt)))) zz (.tup [.non,.ref l'])):=λc o hc=>by
      have h1:=((s05.trans w6).trans w79) _ _ hc;have ncl:c≠l':=λz=>by rw [z,nl0] at hc;cases hc
      exact (Gu nzz) _ _ (by rw [aK ncl];exact h1)
     have sG:∀ c o,c≠l'->upd (upd H7 tz (.tup (as.map V.ref))) zt (.tup [.ref tz,.ref p4]) c=some o->upd (upd (upd (upd H7 tz (.tup (as.map V.ref))) zt (.tup [.ref tz,.ref p4])) l' (.lst (vs.set i (.ref zt)))) zz (.tup [.non,.ref l']) c=some o:=λc o n hc=>(Gu nzz) _ _ (by rw [aK n];exact hc);have tkG:Tk (upd (upd H7 tz (.tup (as.map V.ref))) zt (.tup [.ref tz,.ref p4])) (upd (upd (upd (upd H7 tz (.tup (as.map V.ref))) zt (.tup [.ref tz,.ref p4])) l' (.lst (vs.set i (.ref zt)))) zz (.tup [.non,.ref l'])):=λc ts hc=>sG c _ (λz=>by rw [z,w79 _ _ hl6] at hc;cases hc) hc;refine kO' zz l' _ sF nl0 aB (m.st.put hl sF ((Gu nzz) _ _ aB) ⟨zt,tz,p4,as.map V.ref,yn,rfl,tkG _ _ aB,tkG _ _ (w9 _ _ aB),py.keep (λc ts hc=>tkG _ _ ((w8.trans w9) _ _ hc)),?_,tkG _ _ ((w6.trans w79) _ _ h5)⟩);have memk:∀ y,y∈yn.map (·.1)↔y∈(ys++es).map (·.1):=λy=>by
      rw [ny,(pz.map (·.1)).mem_iff,ek,da3.2.1]
     refine ⟨?_,?_,λy=>?_,λz hz=>?_⟩
     ·rw [ny,Cu]
      exact srt.imp λh=>List.le_of_lt h
     ·rw [ny,(pz.map (·.1)).nodup_iff,ek]
      exact da3.1.nd
     ·rw [memk]
      show _↔d.1 y+NW M cs y≠0;rw [<- nwT];constructor
      ·intro hy
       rw [nwT];have h1:=okd.nn y;have h2:=aFt M0 m.oc y;rw [Be,AS] at hy
       rcases hy with hy|hy
       ·have:=(mx.mem y).mp hy
        lia
       ·have:=m.cp y (by rw [<- ee];exact hy)
        lia
      ·intro h
       exact Bg λz=>h (eJ z)
     ·have:=fy z hz
      rw [nwT] at this;exact this
end
end K51
namespace L2
open PySem PySem.Spec PyProof.Rows PySem.W
section
variable {X:Cx}
def xI (hu:X.A.units+64<cLine):OpR X (BB .Eq) (λx y H Q=>∃ a b xs,x=.ref a/\y=.ref b/\SqT X.K H a xs/\SqT X.K H b []/\Q (.bl xs.isEmpty) H):=by
 intro U s Z H x y v u Q I rx ry h;obtain ⟨a,b,xs,rfl,rfl,ha,hb,q⟩:=h;cases rx;cases ry;obtain ⟨its,r,p,_⟩:=I.tuple ha;obtain ⟨its',r',p',_⟩:=I.tuple hb;cases r';obtain ⟨o,o1,o2,n,o3⟩:=p;obtain ⟨o',o1',o2',n',o3'⟩:=p';have key:=SeqAt.RcAt.tuples (A:=X.A) (s:=s) (l:=a) (b:=b) (items:=its.toArray) (items2:=#[]) (e:=λ_=>true) ⟨o,o1,o2,n,o3⟩ ⟨o',o1',o2',n',o3'⟩ (by lia) (λj h1 h2=>absurd h2 (by simp));cases r with
 |nil=>exact key X.prog X.w X.xe _ ⟨.bl _,H,I,rfl,q⟩
 |cons r t=>exact key X.prog X.w X.xe _ ⟨.bl _,H,I,rfl,q⟩
end
end L2
namespace K51
open PySem PySem.Spec PyProof.Rows L2 GM TM
def sV {M N t1 b1 t2 b2:Int}(M0:0<M)(h:Fr M t1 b1 N)(h2:Amt t2 b2):Fr (M*b2) (t1*t2/G (t1*t2) (b1*b2)) (b1*b2/G (t1*t2) (b1*b2)) (N*t2):=by
 have a1:=h.am.b1;have a2:=h2.b1;have n1:=Bv h.am.t0 h2.t0;have hb:1<=b1*b2:=mul1 a1 a2;refine ⟨kC n1 hb,?_⟩;have crs:=gW (t1*t2) (b1*b2);generalize t1*t2/G (t1*t2) (b1*b2)=x at *
 generalize b1*b2/G (t1*t2) (b1*b2)=y at *
 refine Bl (show b1*b2≠0 by lia) ?_
 calc x*(M*b2)*(b1*b2)=(x*(b1*b2))*(M*b2):=by rw [AQ]
  _=((t1*t2)*y)*(M*b2):=by rw [crs]
  _=(t1*M)*(t2*y*b2):=by grind
  _=(N*b1)*(t2*y*b2):=by rw [h.e]
  _=N*t2*y*(b1*b2):=by grind
def IntoL.mono {us:Gq}{ps:Gf}{ws:Gh}{M:Int}{S:List PF}{i:Nat}{d:PF}{rb:Int×Int}{add:Str->Int}{xs:Gh}{H H1:Hp}{Q:VK}(s:Same H H1)(h:IntoL us ps ws M S i d rb add xs H Q):IntoL us ps ws M S i d rb add xs H1 Q:=
 ⟨λc z t3 a t b H' s'=>h.1 c z t3 a t b H' (s.trans s'),λc nm' u=>⟨λpa e z t3 H' s'=>(h.2 c nm' u).1 pa e z t3 H' (s.trans s'),λe z l' H' s' nl=>(h.2 c nm' u).2 e z l' H' (s.trans s') (sm0 s nl)⟩⟩
theorem aB7 {t:Int}(h:Amt t t):t=1:=by
 have g:=h.g;unfold G at g;rw [Int.gcd_self] at g;have:=h.t0;lia
def zf (t b:Int)(y:Str×Int×Int):Str×Int×Int:=(y.1,y.2.1*t/G (y.2.1*t) (y.2.2*b),y.2.2*b/G (y.2.1*t) (y.2.2*b))
def rf (t b:Int)(y:Str×Int×Int):Str×Int×Int:=(y.1,(y.2.1*(zf t b y).2.2-(zf t b y).2.1*y.2.2)/G (y.2.1*(zf t b y).2.2-(zf t b y).2.1*y.2.2) (y.2.2*(zf t b y).2.2),y.2.2*(zf t b y).2.2/G (y.2.1*(zf t b y).2.2-(zf t b y).2.1*y.2.2) (y.2.2*(zf t b y).2.2))
def aAj {M N t b:Int}{y:Str×Int×Int}(M0:0<M)(h:Fr M y.2.1 y.2.2 N)(a:Amt t b):Fr (M*b) (zf t b y).2.1 (zf t b y).2.2 (N*t):=sV M0 h a
def aGu {M N t b:Int}{y:Str×Int×Int}(M0:0<M)(h:Fr M y.2.1 y.2.2 N)(a:Amt t b)(tb:t<=b):(zf t b y).2.1*y.2.2<=y.2.1*(zf t b y).2.2/\Fr (M*b) (rf t b y).2.1 (rf t b y).2.2 (N*b-N*t):=by
 have b0:0<b:=by have:=a.b1;lia
 have Mb:0<M*b:=Cp M0 b0;have f1:Fr (M*b) y.2.1 y.2.2 (N*b):=iU h M0 (by rw [BD M b,<- BI]);have f2:=aAj M0 h a;have n0:=h.nonneg M0;have le:N*t*(M*b)<=N*b*(M*b):=EN (CJ tb n0) (Int.le_of_lt Mb);obtain ⟨l,fo⟩:=fY Mb Mb f1 f2 le;exact ⟨l,iU fo (Cp Mb Mb) (by grind)⟩
def RefL (wd:Str)(i:Nat)(H:Hp)(Q:VK):Prop:=∀ z t3 H',Same H H'->H' z=some (.tup [.ref t3,.non])->H' t3=some (.tup [.str wd,.int ((i:Nat):Int),.non])->Q (.ref z) H'
inductive spPoured (K:Ab)(vs:Gq)(H:Hp)(Q:VK)(Ex:XK):Prop
 |mk (b r q l a rs us ps rbs ws M S β i j t b' di dj rbj:_) (e0:vs=[.ref b,.ref l,.ref a]) (e1:OnIn H b r q l rs us ps rbs ws M S β) (e2:RwV H a (.pour i j t b')) (e3:GoodR rs.length ws (.pour i j t b')) (e4:S[i]?=some di) (e5:S[j]?=some dj) (e6:rbs[j]?=some rbj) (e7:((∀ y,di.1 y=0)->RefL "dry" i H Q)) (e8:(¬ (∀ y,di.1 y=0)->IntoL us ps ws (M*b') ((scl b' S).set i (λy=>di.1 y*b'-di.1 y*t,di.2)) j (λy=>dj.1 y*b',dj.2) rbj (λy=>di.1 y*t) di.2 H Q)):spPoured K vs H Q Ex
section
variable {P:Aw}{w:World}{K:Ab}{mg:Gb}{base:Heap}
abbrev Npou:Gh:=["_law_bench","_law_state","_law_row_here","_law_held","_law_names_here","_law_out","_law_rest","_law_ware","_law_much","_law_found"]
def nE:FnScope Npou ["_law_bench","_law_state","_law_row_here"] (aH pH):=fnScOk (by decide +kernel)
def xQ {f:Gj}{fd:Az}(F:Fun K "_law_poured" "_law_poured" pH f fd)(T:Txt mg)(cB:Cal P w K mg base CX0 4 "_law_by" ["_law_one","_law_other_here"] (spBy K))(cT:Cal P w K mg base CX0 4 "_law_take" ["_law_one","_law_other_here"] (spTake K))(cI:Cal P w K mg base CX0 4 "_law_into" ["_law_bench","_law_state","_law_phial","_law_more","_law_names_here"] (spInto K)):FnOk P w K mg base CX0 5 f fd ["_law_bench","_law_state","_law_row_here"] (spPoured K):=by
 refine F.okA nE (λcdv A outer s H vs Q E hr h=>?_)
 ·obtain ⟨b,r,q,l,a,rs,us,ps,rbs,ws,M,S,β,i,j,t,b',di,dj,rbj,rfl,o,⟨qa,hra,hqa⟩,⟨g1,g2,g3,g4,g5,g6⟩,hdi,hdj,hrj,kD,kI⟩:=h
  refine ⟨_,(aD (fQ (aZ aX (pv 1) (pit 2 1) (λ_ _=>rfl)) (fR rfl (bE (aR (i:=3) nE.nd) (bE (aR (i:=4) nE.nd) eD))))
   (aD (bH (aL (xI hr.units) (pv 3) (aU aC))
    (aE (aM (aU (aA (aU (aA aS (aA (pit 2 1) (aA dO aC)))) (aA dO aC)))))
    aQ)
   (aD (aJ (i:=5) nE.nd rP)
   (aD (aJ (i:=6) nE.nd (cV aC))
   (aD (dA AO rfl (gC (pv 3)) (fR rfl (bE (aR (i:=7) nE.nd) (bE (aR (i:=8) nE.nd) eD)))
    (aD (pS (kX hr) (pv 5) (pv 7) (aI cB hr (aA (pv 8) (aA (pit 2 3) aC))) rfl)
    (aE (bH (aL (xE hr.units) (pit 2 3) (aU (aA aG (aA aG aC))))
     (aE (dP (pW Cj Cc Cb dM (pv 6) (aA (aU (aA (pv 7) (aA (aI cT hr (aA (pv 8) (aA (jW (kX hr) (pv 5) (pv 7) (λ_ _=>rfl)) aC))) aC))) aC))))
     aQ))))
   (aD (aJ (i:=9) nE.nd (aV bA rfl T.list' dN (aA (pv 1) aC)))
   (aD (fQ (aU (aA (aV bG rfl T.tup' dB (aA (pv 6) aC)) (aA (pv 4) aC))) (jU (pv 9) (pit 2 1) set_list))
   (aE (aM (aI cI hr (aA (pv 0) (aA (pv 9) (aA (pit 2 2) (aA (pv 5) (aA (pv 4) aC))))))))))))))),?_⟩
  obtain ⟨vs,v,hl,vl,hv,a1,mm,nn,ms,ys,rfl,ha1,hmm,pr,mx,hnn⟩:=o.st.get hdi;have okd:=o.so.ok di (Al hdi);have M0:=o.so.m0;have b0:0<b':=by have:=g4.am.b1;lia
  have sqr:=Gv (K:=K) hra;have pl:=pr.length;refine ⟨_,rfl,a,_,_,rfl,sqr,rfl,l,_,(i:Int),.ref a1,rfl,rfl,Gw hl,aW hv,?_⟩;refine ⟨a1,_,rfl,Gv ha1,rfl,_,_,rfl,_,_,rfl,rfl,?_⟩;refine ⟨_,rfl,zLn0,λz0 nz0=>⟨mm,z0,_,rfl,rfl,Gv ((Gu nz0) _ _ hmm),Gv aB,_,rfl,ite2 (λc=>?_) (λc=>?_)⟩⟩
  ·have em:ms=[]:=by
    cases ms with
    |nil=>rfl
    |cons u r=>exact absurd c (by show ¬ (false=true);decide)
   have z:∀ y,di.1 y=0:=(fU mx).mp (Bm.mp (by rw [<- pl,em];rfl));have s1:=Gu (o:=.tup []) nz0;refine ⟨a,_,_,rfl,Gv (s1 _ _ hra),rfl,zLn3,λt3 nt3=>⟨zLn2,λzz nzz=>?_⟩⟩;have s2:=Gu (o:=.tup [.str "dry",.int ((i:Nat):Int),.non]) nt3;have s3:=Gu (o:=.tup [.ref t3,.non]) nzz;exact kD z zz t3 _ ((s1.trans s2).trans s3) aB (s3 _ _ aB)
  ·have ne:¬ (∀ y,di.1 y=0):=λz=>by
    have:=(fU mx).mpr z;subst this;have:ms=[]:=Bm.mp pl;subst this;exact absurd rfl c
   have kI':=kI ne;obtain ⟨H1,eH1,s1,_⟩:=updX (o:=.tup []) nz0;rw [eH1];intro od nod;have s2:=Gu (o:=.dK []) nod;refine ⟨zLn0,λrl nrl=>?_⟩;have s3:=Gu (o:=.lst []) nrl;have ho3:upd (upd H1 od (.dK [])) rl (.lst []) od=some (.dK []):=s3 _ _ aB;have hr3:upd (upd H1 od (.dK [])) rl (.lst []) rl=some (.lst []):=aB;have or':od≠rl:=λe=>by rw [<- e,aB] at nrl;cases nrl
   have s03:=(s1.trans s2).trans s3;have od0:H od=none:=sm0 s1 nod;have rl0:H rl=none:=sm0 (s1.trans s2) nrl;generalize upd (upd H1 od (.dK [])) rl (.lst [])=H3 at s03 ho3 hr3 ⊢;refine ⟨_,rfl,mm,rfl,⟨_,Gv (s03 _ _ hmm)⟩,?_⟩;have am:=g4.am;have fy:∀ y∈ys,Fr M y.2.1 y.2.2 (di.1 y.1):=mx.fr;have Mb:0<M*b':=Cp M0 b0;have zm:(ys.map (zf t b')).map (·.1)=ys.map (·.1):=by rw [Ce];rfl
   have rmm:(ys.map (rf t b')).map (·.1)=ys.map (·.1):=by rw [Ce];rfl
   have fz:∀ z∈ys.map (zf t b'),Fr (M*b') z.2.1 z.2.2 (di.1 z.1*t):=λz hz=>by
    obtain ⟨y,hy,rfl⟩:=AE.mp hz;exact aAj M0 (fy y hy) am
   have frr:∀ z∈ys.map (rf t b'),Fr (M*b') z.2.1 z.2.2 (di.1 z.1*b'-di.1 z.1*t):=λz hz=>by
    obtain ⟨y,hy,rfl⟩:=AE.mp hz;exact (aGu M0 (fy y hy) am g6).2
   have nwz:∀ y,NW (M*b') (ys.map (zf t b')) y=di.1 y*t:=λy=>by
    rw [gR Mb (f:=λy=>di.1 y*t) (by rw [zm];exact mx.nd) fz,zm]
    by_cases c:y∈ys.map (·.1)
    ·rw [if_pos c]
    ·rw [if_neg c]
     have:di.1 y=0:=Bg λh=>c ((mx.mem y).mpr h);rw [this,Bo]
   have yl:ys.length<=7:=AR (yG mx okd.inw) o.bs.ww.l;refine mG (xs:=ms) (λk Z H'=>∃ (v7 v8:Gr) (kvs:Gp) (ks:Gh) (rvs:Gq),Z=[some (.ref b),some (.ref l),some (.ref a),some (.ref mm),some (.ref nn),some (.ref od),some (.ref rl),v7,v8,none]/\(∀ c o,c≠od->c≠rl->H3 c=some o->H' c=some o)/\H' od=some (.dK kvs)/\DA H' (M*b') ((ys.map (zf t b')).take k) kvs ks/\ks.length<=k/\H' rl=some (.lst rvs)/\PrL H' rvs (if ([t,b']:List Int)=[1,1] then [] else (ys.map (rf t b')).take k)/\rvs.length<=k)
    ⟨none,none,[],[],[],rfl,λ_ _ _ _ h=>h,ho3,⟨.nil,λy=>by simp,λy hy=>by simp at hy⟩,Aj _,hr3,by rw [List.take_zero];split<;>exact .nil,Aj _⟩ ?_ ?_ ?_
   ·rintro k Z H' hk ⟨_,_,_,_,_,rfl,sm,_⟩
    exact Gv (sm _ _ (λe=>by rw [e,od0] at hmm;cases hmm) (λe=>by rw [e,rl0] at hmm;cases hmm) (s03 _ _ hmm))
   ·rintro k v' Z H4 hv' ⟨v7,v8,kvs,ks,rvs,rfl,s4,ho4,da,kl,hr4,pr4,rvl⟩
    obtain ⟨y,hy,pp,qq,rfl,h1,h2⟩:=pr.get hv';have kp:∀ c o,H c=some o->H4 c=some o:=λc o hc=>s4 c o (λe=>by rw [e,od0] at hc;cases hc) (λe=>by rw [e,rl0] at hc;cases hc) (s03 _ _ hc);have ym:=Al hy;have kl6:k<7:=by have:=(Ad.mp hy).1;lia
    have fyy:=fy y ym;have hz:(ys.map (zf t b'))[k]?=some (zf t b' y):=by rw [Aq,hy];rfl
    have hrf:(ys.map (rf t b'))[k]?=some (rf t b' y):=by rw [Aq,hy];rfl
    obtain ⟨lef,frf⟩:=aGu M0 fyy am g6;have fzz:=aAj M0 fyy am;obtain ⟨vi,hvi⟩:∃ vi,rs[i]?=some vi:=⟨_,Ae g1⟩;obtain ⟨rbi,hri,_,_,_,rmi⟩:=o.bs.rm.get hvi;obtain ⟨tn,tb⟩:=o.so.small hdi hri rmi;have b24:=o.b24;have yS:di.1 y.1<=tot ws di.1:=by
     have e1:=(hU o.bs.ww.nd mx okd.inw);have e2:=(qR M0 mx.over ys.length y.1).2;rw [Bz,mx.nw] at e2;lia
    have ynn:=okd.nn y.1;have by1:Bt 2600 (di.1 y.1):=(tb.le ynn yS).mono (by lia);have fsm:=dE M0 fyy;have bM:=o.so.bm;have b1:Bt 4000 y.2.1:=(by1.le fyy.am.t0 fsm.1).mono (by decide);have b2:Bt 4000 y.2.2:=(bM.le (by have:=fyy.am.b1;lia) fsm.2).mono (by lia);have zsm:=dE Mb fzz;have b3:Bt 4000 (zf t b' y).2.1:=((by1.mul g4.bt).le fzz.am.t0 zsm.1).mono (by decide);have b4:Bt 4000 (zf t b' y).2.2:=((bM.mul g4.bb).le (by have:=fzz.am.b1;lia) zsm.2).mono (by lia);refine ⟨pp,_,rfl,Gv (kp _ _ h1),rfl,_,_,rfl,_,_,rfl,rfl,?_⟩;have tw1:Tw K H4 qq qa y.2.1 y.2.2 t b':=⟨Gv (kp _ _ h2),Gv (kp _ _ hqa),fyy.am,am,b1,b2,g4.bt.mono (by decide),g4.bb.mono (by decide)⟩;refine ⟨_,rfl,a,_,_,rfl,Gv (kp _ _ hra),rfl,qq,qa,y.2.1,y.2.2,t,b',rfl,tw1,λr' H5 s5 h5=>?_⟩;have ho5:=s5 _ _ ho4;have yk:y.1∉((ys.map (zf t b')).take k).map (·.1):=λhm=>by
     rw [List.map_take,zm] at hm;obtain ⟨n,hn⟩:=Co hm;rw [List.getElem?_take] at hn;split at hn
     ·rename_i lt
      rw [Aq] at hn;obtain ⟨y',hy',e⟩:=AZ.mp hn;have:=(List.getElem?_inj (l:=ys.map (·.1)) (i:=n) (j:=k) (by rw [Af];have:=(Ad.mp hy').1;lia) mx.nd).mp (by rw [Aq,Aq,hy',hy];exact congrArg some e);lia
     ·cases hn
    have frn:Fr (M*b') (zf t b' y).2.1 (zf t b' y).2.2 (NW (M*b') ((ys.map (zf t b')).take k) (zf t b' y).1+nOf (M*b') (zf t b' y)):=by
     rw [eJ (y:=(zf t b' y).1) yk,Int.zero_add,rZ (x:=(zf t b' y).1) Mb fzz];exact fzz
    obtain ⟨ks',da',kl'⟩:=(da.keep s5.tk).step hz h5 frn;refine ⟨_,rfl,_,rfl,od,_,rfl,DPut.k (k:=AM y.1) ho5 (bP (by rw [da.1.len];lia)),?_⟩;have tk6:Tk H5 (upd H5 od (.dK (putK kvs (AM y.1) (.ref r')))):=Tk.dk ho5;have da6:=da'.keep tk6;have ho6:upd H5 od (.dK (putK kvs (AM y.1) (.ref r'))) od=some (.dK (putK kvs (AM y.1) (.ref r'))):=aB;have hr6:upd H5 od (.dK (putK kvs (AM y.1) (.ref r'))) rl=some (.lst rvs):=by rw [aK (Bi or')];exact s5 _ _ hr4
    have k6:∀ c o,c≠od->c≠rl->H4 c=some o->upd H5 od (.dK (putK kvs (AM y.1) (.ref r'))) c=some o:=λc o n1 n2 hc=>by rw [aK n1];exact s5 _ _ hc
    have kp6:∀ c o,H c=some o->upd H5 od (.dK (putK kvs (AM y.1) (.ref r'))) c=some o:=λc o hc=>k6 c o (λe=>by rw [e,od0] at hc;cases hc) (λe=>by rw [e,rl0] at hc;cases hc) (kp c o hc);have pr6:PrL (upd H5 od (.dK (putK kvs (AM y.1) (.ref r')))) rvs (if ([t,b']:List Int)=[1,1] then [] else (ys.map (rf t b')).take k):=(pr4.keep s5.tk).keep tk6;have h6:upd H5 od (.dK (putK kvs (AM y.1) (.ref r'))) r'=some (.tup [.int (zf t b' y).2.1,.int (zf t b' y).2.2]):=tk6 _ _ h5;have vk:valV (putK kvs (AM y.1) (.ref r')) (AM y.1)=some (.ref r'):=by rw [qV,if_pos rfl]
    generalize upd H5 od (.dK (putK kvs (AM y.1) (.ref r')))=H6 at da6 ho6 hr6 k6 kp6 pr6 h6 ⊢;refine ⟨a,_,_,rfl,Gv (kp6 _ _ hra),rfl,zLn2,λz1 nz1=>⟨qa,z1,[t,b'],[1,1],rfl,rfl,Gv ((Gu nz1) _ _ (kp6 _ _ hqa)),Gv aB,_,rfl,?_⟩⟩;obtain ⟨H7,eH7,w1,_⟩:=updX (o:=.tup [.int 1,.int 1]) nz1;rw [eH7];refine ite2 (λc2=>?_) (λc2=>?_)
    ·have n11:¬ ([t,b']:List Int)=[1,1]:=λe=>by rw [decide_eq_true e] at c2;cases c2
     have dg:DGet H7 od (.str y.1) (some (.ref r')):=.inl ⟨_,.inr y.1,.inl (w1 _ _ ho6),rfl,vk.symm⟩;have tw2:Tw K H7 qq r' y.2.1 y.2.2 (zf t b' y).2.1 (zf t b' y).2.2:=⟨Gv (w1 _ _ (kp6 _ _ h2)),Gv (w1 _ _ h6),fyy.am,fzz.am,b1,b2,b3,b4⟩;refine ⟨_,rfl,.inl ⟨rfl,_,Gw (w1 _ _ hr6)⟩,_,rfl,_,rfl,_,rfl,_,rfl,od,_,rfl,dg,qq,r',y.2.1,y.2.2,(zf t b' y).2.1,(zf t b' y).2.2,rfl,tw2,lef,λr2 H8 s8 h8=>⟨zLn2,λpz npz=>?_⟩⟩;have w9:=Gu (o:=.tup [.str y.1,.ref r2]) npz;have w79:=(w1.trans s8).trans w9;have hr9:=w79 _ _ hr6;refine ⟨rl,rvs,_,rfl,rfl,hr9,bP (by lia),?_⟩;have tkr:Tk (upd H8 pz (.tup [.str y.1,.ref r2])) (upd (upd H8 pz (.tup [.str y.1,.ref r2])) rl (.lst (rvs++[.ref pz]))):=λc ts hc=>by
      rw [aK λe=>by rw [e,hr9] at hc;cases hc];exact hc
     refine ⟨_,_,_,ks',rvs++[.ref pz],rfl,λc o n1 n2 hc=>?_,?_,(da6.keep w79.tk).keep tkr,by lia,aB,?_,by rw [Av,DJ];lia⟩
     ·rw [aK n2]
      exact w79 _ _ (k6 c o n1 n2 (s4 c o n1 n2 hc))
     ·rw [aK or']
      exact w79 _ _ ho6
     ·rw [if_neg n11] at pr6 ⊢
      rw [CO,hrf];exact ((pr6.keep w79.tk).keep tkr).snoc ⟨pz,r2,rfl,tkr _ _ aB,tkr _ _ (w9 _ _ h8)⟩
    ·have e11:([t,b']:List Int)=[1,1]:=Bg λe=>c2 (by rw [decide_eq_false e];rfl)
     refine ⟨_,_,_,ks',rvs,rfl,λc o n1 n2 hc=>w1 _ _ (k6 c o n1 n2 (s4 c o n1 n2 hc)),w1 _ _ ho6,da6.keep w1.tk,by lia,w1 _ _ hr6,?_,by lia⟩;rw [if_pos e11] at pr6 ⊢;exact pr6.keep w1.tk
   ·rintro Z H4 ⟨v7,v8,kvs,ks,rvs,rfl,s4,ho4,da,kl,hr4,pr4,rvl⟩
    have kp:∀ c o,H c=some o->H4 c=some o:=λc o hc=>s4 c o (λe=>by rw [e,od0] at hc;cases hc) (λe=>by rw [e,rl0] at hc;cases hc) (s03 _ _ hc);have zl:(ys.map (zf t b')).take ms.length=ys.map (zf t b'):=by rw [pl,<- Af (f:=zf t b'),Bz]
    have rl':(ys.map (rf t b')).take ms.length=ys.map (rf t b'):=by rw [pl,<- Af (f:=rf t b'),Bz]
    rw [zl] at da;rw [rl'] at pr4;have sH:Same H H4:=λc o hc=>kp c o hc;have il:=(Ad.mp hv).1;refine ⟨_,rfl,l,_,rfl,.inl (Gw (kp _ _ hl)),λfl nfl=>?_⟩;have w5:=Gu (o:=.lst vs) nfl;refine ⟨_,rfl,rl,_,rfl,.inl ⟨Gw (w5 _ _ hr4),λtz ntz=>⟨_,rfl,zLn2,λzt nzt=>?_⟩⟩⟩;have w6:=Gu (o:=.tup rvs) ntz;have w7:=Gu (o:=.tup [.ref tz,.ref nn]) nzt;have w57:=(w5.trans w6).trans w7;have hfl:upd (upd (upd H4 fl (.lst vs)) tz (.tup rvs)) zt (.tup [.ref tz,.ref nn]) fl=some (.lst vs):=(w6.trans w7) _ _ aB;have htz:upd (upd (upd H4 fl (.lst vs)) tz (.tup rvs)) zt (.tup [.ref tz,.ref nn]) tz=some (.tup rvs):=w7 _ _ aB;have hzt:upd (upd (upd H4 fl (.lst vs)) tz (.tup rvs)) zt (.tup [.ref tz,.ref nn]) zt=some (.tup [.ref tz,.ref nn]):=aB;generalize upd (upd (upd H4 fl (.lst vs)) tz (.tup rvs)) zt (.tup [.ref tz,.ref nn])=H7 at w57 hfl htz hzt ⊢;refine ⟨_,rfl,a,_,_,rfl,Gv (w57 _ _ (kp _ _ hra)),rfl,fl,vs,(i:Int),i,rfl,rfl,hfl,gH il,?_⟩;have fl0:H fl=none:=sm0 sH nfl;have tk8:∀ c o,c≠fl->H7 c=some o->upd H7 fl (.lst (vs.set i (.ref zt))) c=some o:=λc o n hc=>by rw [aK n];exact hc
    have s8:Same H (upd H7 fl (.lst (vs.set i (.ref zt)))):=λc o hc=>tk8 c o (λe=>by rw [e,fl0] at hc;cases hc) (w57 _ _ (kp _ _ hc));have t8:Tk H7 (upd H7 fl (.lst (vs.set i (.ref zt)))):=λc ts hc=>tk8 c _ (λe=>by rw [e,hfl] at hc;cases hc) hc;have fl8:upd H7 fl (.lst (vs.set i (.ref zt))) fl=some (.lst (vs.set i (.ref zt))):=aB;have od8:upd H7 fl (.lst (vs.set i (.ref zt))) od=some (.dK kvs):=tk8 _ _ (λe=>by rw [<- e,ho4] at nfl;cases nfl) (w57 _ _ ho4);have da8:=(da.keep w57.tk).keep t8;have pr8:=(pr4.keep w57.tk).keep t8;have tz8:=t8 _ _ htz;have zt8:=t8 _ _ hzt;generalize upd H7 fl (.lst (vs.set i (.ref zt)))=H8 at s8 fl8 od8 da8 pr8 tz8 zt8 ⊢;have ew:(NW (M*b') (ys.map (zf t b')))=λy=>di.1 y*t:=funext nwz;have o8:=o.keep s8;have sc:=o.so.scale b0 g4.bb;refine ⟨_,rfl,_,rfl,a,_,_,rfl,Gv (s8 _ _ hra),rfl,_,rfl,_,rfl,b,r,q,fl,od,nn,rs,us,ps,rbs,ws,M*b',(scl b' S).set i (λy=>di.1 y*b'-di.1 y*t,di.2),j,(λy=>dj.1 y*b',dj.2),rbj,kvs,ks,ys.map (zf t b'),di.2,rfl,?_,by rw [ew];exact kI'.mono s8⟩;have mxr:IsMx (M*b') (λy=>di.1 y*b'-di.1 y*t) (if ([t,b']:List Int)=[1,1] then [] else ys.map (rf t b')):=by
     split
     ·rename_i e
      injection e with e1 e2;injection e2 with e2 _;exact lH.congr λy=>by rw [e1,e2,Int.sub_self]
     ·rename_i e
      have tb:t≠b':=λz=>e (by
       rw [<- z] at am ⊢;rw [aB7 am])
      refine ⟨by rw [rmm];exact mx.pw,by rw [rmm];exact mx.nd,λy=>?_,frr⟩;rw [rmm,mx.mem,<- Int.mul_sub];constructor
      ·intro h z
       rcases DP.mp z with z|z
       ·exact h z
       ·lia
      ·intro h z
       exact h (by rw [z,Bo])
    have S1:StV H8 fl (M*b') ((scl b' S).set i (λy=>di.1 y*b'-di.1 y*t,di.2)):=(o.st.scale M0 b0).put hl s8 fl8 ⟨zt,tz,nn,rvs,_,rfl,zt8,tz8,pr8,mxr,s8 _ _ hnn⟩;have nl:di.2.length<=7:=AR ((eN okd.srt).length_le_of_subset okd.nin) o.bs.ww.l;refine ⟨o8.bs,S1,by rw [BM];unfold scl;rw [Af,o.so.sl];exact o.bs.rm.1.symm,λd hd=>?_,by rw [Cn g3];exact fN hdj,hrj,od8,da8,λz hz=>⟨(fz z hz).am,(fz z hz).dvd⟩,λz hz=>?_,λy hy=>?_,.inr (Gv (s8 _ _ hnn)),okd.nin,by lia,Mb,(o.so.bm.mul g4.bb).mono (by have:=o.b24;lia),?_⟩
    ·rcases Dh hd with h|h
     ·exact sc.ok d h
     ·rw [h]
      refine ⟨λy=>?_,okd.nin,okd.srt,λy hy=>okd.inw y λe=>hy (by show di.1 y*b'-di.1 y*t=0;rw [e,Bo,Bo];rfl)⟩;have:=CJ g6 (okd.nn y);show 0<=di.1 y*b'-di.1 y*t;lia
    ·obtain ⟨y,hy,rfl⟩:=AE.mp hz
     exact okd.inw y.1 ((mx.mem y.1).mp (Bq hy))
    ·rw [nwz]
     have h1:=(da.2.1 y).mp hy;rw [zm] at h1;have h2:=(mx.mem y).mp h1;have h3:=okd.nn y;exact Cp (by lia) (by lia)
    ·rw [ew]
     show Bt 2900 (tot ws (λy=>dj.1 y*b'+di.1 y*t));rw [hV (λy=>dj.1 y*b') (λy=>di.1 y*t) ws,eY,eY];obtain ⟨vi,hvi⟩:∃ vi,rs[i]?=some vi:=⟨_,Ae g1⟩;obtain ⟨rbi,hri,_,_,_,rmi⟩:=o.bs.rm.get hvi;obtain ⟨_,tb1⟩:=o.so.small hdi hri rmi;obtain ⟨_,tb2⟩:=o.so.small hdj hrj (o.bs.rm.at hrj);have b24:=o.b24;have h1:Bt 2800 (tot ws dj.1*b'):=(tb2.mul g4.bb).mono (by lia);have h2:Bt 2800 (tot ws di.1*t):=(tb1.mul g4.bt).mono (by lia);exact (h1.add h2).mono (by decide)
end
def ResL (us:Gq)(ps:Gf)(rbs:Gg)(ws:Gh)(M:Int)(S:List PF)(H:Hp)(Q:VK):Rw->Prop
 |.draw i x t b=>∃ d rb,S[i]?=some d/\rbs[i]?=some rb/\IntoL us ps ws (M*b) (scl b S) i (λy=>d.1 y*b,d.2) rb (oneW x (t*M)) [x] H Q
 |.fill i x t b=>∃ d rb,S[i]?=some d/\rbs[i]?=some rb/\(¬ tot ws d.1*b<t*M->RefL "low" i H Q)/\(tot ws d.1*b<t*M->IntoL us ps ws (M*b) (scl b S) i (λy=>d.1 y*b,d.2) rb (oneW x (t*M-tot ws d.1*b)) [x] H Q)
 |.pour i j t b=>∃ di dj rbj,S[i]?=some di/\S[j]?=some dj/\rbs[j]?=some rbj/\((∀ y,di.1 y=0)->RefL "dry" i H Q)/\(¬ (∀ y,di.1 y=0)->IntoL us ps ws (M*b) ((scl b S).set i (λy=>di.1 y*b-di.1 y*t,di.2)) j (λy=>dj.1 y*b,dj.2) rbj (λy=>di.1 y*t) di.2 H Q)
 |.empty i=>∃ d,S[i]?=some d/\∀ z l' H',Same H H'->H l'=none->H' z=some (.tup [.non,.ref l'])->StV H' l' M (S.set i (λ_=>0,d.2))->Q (.ref z) H'
 |.rinse i=>∃ d,S[i]?=some d/\(¬ (∀ y,d.1 y=0)->RefL "wet" i H Q)/\((∀ y,d.1 y=0)->∀ z l' H',Same H H'->H l'=none->H' z=some (.tup [.non,.ref l'])->StV H' l' M (S.set i (λ_=>0,[]))->Q (.ref z) H')
inductive spAfter (K:Ab)(vs:Gq)(H:Hp)(Q:VK)(Ex:XK):Prop
 |mk (b r q l a rs us ps rbs ws M S β rw:_) (e0:vs=[.ref b,.ref l,.ref a]) (e1:OnIn H b r q l rs us ps rbs ws M S β) (e2:RwV H a rw) (e3:GoodR rs.length ws rw) (e4:ResL us ps rbs ws M S H Q rw):spAfter K vs H Q Ex
theorem sW {M t b N rt rb:Int}(hM:0<M)(h:Fr M t b N):decide (t*rb<rt*b)=decide (N*rb<rt*M):=by
 have b0:0<b:=by have:=h.am.b1;lia
 refine decide_eq_decide.mpr ?_;have e1:rt*b*M=rt*M*b:=AQ ..;have e2:t*rb*M=N*rb*b:=by rw [AQ,h.e,AQ]
 rw [<- Fc hM,e1,e2,Fc b0]
theorem nw1 {M t b N:Int}{x:Str}(M0:0<M)(fr:Fr M t b N):NW M [(x,t,b)]=oneW x N:=funext λy=>by
 rw [kQ];unfold oneW;have:NW M [] y=0:=eJ (by simp);rw [this,Int.add_zero,rZ M0 fr]
def law1 {K:Ab}{H:Hp}{b r q l dd nl qa:Gj}{rs us:Gq}{ps:Gf}{rbs:Gg}{ws:Gh}{M:Int}{S:List PF}{β i:Nat}{d:PF}{rb:Int×Int}{x:Str}{t t' b' N:Int}
  (o:OnIn H b r q l rs us ps rbs ws M S β) (hd:S[i]?=some d) (hr:rbs[i]?=some rb) (xw:x∈ws) (fr:Fr (M*t') t b' N) (N0:0<N) (bN:Bt 2600 N) (t0:0<t') (bt':Bt 200 t')
  (hm:H dd=some (.dK [(AM x,.ref qa)])) (hq:H qa=some (.tup [.int t,.int b'])) (hn:H nl=some (.lst [.str x])) :
  LawIn K H b r q l dd nl rs us ps rbs ws (M*t') (scl t' S) i (λy=>d.1 y*t',d.2) rb [(AM x,.ref qa)] [x] [(x,t,b')] [x]:=by
 have rm:=o.bs.rm.at hr;obtain ⟨n0,sm⟩:=o.so.small hd hr rm;have b24:=o.b24;have ss:=o.so.scale t0 bt';have Mb:=Cp o.so.m0 t0;have nw:=nw1 (x:=x) Mb fr;refine ⟨o.bs,o.st.scale o.so.m0 t0,by unfold scl;rw [Af,o.so.sl];exact o.bs.rm.1.symm,ss.ok,fN hd,hr,hm,⟨⟨rfl,by simp⟩,λy=>Iff.rfl,λy hy=>?_⟩,λz hz=>?_,λz hz=>?_,λy hy=>?_,.inl (Gw hn),λz hz=>?_,(by show 1<=20;decide),Mb,(o.so.bm.mul bt').mono (by lia),?_⟩
 ·rw [AA.mp hy,nw]
  refine ⟨qa,t,b',?_,hq,?_⟩
  ·unfold valV
   simp
  ·unfold oneW
   rw [if_pos rfl];exact fr
 ·rw [AA.mp hz]
  exact ⟨fr.am,fr.dvd⟩
 ·rw [AA.mp hz]
  exact xw
 ·rw [AA.mp hy,nw]
  unfold oneW;rw [if_pos rfl];exact N0
 ·rw [AA.mp hz]
  exact xw
 ·rw [nw]
  show Bt 2900 (tot ws (λy=>d.1 y*t'+oneW x N y));rw [hV (λy=>d.1 y*t') (oneW x N) ws,eY,oX o.bs.ww.nd xw];have h1:Bt 2800 (tot ws d.1*t'):=(sm.mul bt').mono (by lia);exact (h1.add (bN.mono (by decide))).mono (by decide)
section
variable {P:Aw}{w:World}{K:Ab}{mg:Gb}{base:Heap}
abbrev Naft:Gh:=["_law_bench","_law_state","_law_row_here","_law_lies","_law_found"]
def aD2:FnScope Naft ["_law_bench","_law_state","_law_row_here"] (aH wK):=fnScOk (by decide +kernel)
def aBp {f:Gj}{fd:Az}(F:Fun K "_law_after" "_law_after" wK f fd)(T:Txt mg)(cI:Cal P w K mg base CX0 5 "_law_into" ["_law_bench","_law_state","_law_phial","_law_more","_law_names_here"] (spInto K))(cP:Cal P w K mg base CX0 5 "_law_poured" ["_law_bench","_law_state","_law_row_here"] (spPoured K))(cS:Cal P w K mg base CX0 5 "_law_sum" ["_law_held"] (spSum K))(cU:Cal P w K mg base CX0 5 "_law_under" ["_law_one","_law_other_here"] (spLess K))(cT:Cal P w K mg base CX0 5 "_law_take" ["_law_one","_law_other_here"] (spTake K)):FnOk P w K mg base CX0 6 f fd ["_law_bench","_law_state","_law_row_here"] (spAfter K):=by
 refine F.okA aD2 (λcdv A outer s H vs Q E hr h=>?_)
 ·obtain ⟨b,r,q,l,a,rs,us,ps,rbs,ws,M,S,β,rw',rfl,o,rv,gr,res⟩:=h
  refine ⟨_,(aD (bH (aL bW (pit 2 0) aS)
    (aE (aM (aI cI hr (aA (pv 0) (aA (pv 1) (aA (pit 2 1) (aA (wX (rO (pit 2 2) (pit 2 3) wO) rfl rfl (by simp) (by simp)) (aA (cV (aA (pit 2 2) aC)) aC))))))))
    aQ)
   (aD (bH (aL bW (pit 2 0) aS)
    (aE (aM (aI cP hr (aA (pv 0) (aA (pv 1) (aA (pv 2) aC))))))
    aQ)
   (aD (bH (aL bW (pit 2 0) aS)
    (aD (aJ (i:=3) aD2.nd (aI cS hr (aA (aV (lP rfl) rfl T.dict' aAb (aA (aZ cY (aZ aX (pv 1) (pit 2 1) (λ_ _=>rfl)) aG (λ_ _=>rfl)) aC)) aC)))
    (aD (bH (fJ (eA (aI cU hr (aA (pv 3) (aA (pit 2 3) aC)))))
     (aE (aM (aU (aA (aU (aA aS (aA (pit 2 1) (aA dO aC)))) (aA dO aC)))))
     aQ)
    (aE (aM (aI cI hr (aA (pv 0) (aA (pv 1) (aA (pit 2 1) (aA (wX (rO (pit 2 2) (aI cT hr (aA (pit 2 3) (aA (pv 3) aC))) wO) rfl rfl (by simp) (by simp)) (aA (cV (aA (pit 2 2) aC)) aC))))))))))
    aQ)
   (aD (aJ (i:=4) aD2.nd (aV bA rfl T.list' dN (aA (pv 1) aC)))
   (aD (bH (PW.pt (jQ (aL bW (pit 2 0) aS) (gD (aL (xC hr.units) (aZ cY (aZ aX (pv 4) (pit 2 1) (λ_ _=>rfl)) aG (λ_ _=>rfl)) (aU aC)))))
    (aE (aM (aU (aA (aU (aA aS (aA (pit 2 1) (aA dO aC)))) (aA dO aC)))))
    aQ)
   (aD (fQ (aU (aA (aU aC) (aA (aZ aX (cV (aA (aZ cY (aZ aX (pv 4) (pit 2 1) (λ_ _=>rfl)) aG (λ_ _=>rfl)) (aA (aU aC) aC))) (aV aAa rfl T.int' aDc (aA (dD bW (pit 2 0) aS) aC)) (λ_ _=>rfl)) aC))) (jU (pv 4) (pit 2 1) set_list))
   (aE (aM (aU (aA dO (aA (pv 4) aC))))))))))),?_⟩
  have b24:=o.b24;cases rw' with
  |draw i x t b'=>
   obtain ⟨q',h1,h2⟩:=rv;obtain ⟨g1,g2,g3,g4⟩:=gr;obtain ⟨d,rb,hd,hrb,kI⟩:=res;have sq:=Gv (K:=K) h1;have b0:0<b':=by have:=g3.am.b1;lia
   refine ⟨a,_,_,rfl,sq,rfl,rfl,_,rfl,iteT ⟨_,rfl,_,rfl,a,_,_,rfl,sq,rfl,λdd ndd=>?_⟩⟩;have s1:=Gu (o:=.dK []) ndd;refine ⟨a,_,_,rfl,Gv (s1 _ _ h1),rfl,a,_,_,rfl,Gv (s1 _ _ h1),rfl,aB,[(.inr x,.ref q')],rfl,by show 1<=15;decide,?_⟩;have s2:Same H (upd (upd H dd (.dK [])) dd (.dK [(.inr x,.ref q')])):=λc o hc=>by
    have n:c≠dd:=λe=>by rw [e,ndd] at hc;cases hc
    rw [aK n,aK n];exact hc
   refine ⟨a,_,_,rfl,Gv (s2 _ _ h1),rfl,zLn1,λnl nnl=>?_⟩;have s3:=Gu (o:=.lst [.str x]) nnl;have Mb:=Cp o.so.m0 b0;have fr:Fr (M*b') t b' (t*M):=⟨g3.am,by rw [<- BI]⟩;refine ⟨b,r,q,l,dd,nl,rs,us,ps,rbs,ws,M*b',scl b' S,i,_,rb,_,[x],[(x,t,b')],[x],rfl,law1 (o.keep (s2.trans s3)) hd hrb g2 fr (Cp (by lia) o.so.m0) ((g3.bt.mul o.so.bm).mono (by lia)) b0 g3.bb (s3 _ _ aB) ((s2.trans s3) _ _ h2) aB,?_⟩;rw [nw1 Mb fr];exact kI.mono (s2.trans s3)
  |fill i x t b'=>
   obtain ⟨q',h1,h2⟩:=rv;obtain ⟨g1,g2,g3⟩:=gr;obtain ⟨d,rb,hd,hrb,kL,kI⟩:=res;have sq:=Gv (K:=K) h1;have b0:0<b':=by have:=g3.am.b1;lia
   have M0:=o.so.m0;obtain ⟨vs,v,hl,vl,hv,a1,mm,nn,ms,ys,rfl,ha1,hmm,pr,mx,hnn⟩:=o.st.get hd;have okd:=o.so.ok d (Al hd);obtain ⟨kv0,k1,k2,k3,k4⟩:=aCq pr;have nd0:(kv0.map (·.1)).Nodup:=by
    rw [k2];exact Cu.mpr (mx.nd.imp λh e=>h (AM.inj e))
   obtain ⟨n0,sm⟩:=o.so.small hd hrb (o.bs.rm.at hrb);have tS:sumN M ys=tot ws d.1:=hU o.bs.ww.nd mx okd.inw;refine ⟨a,_,_,rfl,sq,rfl,rfl,_,rfl,iteF ⟨a,_,_,rfl,sq,rfl,rfl,_,rfl,iteF ⟨a,_,_,rfl,sq,rfl,rfl,_,rfl,iteT ⟨_,rfl,a,_,_,rfl,sq,rfl,l,_,(i:Int),.ref a1,rfl,rfl,Gw hl,aW hv,a1,_,0,.ref mm,rfl,rfl,Gv ha1,rfl,mm,ms,kv0,rfl,hmm,k1,nd0,k3,λp np=>?_⟩⟩⟩⟩;have s1:=Gu (o:=.dK kv0) np;have da1:DA (upd H p (.dK kv0)) M ys kv0 (ys.map (·.1)):=⟨⟨k2,mx.nd⟩,λy=>Iff.rfl,λy hy=>by
    obtain ⟨x',hx,rfl⟩:=AE.mp hy;obtain ⟨q2,mq,hq'⟩:=k4 x' hx;refine ⟨q2,_,_,oV nd0 mq,s1 _ _ hq',?_⟩;rw [mx.nw];exact mx.fr x' hx⟩
   refine ⟨p,kv0,ys.map (·.1),M,ys,rfl,aB,da1,M0,o.so.bm.mono (by lia),mx.over,by rw [tS];exact sm.mono (by lia),λli tl bl H2 s2 hli frl=>?_⟩;rw [tS] at frl;have s02:=s1.trans s2;have fsm:=dE M0 frl;have bl1:=frl.am.b1;have tw:Tw K H2 li q' tl bl t b':=⟨Gv hli,Gv (s02 _ _ h2),frl.am,g3.am,(sm.le frl.am.t0 fsm.1).mono (by lia),(o.so.bm.le (by lia) fsm.2).mono (by lia),g3.bt.mono (by decide),g3.bb.mono (by decide)⟩;refine ⟨_,rfl,a,_,_,rfl,Gv (s02 _ _ h1),rfl,li,q',tl,bl,t,b',rfl,tw,_,rfl,?_⟩;rw [sW M0 frl];refine ite2 (λc=>?_) (λc=>?_)
   ·have c':¬ tot ws d.1*b'<t*M:=λz=>by rw [decide_eq_true z] at c;cases c
    refine ⟨a,_,_,rfl,Gv (s02 _ _ h1),rfl,zLn3,λt3 nt3=>⟨zLn2,λzz nzz=>?_⟩⟩;have w1:=Gu (o:=.tup [.str "low",.int ((i:Nat):Int),.non]) nt3;have w2:=Gu (o:=.tup [.ref t3,.non]) nzz;exact kL c' zz t3 _ ((s02.trans w1).trans w2) aB (w2 _ _ aB)
   ·have c':tot ws d.1*b'<t*M:=Bg λz=>c (by rw [decide_eq_false z];rfl)
    have f1:Fr b' t b' t:=⟨g3.am,by rw [BD]⟩;obtain ⟨le,fo⟩:=fY (M1:=b') (M2:=M) b0 M0 f1 frl (by lia);rw [BD b' M] at fo;refine ⟨_,rfl,_,rfl,a,_,_,rfl,Gv (s02 _ _ h1),rfl,λdd ndd=>?_⟩;have s3:=Gu (o:=.dK []) ndd;have s03:=s02.trans s3;refine ⟨a,_,_,rfl,Gv (s03 _ _ h1),rfl,a,_,_,rfl,Gv (s03 _ _ h1),rfl,_,rfl,q',li,t,b',tl,bl,rfl,⟨Gv (s03 _ _ h2),Gv (s3 _ _ hli),tw.a2,tw.a1,tw.st2,tw.sb2,tw.st1,tw.sb1⟩,le,λpo H4 s4 hpo=>⟨s4 _ _ aB,[(.inr x,.ref po)],rfl,by show 1<=15;decide,?_⟩⟩;have dd4:=s4 _ _ (aB (H:=H2) (a:=dd) (o:=.dK []));have dd0:H dd=none:=sm0 s02 ndd;have s5:Same H (upd H4 dd (.dK [(.inr x,.ref po)])):=λc o hc=>by
     rw [aK λe=>by rw [e,dd0] at hc;cases hc];exact (s03.trans s4) _ _ hc
    have pod:po≠dd:=λe=>by rw [e,dd4] at hpo;cases hpo
    have po5:=(aK (H:=H4) (o:=.dK [(.inr x,.ref po)]) pod).trans hpo;refine ⟨a,_,_,rfl,Gv (s5 _ _ h1),rfl,zLn1,λnl nnl=>?_⟩;have s6:=Gu (o:=.lst [.str x]) nnl;have Mb:=Cp M0 b0;refine ⟨b,r,q,l,dd,nl,rs,us,ps,rbs,ws,M*b',scl b' S,i,_,rb,_,[x],[(x,_,_)],[x],rfl,law1 (o.keep (s5.trans s6)) hd hrb g2 fo (by lia) (((g3.bt.mul o.so.bm).le (by lia) (by have:=Bv n0 (Int.le_of_lt b0);lia)).mono (by lia)) b0 g3.bb (s6 _ _ aB) (s6 _ _ po5) aB,?_⟩;rw [nw1 Mb fo];exact (kI c').mono (s5.trans s6)
  |pour i j t b'=>
   obtain ⟨q',h1,h2⟩:=id rv;obtain ⟨di,dj,rbj,k1,k2,k3,k4,k5⟩:=res;have sq:=Gv (K:=K) h1;refine ⟨a,_,_,rfl,sq,rfl,rfl,_,rfl,iteF ⟨a,_,_,rfl,sq,rfl,rfl,_,rfl,iteT ⟨_,rfl,_,rfl,_,rfl,?_⟩⟩⟩;exact ⟨b,r,q,l,a,rs,us,ps,rbs,ws,M,S,β,i,j,t,b',di,dj,rbj,rfl,o,rv,gr,k1,k2,k3,k4,k5⟩
  |empty i=>
   have h1:H a=some (.tup [.str "empty",.int ((i:Nat):Int)]):=rv;obtain ⟨d,hd,k⟩:=res;have sq:=Gv (K:=K) h1;obtain ⟨vs,v,hl,vl,hv,a1,mm,nn,ms,ys,rfl,ha1,hmm,pr,mx,hnn⟩:=o.st.get hd;have il:=(Ad.mp hv).1;refine ⟨a,_,_,rfl,sq,rfl,rfl,_,rfl,iteF ⟨a,_,_,rfl,sq,rfl,rfl,_,rfl,iteF ⟨a,_,_,rfl,sq,rfl,rfl,_,rfl,iteF ⟨_,rfl,l,_,rfl,.inl (Gw hl),λfl nfl=>?_⟩⟩⟩⟩;obtain ⟨H1,eH1,s1,hfl⟩:=updX (o:=.lst vs) nfl;rw [eH1];refine ⟨a,_,_,rfl,Gv (s1 _ _ h1),rfl,rfl,_,rfl,iteF ⟨zLn0,λe0 ne0=>?_⟩⟩;obtain ⟨H2,eH2,s2,he0⟩:=updX (o:=.tup []) ne0;rw [eH2];have s02:=s1.trans s2;refine ⟨_,rfl,a,_,_,rfl,Gv (s02 _ _ h1),rfl,fl,_,(i:Int),.ref a1,rfl,rfl,Gw (s2 _ _ hfl),aW hv,a1,_,1,.ref nn,rfl,rfl,Gv (s02 _ _ ha1),rfl,zLn0,λe1 ne1=>⟨zLn2,λll nll=>?_⟩⟩;have s3:=Gu (o:=.tup []) ne1;have s4:=Gu (o:=.lst [.ref nn,.ref e1]) nll;have s24:=s3.trans s4;have s04:=s02.trans s24;refine ⟨a,_,_,rfl,Gv (s04 _ _ h1),rfl,rfl,.inr ⟨_,rfl,ll,_,0,.ref nn,rfl,rfl,Gw aB,rfl,zLn2,λzt nzt=>?_⟩⟩;have s5:=Gu (o:=.tup [.ref e0,.ref nn]) nzt;have hfl5:=(s24.trans s5) _ _ (s2 _ _ hfl);have he05:=(s24.trans s5) _ _ he0;have s05:=s04.trans s5;have hn5:=s05 _ _ hnn;have hzt:upd _ zt (.tup [.ref e0,.ref nn]) zt=some (.tup [.ref e0,.ref nn]):=aB (H:=upd (upd H2 e1 (.tup [])) ll (.lst [.ref nn,.ref e1]));generalize upd (upd (upd H2 e1 (.tup [])) ll (.lst [.ref nn,.ref e1])) zt (.tup [.ref e0,.ref nn])=H5 at s05 hfl5 he05 hn5 hzt ⊢;refine ⟨_,rfl,a,_,_,rfl,Gv (s05 _ _ h1),rfl,fl,vs,(i:Int),i,rfl,rfl,hfl5,gH il,?_⟩;refine ⟨_,rfl,zLn2,λzz nzz=>?_⟩;have fl0:H fl=none:=nfl;have sF:Same H (upd (upd H5 fl (.lst (vs.set i (.ref zt)))) zz (.tup [.non,.ref fl])):=λc o hc=>(Gu nzz) _ _ (by rw [aK (λe=>by rw [e,fl0] at hc;cases hc)];exact s05 _ _ hc);have tkF:Tk H5 (upd (upd H5 fl (.lst (vs.set i (.ref zt)))) zz (.tup [.non,.ref fl])):=λc ts hc=>(Gu nzz) _ _ (by rw [aK (λe=>by rw [e,hfl5] at hc;cases hc)];exact hc);exact k zz fl _ sF fl0 aB (o.st.put hl sF ((Gu nzz) _ _ aB) ⟨zt,e0,nn,[],[],rfl,tkF _ _ hzt,tkF _ _ he05,.nil,lH,tkF _ _ hn5⟩)
  |rinse i=>
   have h1:H a=some (.tup [.str "rinse",.int ((i:Nat):Int)]):=rv;obtain ⟨d,hd,kB,kG⟩:=res;have sq:=Gv (K:=K) h1;obtain ⟨vs,v,hl,vl,hv,a1,mm,nn,ms,ys,rfl,ha1,hmm,pr,mx,hnn⟩:=o.st.get hd;have il:=(Ad.mp hv).1;refine ⟨a,_,_,rfl,sq,rfl,rfl,_,rfl,iteF ⟨a,_,_,rfl,sq,rfl,rfl,_,rfl,iteF ⟨a,_,_,rfl,sq,rfl,rfl,_,rfl,iteF ⟨_,rfl,l,_,rfl,.inl (Gw hl),λfl nfl=>?_⟩⟩⟩⟩;obtain ⟨H1,eH1,s1,hfl⟩:=updX (o:=.lst vs) nfl;rw [eH1];have pl:=pr.length;refine ⟨a,_,_,rfl,Gv (s1 _ _ h1),rfl,rfl,_,rfl,iteT ⟨_,rfl,a,_,_,rfl,Gv (s1 _ _ h1),rfl,fl,_,(i:Int),.ref a1,rfl,rfl,Gw hfl,aW hv,a1,_,0,.ref mm,rfl,rfl,Gv (s1 _ _ ha1),rfl,zLn0,λx0 nx0=>⟨mm,x0,_,rfl,rfl,Gv ((Gu nx0) _ _ (s1 _ _ hmm)),Gv aB,_,rfl,ite2 (λc=>?_) (λc=>?_)⟩⟩⟩
   ·have ne:¬ (∀ y,d.1 y=0):=λz=>by
     have:=(fU mx).mpr z;subst this;have:ms=[]:=Bm.mp pl;subst this;exact absurd c (by decide)
    have w0:=Gu (o:=.tup []) nx0;refine ⟨a,_,_,rfl,Gv ((s1.trans w0) _ _ h1),rfl,zLn3,λt3 nt3=>⟨zLn2,λzz nzz=>?_⟩⟩;have w1:=Gu (o:=.tup [.str "wet",.int ((i:Nat):Int),.non]) nt3;have w2:=Gu (o:=.tup [.ref t3,.non]) nzz;exact kB ne zz t3 _ (((s1.trans w0).trans w1).trans w2) aB (w2 _ _ aB)
   have em:ms=[]:=by
    cases ms with
    |nil=>rfl
    |cons u r=>exact absurd rfl c
   have zr:∀ y,d.1 y=0:=(fU mx).mp (Bm.mp (by rw [<- pl,em];rfl));have k:=kG zr;have w0:=Gu (o:=.tup []) nx0;replace s1:=s1.trans w0;replace hfl:=w0 _ _ hfl;generalize upd H1 x0 (.tup [])=H1' at s1 hfl ⊢;refine ⟨zLn0,λe0 ne0=>?_⟩;obtain ⟨H2,eH2,s2,he0⟩:=updX (o:=.tup []) ne0;rw [eH2];have s02:=s1.trans s2;refine ⟨_,rfl,a,_,_,rfl,Gv (s02 _ _ h1),rfl,fl,_,(i:Int),.ref a1,rfl,rfl,Gw (s2 _ _ hfl),aW hv,a1,_,1,.ref nn,rfl,rfl,Gv (s02 _ _ ha1),rfl,zLn0,λe1 ne1=>⟨zLn2,λll nll=>?_⟩⟩;have s3:=Gu (o:=.tup []) ne1;have s4:=Gu (o:=.lst [.ref nn,.ref e1]) nll;have s24:=s3.trans s4;have s04:=s02.trans s24;refine ⟨a,_,_,rfl,Gv (s04 _ _ h1),rfl,rfl,.inr ⟨_,rfl,ll,_,1,.ref e1,rfl,rfl,Gw aB,rfl,zLn2,λzt nzt=>?_⟩⟩;have s5:=Gu (o:=.tup [.ref e0,.ref e1]) nzt;have hfl5:=(s24.trans s5) _ _ (s2 _ _ hfl);have he05:=(s24.trans s5) _ _ he0;have s05:=s04.trans s5;have he1:upd (upd H2 e1 (.tup [])) ll (.lst [.ref nn,.ref e1]) e1=some (.tup []):=s4 _ _ aB;have hn5:=s5 _ _ he1;have hzt:upd _ zt (.tup [.ref e0,.ref e1]) zt=some (.tup [.ref e0,.ref e1]):=aB (H:=upd (upd H2 e1 (.tup [])) ll (.lst [.ref nn,.ref e1]));generalize upd (upd (upd H2 e1 (.tup [])) ll (.lst [.ref nn,.ref e1])) zt (.tup [.ref e0,.ref e1])=H5 at s05 hfl5 he05 hn5 hzt ⊢;refine ⟨_,rfl,a,_,_,rfl,Gv (s05 _ _ h1),rfl,fl,vs,(i:Int),i,rfl,rfl,hfl5,gH il,?_⟩;refine ⟨_,rfl,zLn2,λzz nzz=>?_⟩;have fl0:H fl=none:=nfl;have sF:Same H (upd (upd H5 fl (.lst (vs.set i (.ref zt)))) zz (.tup [.non,.ref fl])):=λc o hc=>(Gu nzz) _ _ (by rw [aK (λe=>by rw [e,fl0] at hc;cases hc)];exact s05 _ _ hc);have tkF:Tk H5 (upd (upd H5 fl (.lst (vs.set i (.ref zt)))) zz (.tup [.non,.ref fl])):=λc ts hc=>(Gu nzz) _ _ (by rw [aK (λe=>by rw [e,hfl5] at hc;cases hc)];exact hc);exact k zz fl _ sF fl0 aB (o.st.put hl sF ((Gu nzz) _ _ aB) ⟨zt,e0,e1,[],[],rfl,tkF _ _ hzt,tkF _ _ he05,.nil,lH,tkF _ _ hn5⟩)
end
inductive spOFill (C c1 c3 c4:Gj)(vs:Gq)(H:Hp)(Q:VK)(E:XK):Prop
 |mk (p dx b r q l qa rs us ps rbs ws M S β i d rb x t b' n:_) (e0:vs=[.ref p,.ref b,.ref l,.int (n:Nat)]) (e1:n<1000) (e2:H p=some (.ins C dx (fs3 "phial" "ware" "level" (.int (i:Nat)) (.str x) (.ref qa)))) (e3:H qa=some (.tup [.int t,.int b'])) (e4:RwA t b') (e5:x∈ws) (e6:OnIn H b r q l rs us ps rbs ws M S β) (e7:S[i]?=some d) (e8:rbs[i]?=some rb) (e9:(¬ tot ws d.1*b'<t*M->BadE c1 [("phial",.int (i:Nat)),("place",.int (n:Nat))] H E)) (e10:(tot ws d.1*b'<t*M->IntoR c3 c4 us ps ws (M*b') (scl b' S) i (λy=>d.1 y*b',d.2) rb (oneW x (t*M-tot ws d.1*b')) [x] n H Q E)):spOFill C c1 c3 c4 vs H Q E
inductive spOPour (C c0 c3 c4:Gj)(vs:Gq)(H:Hp)(Q:VK)(E:XK):Prop
 |mk (p dx b r q l qa rs us ps rbs ws M S β i j t b' di dj rbj n:_) (e0:vs=[.ref p,.ref b,.ref l,.int (n:Nat)]) (e1:n<1000) (e2:H p=some (.ins C dx (fs3 "one" "other" "part" (.int (i:Nat)) (.int (j:Nat)) (.ref qa)))) (e3:H qa=some (.tup [.int t,.int b'])) (e4:RwA t b') (e5:1<=t) (e6:t<=b') (e7:i≠j) (e8:OnIn H b r q l rs us ps rbs ws M S β) (e9:S[i]?=some di) (e10:S[j]?=some dj) (e11:rbs[j]?=some rbj) (e12:((∀ y,di.1 y=0)->BadE c0 [("phial",.int (i:Nat)),("place",.int (n:Nat))] H E)) (e13:(¬ (∀ y,di.1 y=0)->IntoR c3 c4 us ps ws (M*b') ((scl b' S).set i (λy=>di.1 y*b'-di.1 y*t,di.2)) j (λy=>dj.1 y*b',dj.2) rbj (λy=>di.1 y*t) di.2 n H Q E)):spOPour C c0 c3 c4 vs H Q E
theorem pT {H:Hp}(g:Str×Int×Int->Str×Int×Int):∀ {ys:Gc} {vs:Gq},vs.length=ys.length->(∀ (i:Nat) y v,ys[i]?=some y->vs[i]?=some v->Pr H v (g y))->PrL H vs (ys.map g)
 |[],[],_,_=>.nil
 |y::ys,v::vs,hl,h=>.cons (h 0 y v rfl rfl) (pT g (by simpa using hl) λi y v hy hv=>h (i+1) y v (by simpa using hy) (by simpa using hv))
def mt (t b:Int):Int:=(1*b-t*1)/G (1*b-t*1) (1*b)
def mb (t b:Int):Int:=1*b/G (1*b-t*1) (1*b)
def sf (t b:Int)(y:Str×Int×Int):Str×Int×Int:=(y.1,y.2.1*mt t b/G (y.2.1*mt t b) (y.2.2*mb t b),y.2.2*mb t b/G (y.2.1*mt t b) (y.2.2*mb t b))
def mtb {t b:Int}(a:Amt t b)(tb:t<=b):t*1<=1*b/\Amt (mt t b) (mb t b)/\mt t b*b=(b-t)*mb t b:=by
 have b1:=a.b1;have f1:Fr 1 1 1 1:=⟨⟨by decide,by decide,by decide +kernel⟩,rfl⟩;have f2:Fr b t b t:=⟨a,by rw [BD]⟩;obtain ⟨h1,h2⟩:=fY (M1:=1) (M2:=b) (by decide) (by lia) f1 f2 (by lia);refine ⟨h1,h2.am,?_⟩;have:=h2.e;unfold mt mb;simp only [Int.one_mul,Int.mul_one] at this ⊢;exact this
def aIo {M N t b:Int}{y:Str×Int×Int}(M0:0<M)(h:Fr M y.2.1 y.2.2 N)(a:Amt t b)(tb:t<=b):Fr (M*b) (sf t b y).2.1 (sf t b y).2.2 (N*b-N*t):=by
 obtain ⟨_,am,e⟩:=mtb a tb;have m1:=am.b1;refine iU (sV M0 h am) (Cp M0 (by lia)) ?_;generalize mt t b=x at *
 generalize mb t b=z at *
 calc N*x*(M*b)=N*M*(x*b):=by grind
  _=N*M*((b-t)*z):=by rw [e]
  _=(N*b-N*t)*(M*z):=by grind
section
variable {P:Aw}{w:World}{K:Ab}{mg:Gb}{base:Heap}{cP c0 c1 c2 c3 c4 c5 f0 f1 f2 f3 f4 f5 C:Gj}
abbrev Nof:Gh:=["self","bench","phials","place","lies","comes"]
def pD:FnScope Nof Non (aH wA):=fnScOk (by decide +kernel)
def aBf {f:Gj}{fd g1:Az}(F:Fun K "onto_at" "Fill.onto_at" wA f fd)(D:DCl K C ["phial","ware","level"])(R:ErB K mg cP c0 c1 c2 c3 c4 c5 f0 f1 f2 f3 f4 f5)(F1:FnOk P w K mg base CX0 1 f1 g1 ["self","place","phial"] (spI2 c1))(b1:Binds K g1 ["self","place","phial"] [])
  (cW:Cal P w K mg base CX0 6 "whole" ["one"] (lV K)) (cL:Cal P w K mg base CX0 6 "less" ["one","other"] (spLess K)) (cMi:Cal P w K mg base CX0 6 "minus" ["one","other"] (spMinus K)) (cM:Cal P w K mg base (CXg P w) 6 "with_more" ["bench","phials","phial","comes","names","place"] (spMore K c3 c4)):FnOk P w K mg base (CXg P w) 7 f fd Non (spOFill C c1 c3 c4):=by
 refine F.okFA pD (λcdv A outer s H vs Q E hr h=>?_)
 ·obtain ⟨p,dx,b,r,q,l,qa,rs,us,ps,rbs,ws,M,S,β,i,d,rb,x,t,b',n,rfl,hn,hp,hqa,ra,xw,o,hd,hrb,kB,kI⟩:=h
  refine ⟨_,(aD (aJ (i:=4) pD.nd (aI cW hr (aA (aZ cY (aZ aX (pv 2) (cZ (pv 0) rfl) (λ_ _=>rfl)) aG (λ_ _=>rfl)) aC)))
   (aD (bH (fJ (eA (aI cL hr (aA (pv 4) (aA (cZ (pv 0) rfl) aC)))))
    (aE (eS (k:=1) rfl xe_f rfl (hr.mono (by decide)) rfl R.m1 (R.r1.e "place" (by simp)).i F1 b1 (aA (pv 3) (aA (cZ (pv 0) rfl) aC))))
    aQ)
   (aD (aJ (i:=5) pD.nd (aU (aA (aU (aA (cZ (pv 0) rfl) (aA (aI cMi hr (aA (cZ (pv 0) rfl) (aA (pv 4) aC))) aC))) aC)))
   (aE (aM (jX cM hr rfl lG (aA (pv 1) (aA (pv 2) (aA (cZ (pv 0) rfl) (aA (pv 5) (aA (aU (aA (cZ (pv 0) rfl) aC)) (aA (pv 3) aC)))))))))))),?_⟩
  have E1:=aFj (f1:="phial") (f2:="ware") (f3:="level") (u1:=.int (i:Nat)) (u2:=.str x) (u3:=.ref qa) (by decide +kernel) (by decide +kernel);have E2:=aFi (f1:="phial") (f2:="ware") (f3:="level") (u1:=.int (i:Nat)) (u2:=.str x) (u3:=.ref qa) (by decide +kernel);have E3:=aFh (f1:="phial") (f2:="ware") (f3:="level") (u1:=.int (i:Nat)) (u2:=.str x) (u3:=.ref qa);obtain ⟨vs,v,hl,vl,hv,a,mm,nn,ms,ys,rfl,ha,hm,pr,mx,hnn⟩:=o.st.get hd;have M0:=o.so.m0;have b24:=o.b24;have okd:=o.so.ok d (Al hd);have oy:=mx.over;obtain ⟨n0,sm⟩:=o.so.small hd hrb (o.bs.rm.at hrb);have tS:sumN M ys=tot ws d.1:=hU o.bs.ww.nd mx okd.inw;have b0:0<b':=by have:=ra.am.b1;lia
  have i16:i<16:=by
   have h1:=(Ad.mp hd).1;have h2:=o.bs.bn.l16;have h3:=o.so.sl;have h4:=o.bs.rm.1;lia
  refine ⟨_,rfl,_,rfl,p,C,dx,_,_,rfl,hp,D.cl,D.na _ (by simp),E1,l,_,(i:Int),.ref a,rfl,rfl,Gw hl,aW hv,a,_,0,.ref mm,rfl,rfl,Gv ha,rfl,mm,ms,ys,M,rfl,Gv hm,pr,oy,M0,o.so.bm.mono (by lia),λj=>?_,λli tl bl H1 s1 hli frl=>?_⟩
  ·exact (sm.le (bU M0 (oy.take j)) (by rw [<- tS];exact fM M0 j oy)).mono (by lia)
  rw [tS] at frl;have fsm:=dE M0 frl;have bl1:=frl.am.b1;have tw:Tw K H1 li qa tl bl t b':=⟨hli,Gv (s1 _ _ hqa),frl.am,ra.am,(sm.le frl.am.t0 fsm.1).mono (by lia),(o.so.bm.le (by lia) fsm.2).mono (by lia),ra.bt.mono (by decide),ra.bb.mono (by decide)⟩;refine ⟨_,rfl,_,rfl,p,C,dx,_,_,rfl,s1 _ _ hp,D.cl,D.na _ (by simp),E3,li,qa,tl,bl,t,b',rfl,tw,_,rfl,?_⟩;rw [sW M0 frl];refine ite2 (λc=>?_) (λc=>?_)
  ·have c':¬ tot ws d.1*b'<t*M:=λz=>by rw [decide_eq_true z] at c;cases c
   exact ⟨_,rfl,_,rfl,p,C,dx,_,_,rfl,s1 _ _ hp,D.cl,D.na _ (by simp),E1,wM hn (by lia) ((kB c').mono s1)⟩
  ·have c':tot ws d.1*b'<t*M:=Bg λz=>c (by rw [decide_eq_false z];rfl)
   have f1:Fr b' t b' t:=⟨ra.am,by rw [BD]⟩;obtain ⟨le,fo⟩:=fY (M1:=b') (M2:=M) b0 M0 f1 frl (by lia);rw [BD b' M] at fo;refine ⟨_,rfl,p,C,dx,_,_,rfl,s1 _ _ hp,D.cl,D.na _ (by simp),E2,_,rfl,p,C,dx,_,_,rfl,s1 _ _ hp,D.cl,D.na _ (by simp),E3,_,rfl,qa,li,t,b',tl,bl,rfl,tw.flip,le,λpo H2 s2 hpo=>⟨zLn2,λpr npr=>⟨zLn1,λcm ncm=>?_⟩⟩⟩;have s3:=Gu (o:=.tup [.str x,.ref po]) npr;have s4:=Gu (o:=.tup [.ref pr]) ncm;have s04:=((s1.trans s2).trans s3).trans s4;refine ⟨_,rfl,_,rfl,_,rfl,p,C,dx,_,_,rfl,s04 _ _ hp,D.cl,D.na _ (by simp),E1,_,rfl,_,rfl,p,C,dx,_,_,rfl,s04 _ _ hp,D.cl,D.na _ (by simp),E2,zLn1,λnm nnm=>⟨_,rfl,?_⟩⟩;have s5:=Gu (o:=.tup [.str x]) nnm;have s05:=s04.trans s5;have Mb:=Cp M0 b0;have kI':=(kI c').mono s05;have bN:Bt 2600 (t*M-tot ws d.1*b'):=((ra.bt.mul o.so.bm).le (by lia) (by have:=Bv n0 (Int.le_of_lt b0);lia)).mono (by lia);have e:=nw1 (x:=x) Mb fo;rw [<- e] at kI';refine ⟨b,r,q,l,cm,nm,rs,us,ps,rbs,ws,M*b',scl b' S,i,_,rb,[.ref pr],[(x,_,_)],[x],n,rfl,hn,aHq (o.keep s05) hd hrb xw fo.dvd fo.am b0 ?_ ra.bb (s5 _ _ aB) ((s4.trans s5) _ _ aB) (((s3.trans s4).trans s5) _ _ hpo) aB,kI'.1,kI'.2⟩;rw [e];unfold oneW;rw [if_pos rfl];exact bN
abbrev Nop:Gh:=["self","bench","phials","place","holds","names","goes","stays","behind"]
def iB:FnScope Nop Non (aH jM):=fnScOk (by decide +kernel)
def ndp:(["ware","many","self"]:Gh).Nodup:=by decide +kernel
def aBe {f aO:Gj}{fd g0:Az}(F:Fun K "onto_at" "Pour.onto_at" jM f fd)(T:Txt mg)(D:DCl K C ["one","other","part"])(mO:mg "ONE" = some (.ref aO))(sO:∀ H:Hp,SqT K H aO [.int 1,.int 1])(R:ErB K mg cP c0 c1 c2 c3 c4 c5 f0 f1 f2 f3 f4 f5)(F0:FnOk P w K mg base CX0 1 f0 g0 ["self","place","phial"] (spI2 c0))(b0':Binds K g0 ["self","place","phial"] [])
  (cT:Cal P w K mg base CX0 6 "times" ["one","other"] (spTimes K)) (cMi:Cal P w K mg base CX0 6 "minus" ["one","other"] (spMinus K)) (cX:Cal P w K mg base CX0 6 "mixture" ["pairs"] (iZ K)) (cH:Cal P w K mg base CX0 6 "with_phial" ["phials","phial","holds","names"] spWith) (cM:Cal P w K mg base (CXg P w) 6 "with_more" ["bench","phials","phial","comes","names","place"] (spMore K c3 c4)):FnOk P w K mg base (CXg P w) 7 f fd Non (spOPour C c0 c3 c4):=by
 refine F.okFA iB (λcdv A outer s H vs Q E hr h=>?_)
 ·obtain ⟨p,dx,b,r,q,l,qa,rs,us,ps,rbs,ws,M,S,β,i,j,t,b',di,dj,rbj,n,rfl,hn,hp,hqa,ra,t1,tb,ij,o,hdi,hdj,hrj,kD,kI⟩:=h
  refine ⟨_,(aD (aJ (i:=4) iB.nd (aZ cY (aZ aX (pv 2) (cZ (pv 0) rfl) (λ_ _=>rfl)) aG (λ_ _=>rfl)))
   (aD (aJ (i:=5) iB.nd (aZ cY (aZ aX (pv 2) (cZ (pv 0) rfl) (λ_ _=>rfl)) aG (λ_ _=>rfl)))
   (aD (bH (aL (xI hr.units) (pv 4) (aU aC))
    (aE (eS (k:=1) rfl xe_f rfl (hr.mono (by decide)) rfl R.m0 (R.r0.e "place" (by simp)).i F0 b0' (aA (pv 3) (aA (cZ (pv 0) rfl) aC))))
    aQ)
   (aD (rN (iy:=6) (N':=["ware","many","self"]) (g:=gTup K 2 (qG (gName 0) (qG (gName 1) gNil))) (λZ=>[none,none,some 0].map λt=>t.bind λj=>(Z[j]?).join) rfl rfl (by decide +kernel) (by decide +kernel)
     (kY (sc:=aH jM) rfl (by decide +kernel)) (λ_ _ _=>eR (sc:=aH jM) (N:=Nop) [none,none,some 0] rfl rfl rfl rfl (by decide +kernel))
     (gC (pv 4)) (λ_ _ _ _ _ _=>fR rfl (bE (gE (i:=0) ndp rfl (Or.inl rfl) (Or.inr rfl)) (bE (gE (i:=1) ndp rfl (Or.inl rfl) (Or.inr rfl)) eD)))
     (λ_ _ _ _ _ _=>dY)
     (λ_ _ _ _ _ _=>aU (aA (pv 0) (aA (aI cT hr (aA (pv 1) (aA (wW (K:=K) rfl (pv 2) rfl) aC))) aC))) iB.nd rfl (Or.inl rfl) (Or.inr rfl) rfl)
   (aD (rN (iy:=7) (N':=["ware","many","self"]) (g:=gTup K 2 (qG (gName 0) (qG (gName 1) gNil))) (λZ=>[none,none,some 0].map λt=>t.bind λj=>(Z[j]?).join) rfl rfl (by decide +kernel) (by decide +kernel)
     (kY (sc:=aH jM) rfl (by decide +kernel)) (λ_ _ _=>eR (sc:=aH jM) (N:=Nop) [none,none,some 0] rfl rfl rfl rfl (by decide +kernel))
     (gC (pv 4)) (λ_ _ _ _ _ _=>fR rfl (bE (gE (i:=0) ndp rfl (Or.inl rfl) (Or.inr rfl)) (bE (gE (i:=1) ndp rfl (Or.inl rfl) (Or.inr rfl)) eD)))
     (λ_ _ _ _ _ _=>dY)
     (λ_ _ _ _ _ _=>aU (aA (pv 0) (aA (aI cT hr (aA (pv 1) (aA (aI cMi hr (aA (fD (v:=.ref aO) rfl mO rfl) (aA (wW (K:=K) rfl (pv 2) rfl) aC))) aC))) aC))) iB.nd rfl (Or.inl rfl) (Or.inr rfl) rfl)
   (aD (aJ (i:=8) iB.nd (jX cM hr rfl lG (aA (pv 1) (aA (pv 2) (aA (cZ (pv 0) rfl) (aA (aV bG rfl T.tup' dB (aA (pv 6) aC)) (aA (pv 5) (aA (pv 3) aC))))))))
   (aE (aM (aI cH hr (aA (pv 8) (aA (cZ (pv 0) rfl) (aA (aI cX hr (aA (pv 7) aC)) (aA (pv 5) aC))))))))))))),?_⟩
  have E1:=aFj (f1:="one") (f2:="other") (f3:="part") (u1:=.int (i:Nat)) (u2:=.int (j:Nat)) (u3:=.ref qa) (by decide +kernel) (by decide +kernel);have E2:=aFi (f1:="one") (f2:="other") (f3:="part") (u1:=.int (i:Nat)) (u2:=.int (j:Nat)) (u3:=.ref qa) (by decide +kernel);have E3:=aFh (f1:="one") (f2:="other") (f3:="part") (u1:=.int (i:Nat)) (u2:=.int (j:Nat)) (u3:=.ref qa);obtain ⟨vs,v,hl,vl,hv,a,mm,nn,ms,ys,rfl,ha,hm,pr,mx,hnn⟩:=o.st.get hdi;have M0:=o.so.m0;have b24:=o.b24;have am:=ra.am;have okd:=o.so.ok di (Al hdi);have b0:0<b':=by have:=am.b1;lia
  have Mb:=Cp M0 b0;have pl:=pr.length;have fy:∀ y∈ys,Fr M y.2.1 y.2.2 (di.1 y.1):=mx.fr;have sl16:S.length<=16:=by rw [o.so.sl,<- o.bs.rm.1];exact o.bs.bn.l16
  have i16:i<16:=by
   have h1:=(Ad.mp hdi).1;lia
  have j16:j<S.length:=(Ad.mp hdj).1;obtain ⟨vi,hvi⟩:∃ vi,rs[i]?=some vi:=⟨_,Ae (by have:=(Ad.mp hdi).1;have:=o.so.sl;have:=o.bs.rm.1;lia)⟩;obtain ⟨rbi,hri,_,_,_,rmi⟩:=o.bs.rm.get hvi;obtain ⟨tn,tbt⟩:=o.so.small hdi hri rmi;refine ⟨_,rfl,_,rfl,p,C,dx,_,_,rfl,hp,D.cl,D.na _ (by simp),E1,l,_,(i:Int),.ref a,rfl,rfl,Gw hl,aW hv,a,_,0,.ref mm,rfl,rfl,Gv ha,rfl,?_⟩;refine ⟨_,rfl,_,rfl,p,C,dx,_,_,rfl,hp,D.cl,D.na _ (by simp),E1,l,_,(i:Int),.ref a,rfl,rfl,Gw hl,aW hv,a,_,1,.ref nn,rfl,rfl,Gv ha,rfl,?_⟩;refine ⟨_,rfl,zLn0,λz0 nz0=>⟨mm,z0,_,rfl,rfl,Gv ((Gu nz0) _ _ hm),Gv aB,_,rfl,ite2 (λc=>?_) (λc=>?_)⟩⟩
  ·have em:ms=[]:=by
    cases ms with
    |nil=>rfl
    |cons u r=>exact absurd c (by show ¬ (false=true);decide)
   have z:∀ y,di.1 y=0:=(fU mx).mp (Bm.mp (by rw [<- pl,em];rfl));have s1:=Gu (o:=.tup []) nz0;exact ⟨_,rfl,_,rfl,p,C,dx,_,_,rfl,s1 _ _ hp,D.cl,D.na _ (by simp),E1,wM hn (by lia) ((kD z).mono s1)⟩
  have ne:¬ (∀ y,di.1 y=0):=λz=>by
   have:=(fU mx).mpr z;subst this;have:ms=[]:=Bm.mp pl;subst this;exact absurd rfl c
  have kI':=kI ne;obtain ⟨H1,eH1,s1,_⟩:=updX (o:=.tup []) nz0;rw [eH1];have yl:ys.length<=7:=AR (yG mx okd.inw) o.bs.ww.l;have ysm:∀ y∈ys,Bt 2600 (di.1 y.1)/\Bt 4000 y.2.1/\Bt 4000 y.2.2:=λy ym=>by
   have yS:di.1 y.1<=tot ws di.1:=by
    have e1:=(hU o.bs.ww.nd mx okd.inw);have e2:=(qR M0 mx.over ys.length y.1).2;rw [Bz,mx.nw] at e2;lia
   have ynn:=okd.nn y.1;have by1:Bt 2600 (di.1 y.1):=(tbt.le ynn yS).mono (by lia);have fyy:=fy y ym;have fsm:=dE M0 fyy;exact ⟨by1,(by1.le fyy.am.t0 fsm.1).mono (by decide),(o.so.bm.le (by have:=fyy.am.b1;lia) fsm.2).mono (by lia)⟩
  refine ⟨_,rfl,mm,rfl,⟨_,Gv (s1 _ _ hm)⟩,λgl ngl=>?_⟩;refine fZ (Ys.tup (Gv (K:=K) (s1 _ _ hm))) (λk _ y H=>∃ x,ys[k]?=some x/\Pr H y (zf t b' x)) (λ_ _ _ _ _ h tk=>by obtain ⟨x,e,h⟩:=h;exact ⟨x,e,h.keep tk⟩) ngl (by lia) (λk u H' R hu sm' hR=>?_) (λgvs H2 s2 hgl gvl hgv=>?_)
  ·obtain ⟨z,hz,pz,qz,rfl,h1,h2⟩:=pr.get hu
   have s':=s1.trans sm';have zm:=Al hz;obtain ⟨_,z1,z2⟩:=ysm z zm;refine ⟨pz,_,rfl,Gv (s' _ _ h1),rfl,_,_,rfl,_,_,rfl,rfl,((Keep.refl _).set rfl).set rfl,?_⟩;refine ⟨_,rfl,_,rfl,_,rfl,p,C,dx,_,_,rfl,s' _ _ hp,D.cl,D.na _ (by simp),E3,qz,qa,z.2.1,z.2.2,t,b',rfl,⟨Gv (s' _ _ h2),Gv (s' _ _ hqa),(fy z zm).am,am,z1,z2,ra.bt.mono (by decide),ra.bb.mono (by decide)⟩,λr' H5 s5 h5=>⟨zLn2,λl' hl'=>?_⟩⟩;exact hR _ _ (s5.trans (Gu hl')) ⟨z,hz,l',r',rfl,aB,Gu hl' _ _ h5⟩
  have prg:PrL H2 gvs (ys.map (zf t b')):=pT _ (by lia) λk y v hy hv'=>by
   obtain ⟨u',hu'⟩:∃ u',ms[k]?=some u':=⟨_,Ae (by have:=(Ad.mp hy).1;lia)⟩;obtain ⟨x,e,h⟩:=hgv k u' v hu' hv';rw [hy] at e;cases e;exact h
  have s02:=s1.trans s2;obtain ⟨mle,mam,me⟩:=mtb am tb;have mm1:=mam.b1;have mbS:Bt 4000 (mb t b'):=by
   have g0:=qS (a:=1*b'-t*1) (b:=1*b') (by lia);exact (ra.bb.le (by lia) (by unfold mb;rw [Int.one_mul];exact Da _ (by lia))).mono (by decide)
  have mtS:Bt 4000 (mt t b'):=by
   refine (ra.bb.le mam.t0 ?_).mono (by decide);unfold mt;exact Int.le_trans (Da _ (by lia)) (by lia)
  refine ⟨_,rfl,mm,rfl,⟨_,Gv (s02 _ _ hm)⟩,λsl nsl=>?_⟩;refine fZ (Ys.tup (Gv (K:=K) (s02 _ _ hm))) (λk _ y H=>∃ x,ys[k]?=some x/\Pr H y (sf t b' x)) (λ_ _ _ _ _ h tk=>by obtain ⟨x,e,h⟩:=h;exact ⟨x,e,h.keep tk⟩) nsl (by lia) (λk u H' R hu sm' hR=>?_) (λsvs H3 s3 hsl svl hsv=>?_)
  ·obtain ⟨z,hz,pz,qz,rfl,h1,h2⟩:=pr.get hu
   have s':=s02.trans sm';have zm:=Al hz;obtain ⟨_,z1,z2⟩:=ysm z zm;refine ⟨pz,_,rfl,Gv (s' _ _ h1),rfl,_,_,rfl,_,_,rfl,rfl,((Keep.refl _).set rfl).set rfl,?_⟩;refine ⟨_,rfl,_,rfl,_,rfl,p,C,dx,_,_,rfl,s' _ _ hp,D.cl,D.na _ (by simp),E3,aO,qa,1,1,t,b',rfl,⟨sO _,Gv (s' _ _ hqa),⟨by decide,by decide,by decide +kernel⟩,am,bR 4000 (c:=2) (by decide) (by decide),bR 4000 (c:=2) (by decide) (by decide),ra.bt.mono (by decide),ra.bb.mono (by decide)⟩,mle,λrm H4 s4 hrm=>?_⟩;refine ⟨qz,rm,z.2.1,z.2.2,mt t b',mb t b',rfl,⟨Gv ((s'.trans s4) _ _ h2),Gv hrm,(fy z zm).am,mam,z1,z2,mtS,mbS⟩,λr' H5 s5 h5=>⟨zLn2,λl' hl'=>?_⟩⟩;exact hR _ _ ((s4.trans s5).trans (Gu hl')) ⟨z,hz,l',r',rfl,aB,Gu hl' _ _ h5⟩
  have prs:PrL H3 svs (ys.map (sf t b')):=pT _ (by lia) λk y v hy hv'=>by
   obtain ⟨u',hu'⟩:∃ u',ms[k]?=some u':=⟨_,Ae (by have:=(Ad.mp hy).1;lia)⟩;obtain ⟨x,e,h⟩:=hsv k u' v hu' hv';rw [hy] at e;cases e;exact h
  have s03:=s02.trans s3;refine ⟨_,rfl,_,rfl,_,rfl,p,C,dx,_,_,rfl,s03 _ _ hp,D.cl,D.na _ (by simp),E2,_,rfl,gl,_,rfl,.inl ⟨Gw (s3 _ _ hgl),λgt ngt=>?_⟩⟩;obtain ⟨H4,eH4,s4,hgt⟩:=updX (o:=.tup gvs) ngt;rw [eH4];have s04:=s03.trans s4;have o4:=o.keep s04;have zm:(ys.map (zf t b')).map (·.1)=ys.map (·.1):=by rw [Ce];rfl
  have smm:(ys.map (sf t b')).map (·.1)=ys.map (·.1):=by rw [Ce];rfl
  have fz:∀ z∈ys.map (zf t b'),Fr (M*b') z.2.1 z.2.2 (di.1 z.1*t):=λz hz=>by
   obtain ⟨y,hy,rfl⟩:=AE.mp hz;exact aAj M0 (fy y hy) am
  have fs:∀ z∈ys.map (sf t b'),Fr (M*b') z.2.1 z.2.2 (di.1 z.1*b'-di.1 z.1*t):=λz hz=>by
   obtain ⟨y,hy,rfl⟩:=AE.mp hz;exact aIo M0 (fy y hy) am tb
  have nwz:NW (M*b') (ys.map (zf t b'))=λy=>di.1 y*t:=funext λy=>by
   rw [gR Mb (f:=λy=>di.1 y*t) (by rw [zm];exact mx.nd) fz,zm]
   by_cases c:y∈ys.map (·.1)
   ·rw [if_pos c]
   ·rw [if_neg c]
    have:di.1 y=0:=Bg λh=>c ((mx.mem y).mpr h);rw [this,Bo]
  have nws:NW (M*b') (ys.map (sf t b'))=λy=>di.1 y*b'-di.1 y*t:=funext λy=>by
   rw [gR Mb (f:=λy=>di.1 y*b'-di.1 y*t) (by rw [smm];exact mx.nd) fs,smm]
   by_cases c:y∈ys.map (·.1)
   ·rw [if_pos c]
   ·rw [if_neg c]
    have:di.1 y=0:=Bg λh=>c ((mx.mem y).mpr h);rw [this,Bo,Bo];rfl
  have sc:=o.so.scale b0 ra.bb;have bMb:Bt 2900 (M*b'):=(o.so.bm.mul ra.bb).mono (by lia);have nl:di.2.length<=7:=AR ((eN okd.srt).length_le_of_subset okd.nin) o.bs.ww.l;have hin:∀ y∈ys,y.1∈ws:=λy hy=>okd.inw y.1 ((mx.mem y.1).mp (Bq hy));refine ⟨_,rfl,_,rfl,b,r,q,l,gt,nn,rs,us,ps,rbs,ws,M*b',scl b' S,j,(λy=>dj.1 y*b',dj.2),rbj,gvs,ys.map (zf t b'),di.2,n,rfl,hn,?_,?_,?_⟩
  ·refine ⟨o4.bs.bn,o4.bs.rm,o.bs.ww,o4.st.scale M0 b0,by unfold scl;rw [Af,o.so.sl];exact o.bs.rm.1.symm,sc.ok,fN hdj,hrj,hgt,prg.keep (s3.trans s4).tk,λz hz=>⟨(fz z hz).am,(fz z hz).dvd⟩,λz hz=>?_,by rw [Af];exact yl,s04 _ _ hnn,okd.nin,by lia,Mb,bMb,?_⟩
   ·obtain ⟨y,hy,rfl⟩:=AE.mp hz
    exact hin y hy
   ·rw [nwz]
    show Bt 2900 (tot ws (λy=>dj.1 y*b'+di.1 y*t));rw [hV (λy=>dj.1 y*b') (λy=>di.1 y*t) ws,eY,eY];obtain ⟨_,tb2⟩:=o.so.small hdj hrj (o.bs.rm.at hrj);have h1:Bt 2800 (tot ws dj.1*b'):=(tb2.mul ra.bb).mono (by lia);have h2:Bt 2800 (tot ws di.1*t):=(tbt.mul ra.bt).mono (by lia);exact (h1.add h2).mono (by decide)
  ·rw [nwz]
   exact (kI'.mono s04).1
  ·rw [nwz]
   have kI4:=kI'.mono s04;refine λc nm' u=>⟨(kI4.2 c nm' u).1,λe l' H5 s5 nl' st5=>?_⟩;obtain ⟨vs5,hl5,vl5,hvs5⟩:=st5.ex;have s35:=s4.trans s5;have sumS:sumN (M*b') (ys.map (sf t b'))=tot ws (λy=>di.1 y*b'-di.1 y*t):=by
    rw [<- nws];exact (lQ o.bs.ww.nd λx hx=>by
     obtain ⟨y,hy,rfl⟩:=AE.mp hx;exact hin y hy).symm
   have ovs:Over (M*b') (ys.map (sf t b')):=λz hz=>⟨(fs z hz).am,(fs z hz).dvd⟩;refine ⟨_,rfl,_,rfl,p,C,dx,_,_,rfl,(s04.trans s5) _ _ hp,D.cl,D.na _ (by simp),E1,_,rfl,sl,svs,ys.map (sf t b'),M*b',rfl,Gw (s35 _ _ hsl),prs.keep s35.tk,by rw [Af];lia,ovs,Mb,bMb.mono (by decide),?_,λxm xs' xy H6 s6 hxm pxm mxm=>?_⟩
   ·have n1:=bU Mb ovs
    have h1:Bt 2800 (tot ws di.1*b'):=(tbt.mul ra.bb).mono (by lia);refine (h1.le n1 ?_).mono (by decide);rw [sumS,<- eY];have:∀ ws:Gh,tot ws (λy=>di.1 y*b'-di.1 y*t)<=tot ws (λy=>di.1 y*b'):=λws=>by
     induction ws with
     |nil=>exact Dy _
     |cons y r ih=>
      unfold tot at ih ⊢;rw [Ak,Ak,AH,AH];have:=Bv (okd.nn y) (show 0<=t by lia);lia
    exact this ws
   ·have st6:=st5.keep s6
    have svl:vs5.length<=20:=by
     rw [vl5,BM];unfold scl;rw [Af];lia
    have mxz:IsMx (M*b') (λy=>di.1 y*b'-di.1 y*t) xy:=by
     have:=IsMx.of mxm;rw [nws] at this;exact this
    have si:i<vs5.length:=by
     rw [vl5,BM];unfold scl;rw [Af];exact (Ad.mp hdi).1
    refine ⟨_,rfl,l',i,.ref xm,.ref nn,vs5,rfl,s6 _ _ hl5,si,svl,λl7 z7 H7 s7 nl7 hz7 hl7=>?_⟩;have s47:=(s5.trans s6).trans s7;refine (kI4.2 c nm' u).2 e l7 H7 s47 (sm0 (s5.trans s6) nl7) ?_;have:=st6.put (d:=(λy=>di.1 y*b'-di.1 y*t,di.2)) (s6 _ _ hl5) s7 hl7 ⟨z7,xm,nn,xs',xy,rfl,hz7,s7 _ _ hxm,pxm.keep s7.tk,mxz,(s04.trans s47) _ _ hnn⟩;rw [List.set_comm _ _ (Bi ij)] at this;exact this
end
def ResP (c0 c1 c2 c3 c4:Gj)(us:Gq)(ps:Gf)(rbs:Gg)(ws:Gh)(M:Int)(S:List PF)(n:Nat)(H:Hp)(Q:VK)(E:XK):Rw->Prop
 |.draw i x t b=>∃ d rb,S[i]?=some d/\rbs[i]?=some rb/\IntoR c3 c4 us ps ws (M*b) (scl b S) i (λy=>d.1 y*b,d.2) rb (oneW x (t*M)) [x] n H Q E
 |.empty i=>∃ d,S[i]?=some d/\∀ l' H',Same H H'->H l'=none->StV H' l' M (S.set i (λ_=>0,d.2))->Q (.ref l') H'
 |.rinse i=>∃ d,S[i]?=some d/\(¬ (∀ y,d.1 y=0)->BadE c2 [("phial",.int (i:Nat)),("place",.int (n:Nat))] H E)/\((∀ y,d.1 y=0)->∀ l' H',Same H H'->H l'=none->StV H' l' M (S.set i (λ_=>0,[]))->Q (.ref l') H')
 |.fill i x t b=>∃ d rb,S[i]?=some d/\rbs[i]?=some rb/\(¬ tot ws d.1*b<t*M->BadE c1 [("phial",.int (i:Nat)),("place",.int (n:Nat))] H E)/\(tot ws d.1*b<t*M->IntoR c3 c4 us ps ws (M*b) (scl b S) i (λy=>d.1 y*b,d.2) rb (oneW x (t*M-tot ws d.1*b)) [x] n H Q E)
 |.pour i j t b=>∃ di dj rbj,S[i]?=some di/\S[j]?=some dj/\rbs[j]?=some rbj/\((∀ y,di.1 y=0)->BadE c0 [("phial",.int (i:Nat)),("place",.int (n:Nat))] H E)/\(¬ (∀ y,di.1 y=0)->IntoR c3 c4 us ps ws (M*b) ((scl b S).set i (λy=>di.1 y*b-di.1 y*t,di.2)) j (λy=>dj.1 y*b,dj.2) rbj (λy=>di.1 y*t) di.2 n H Q E)
inductive spDoneAt (K:Ab)(c0 c1 c2 c3 c4 c5:Gj)(vs:Gq)(H:Hp)(Q:VK)(E:XK):Prop
 |mk (b r q l a rs us ps rbs ws M S β rw n:_) (e0:vs=[.ref b,.ref l,.ref a,.int ((n:Nat):Int)]) (e1:n<1000) (e2:OnIn H b r q l rs us ps rbs ws M S β) (e3:RwV H a rw) (e4:GoodR rs.length ws rw) (e5:ResP c0 c1 c2 c3 c4 us ps rbs ws M S n H Q E rw):spDoneAt K c0 c1 c2 c3 c4 c5 vs H Q E
 |odd (b r q:_) (l:Gj) (rs us ps rbs ws v n:_) (e0:vs=[.ref b,.ref l,v,.int ((n:Nat):Int)]) (hn:n<1000) (bs:BS H b r q rs us ps rbs ws) (o:OddV H v) (kB:BadE c5 [("place",.int (n:Nat))] H E):spDoneAt K c0 c1 c2 c3 c4 c5 vs H Q E
abbrev aCv (CD CF CP CE CR c0 c1 c2 c3 c4:Gj):List (Gj×Sp):=[(CD,spODraw CD c3 c4),(CF,spOFill CF c1 c3 c4),(CP,spOPour CP c0 c3 c4),(CE,spOEmpty CE),(CR,spORinse CR c2)]
section
variable {P:Aw}{w:World}{K:Ab}{mg:Gb}{base:Heap}{cP c0 c1 c2 c3 c4 c5 f0 f1 f2 f3 f4 f5 CD CF CP CE CR:Gj}
def aAy:FnScope ["bench","phials","row","place"] ["bench","phials","row","place"] (aH pQ):=fnScOk (by decide +kernel)
def yA {f:Gj}{fd:Az}(F:Fun K "done_at" "done_at" pQ f fd)(cD:Cal P w K mg base (CXg P w) 7 "deed_at" ["bench","row","place"] (spDeedAt c5 CD CF CP CE CR))(hT:∀ c∈aCv CD CF CP CE CR c0 c1 c2 c3 c4,Cls K c.1/\MCal P w K mg base (CXg P w) 7 c.1 "onto_at" Non c.2):FnOk P w K mg base (CXg P w) 8 f fd ["bench","phials","row","place"] (spDoneAt K c0 c1 c2 c3 c4 c5):=by
 refine F.okF aAy (λvs H Q E h=>?_) (λcdv A outer s H vs Q E hr h=>?_)
 ·cases h with
  |mk _ _ _ _ _ _ _ _ _ _ _ _ _ _ _ e=>subst e;rfl
  |odd _ _ _ _ _ _ _ _ _ _ _ e=>subst e;rfl
 ·refine ⟨_,aE (aM (aG4 hT hr lG (jX cD hr rfl lG (aA (pv 0) (aA (pv 2) (aA (pv 3) aC)))) (aA (pv 0) (aA (pv 1) (aA (pv 3) aC))))),?_⟩
  cases h with
  |odd b r q l rs us ps rbs ws v n e hn bs o kB=>
   subst e;exact ⟨_,rfl,_,rfl,_,rfl,.odd b rs.length v n rfl hn ⟨r,_,rs,bs.bn.hp,bs.bn.hr,rfl⟩ bs.bn.l1 bs.bn.l16 o kB⟩
  |mk b r q l a rs us ps rbs ws M S β rw' n e hn o rv gr res=>
  subst e;have s16:S.length<=16:=by rw [o.so.sl,<- o.bs.rm.1];exact o.bs.bn.l16
  refine ⟨_,rfl,_,rfl,_,rfl,.mk b a rs.length ws rw' n rfl ⟨⟨r,_,rs,o.bs.bn.hp,o.bs.bn.hr,rfl⟩,rv,gr,o.bs.ww.w⟩ λq' p dx H' h2 s' np hp=>?_⟩;cases rw' with
  |draw i x' t b'=>
   obtain ⟨d,rb,hd,hrb,kI⟩:=res;exact ⟨CD,_,p,dx,_,Ar ..,rfl,hp,yZ (by decide +kernel) (by decide +kernel) (by decide +kernel),_,rfl,_,rfl,_,rfl,p,dx,b,r,q,l,q',rs,us,ps,rbs,ws,M,S,β,i,d,rb,x',t,b',n,rfl,hn,hp,s' _ _ h2,gr.2.2.1,gr.2.1,o.keep s',hd,hrb,kI.mono s'⟩
  |fill i x' t b'=>
   obtain ⟨d,rb,hd,hrb,kB,kI⟩:=res;exact ⟨CF,_,p,dx,_,Ah _ (Ar ..),rfl,hp,yZ (by decide +kernel) (by decide +kernel) (by decide +kernel),_,rfl,_,rfl,_,rfl,p,dx,b,r,q,l,q',rs,us,ps,rbs,ws,M,S,β,i,d,rb,x',t,b',n,rfl,hn,hp,s' _ _ h2,gr.2.2,gr.2.1,o.keep s',hd,hrb,λc=>(kB c).mono s',λc=>(kI c).mono s'⟩
  |pour i j t b'=>
   obtain ⟨di,dj,rbj,hdi,hdj,hrj,kD,kI⟩:=res;obtain ⟨g1,g2,g3,g4,g5,g6⟩:=gr;exact ⟨CP,_,p,dx,_,Ah _ (Ah _ (Ar ..)),rfl,hp,yZ (by decide +kernel) (by decide +kernel) (by decide +kernel),_,rfl,_,rfl,_,rfl,p,dx,b,r,q,l,q',rs,us,ps,rbs,ws,M,S,β,i,j,t,b',di,dj,rbj,n,rfl,hn,hp,s' _ _ h2,g4,g5,g6,g3,o.keep s',hdi,hdj,hrj,λc=>(kD c).mono s',λc=>(kI c).mono s'⟩
  |empty i=>
   obtain ⟨d,hd,k⟩:=res;exact ⟨CE,_,p,dx,_,Ah _ (Ah _ (Ah _ (Ar ..))),rfl,hp,aC0 (by decide +kernel),_,rfl,_,rfl,_,rfl,p,dx,_,l,M,S,i,d,_,rfl,hp,o.st.keep s',s16,hd,λl' H2 s2 nl st=>k l' H2 (s'.trans s2) (sm0 s' nl) st⟩
  |rinse i=>
   obtain ⟨d,hd,kB,kG⟩:=res;exact ⟨CR,_,p,dx,_,Ah _ (Ah _ (Ah _ (Ah _ (Ar ..)))),rfl,hp,aC0 (by decide +kernel),_,rfl,_,rfl,_,rfl,p,dx,_,l,M,S,i,d,n,rfl,hn,hp,o.st.keep s',s16,hd,λc=>(kB c).mono s',λz l' H2 s2 nl st=>kG z l' H2 (s'.trans s2) (sm0 s' nl) st⟩
end
end K51
namespace TR
open PySem PySem.Spec PyProof.Rows L2 GM
def aCg {Z:L2.St}(S:L2.St->Hp->Prop)(h:∀ Z' H',S Z' H'->u D Z' H')(g:∀ N:L2.St->Hp->Prop,(∀ Z' H',S Z' H'->N Z' H')->t { D with nx:=N } Z H):tSeq t u D Z H:=g (u D) h
def aDw {Z:L2.St}(S:L2.St->Hp->Prop)(h:∀ Z' H',S Z' H'->u D Z' H')(g:∀ N:L2.St->Hp->Prop,(∀ Z' H',S Z' H'->N Z' H')->tSeq t1 t2 { D with nx:=N } Z H):tSeq t1 (tSeq t2 u) D Z H:=g (u D) h
def Top2 (l:List Int)(f s:Int):Prop:=∃ r,(l++[0,0]).Perm (f::s::r)/\s<=f/\∀ x∈r,x<=s
def Nd (ds:List Int)(d:Int):Prop:=∃ f s,Top2 ds f s/\d=max f (s+1)
def av:List Int->Int
 |[]=>0
 |c::r=>av r-c+1
def Okc:List Int->Prop
 |[]=>True
 |c::r=>Okc r/\0<=c/\c<64/\c<=av r
def Gd (p:List Int)(m l:Int):Prop:=∀ r,Okc r->l<=av r->Okc (p++r)/\av r-l+m<=av (p++r)
def Am (H:Hp)(m:Gj)(n:Nat):Prop:=∃ t b:Int,H m=some (.tup [.int t,.int b])/\0<=t/\1<=b/\Bt (64*n-1) t/\Bt (64*n-1) b
abbrev Pt:=V×Nat×Int
def szs (cs:List Pt):Nat:=(cs.map (·.2.1)).sum
def Tr (H:Hp):Nat->V->Nat->Int->Prop
 |0,_,_,_=>False
 |n+1,v,s,d=>
  (∃ (p m:Gj) (x:Str),v=.ref p/\H p=some (.tup [.str "ware",.str x,.ref m])/\Am H m 1/\s=1/\d=0) \/
  (∃ (p m q:Gj) (x:Str) (cs:List Pt),v=.ref p/\H p=some (.tup [.str "recipe",.str x,.ref m,.ref q])/\H q=some (.tup (cs.map (·.1)))/\1<=cs.length/\cs.length<64 /\
   (∀ c∈cs,Tr H n c.1 c.2.1 c.2.2)/\s=1+szs cs/\Nd (cs.map (·.2.2)) d/\Am H m s)
def Bx (a:Gj)(H H':Hp):Prop:=∀ b o,b≠a->H b=some o->H' b=some o
def nzc (cs:List Int):Nat:=(cs.filter λc=>c != 0).length
structure Pile (H:Hp)(cs:List Int)(j:Nat)(pl:List Pt):Prop where
 tr:∀ c∈pl,Tr H (nzc (cs.drop (cs.length-j))+1) c.1 c.2.1 c.2.2
 sz:szs pl=j
 ln:(pl.length:Int)=av (cs.drop (cs.length-j))
 hd:1<=j->∃ pl' q,pl=pl'++[q]/\∀ c,cs[cs.length-j]?=some c->1<=c->1<=q.2.2
def AtP (H:Hp):V->List Nat->V->Prop
 |v,[],u=>v=u
 |v,k::r,u=>∃ (p m q:Gj) (x:Str) (vs:Gq) (c:V),v=.ref p/\H p=some (.tup [.str "recipe",.str x,.ref m,.ref q])/\H q=some (.tup vs)/\vs[k]?=some c/\AtP H c r u
abbrev pth (ks:List Nat):Gq:=ks.map λ(k:Nat)=>V.int (k:Int)
def Ent (H:Hp)(root:V)(N:Nat)(e:Gj)(s:Nat):Prop:=∃ (pa:Gj) (ks:List Nat) (v:V) (n:Nat) (d:Int),H e=some (.tup [.ref pa,v])/\H pa=some (.tup (pth ks))/\AtP H root ks v/\Tr H n v s d/\ks.length+n<=N
end TR
namespace K51
open PySem PySem.Spec PyProof.Rows L2 GM TM TR
def rwb:Rw->Int
 |.draw _ _ _ b=>b
 |.fill _ _ _ b=>b
 |.pour _ _ _ b=>b
 |_=>1
inductive GR (H:Hp)(nb:Nat)(ws:Gh):Gj->Prop where
 |am {z:Gj} {wd:Str} {p x q t b}:wd = "draw" \/ wd = "fill" -> H z=some (.tup [.str wd,.int p,.str x,.ref q])->0<=p->p<(nb:Int)->x∈ws->H q=some (.tup [.int t,.int b])->Rm t b->b<=100->GR H nb ws z
 |pour {z p o q t b}:H z=some (.tup [.str "pour",.int p,.int o,.ref q])->0<=p->p<(nb:Int)->0<=o->o<(nb:Int)->p≠o->H q=some (.tup [.int t,.int b])->Rm t b->t<=b->b<=100->GR H nb ws z
 |one {z:Gj} {wd:Str} {p}:wd = "empty" \/ wd = "rinse" -> H z=some (.tup [.str wd,.int p])->0<=p->p<(nb:Int)->GR H nb ws z
def WsV (H:Hp)(wl:Gj)(ws:Gh):Prop:=H wl=some (.lst (ws.map V.str))/\ws.length=6/\∀ x∈ws,Wr x
def rT {p d nb:Int}(p0:0<=p)(pn:p<nb)(d0:0<=d)(dn:d<nb-1):0<=(p+1+d)%nb/\(p+1+d)%nb<nb/\p≠(p+1+d)%nb:=by
 have e:=bY (p+1+d) (m:=nb) (by lia);refine ⟨e.1,e.2,λz=>?_⟩
 by_cases h:p+1+d<nb
 ·rw [Int.emod_eq_of_lt (by lia) h] at z
  lia
 ·have:(p+1+d)%nb=(p+1+d-nb)%nb:=by rw [Int.sub_emod,Int.emod_self,Int.sub_zero,Int.emod_emod]
  rw [this,Int.emod_eq_of_lt (by lia) (by lia)] at z;lia
def wY {d b:Int}(d0:0<=d)(db:d<b)(b1:1<=b)(b100:b<=100)(sb:Bt 100 b):Rm ((1+d)/G (1+d) b) (b/G (1+d) b)/\(1+d)/G (1+d) b<=b/G (1+d) b/\b/G (1+d) b<=100:=by
 have g:=qS (a:=1+d) (b:=b) (by lia);exact ⟨sL (by lia) b1 (sb.le (by lia) (by lia)) sb,Int.ediv_le_ediv g (by lia),Int.le_trans (Da _ (by lia)) b100⟩
def lfTk {a:Gj}{H H':Hp}(s:SmB a H H')(l:Lf H a):Tk H H':=λb xs e=>s b _ (λz=>by
 obtain ⟨n,h,_⟩:=l;rw [z,h] at e;cases e) e
def aFu {a wl:Gj}{H:Hp}{ws:Gh}(h:WsV H wl ws)(l:Lf H a):wl≠a:=λz=>by
 obtain ⟨n,e,_⟩:=l;obtain ⟨h1,h2,_⟩:=h;rw [z,e] at h1;have:=congrArg List.length (HO.lst.inj (AF h1));rw [Af,h2] at this;simp at this
inductive spFreeRow (vs:Gq)(H:Hp)(Q:VK)(Ex:XK):Prop
 |mk (b wl a nb ws:_) (e0:vs=[.ref b,.ref wl,.ref a]) (e1:BnV H b nb) (e2:1<=nb) (e3:nb<=16) (e4:WsV H wl ws) (e5:Lf H a) (e6:∀ z H',SmB a H H'->Lf H' a->GR H' nb ws z->Q (.ref z) H'):spFreeRow  vs H Q Ex
def aGg (K:Ab):Sp:=λvs H Q _=>∃ b wl sc nb ws,∃ (ns:List Int) (k:Nat),vs=[.ref b,.ref wl,.ref sc,.int (k:Nat)]/\BnV H b nb/\1<=nb/\nb<=16/\WsV H wl ws/\SqL K H sc (ns.map V.int)/\k<ns.length/\k<=900/\∀ z H',Same H H'->GR H' nb ws z->Q (.ref z) H'
def aIx {d:Int}(d0:0<=d)(d5:d<5):∃ wd:Str,atI [V.str "draw",.str "fill",.str "pour",.str "empty",.str "rinse"] d=some (.str wd)/\(wd = "draw" \/ wd = "fill" \/ wd = "pour" \/ wd = "empty" \/ wd = "rinse"):=by
 have:d=0\/d=1\/d=2\/d=3\/d=4:=by lia
 rcases this with rfl|rfl|rfl|rfl|rfl
 ·exact ⟨"draw",rfl,.inl rfl⟩
 ·exact ⟨"fill",rfl,.inr (.inl rfl)⟩
 ·exact ⟨"pour",rfl,.inr (.inr (.inl rfl))⟩
 ·exact ⟨"empty",rfl,.inr (.inr (.inr (.inl rfl)))⟩
 ·exact ⟨"rinse",rfl,.inr (.inr (.inr (.inr rfl)))⟩
def aIw {d:Int}(d0:0<=d)(d9:d<10):∃ wd:Str,atI [V.str "draw",.str "draw",.str "draw",.str "draw",.str "pour",.str "pour",.str "pour",.str "fill",.str "empty",.str "rinse"] d=some (.str wd)/\(wd = "draw" \/ wd = "fill" \/ wd = "pour" \/ wd = "empty" \/ wd = "rinse"):=by
 have:d=0\/d=1\/d=2\/d=3\/d=4\/d=5\/d=6\/d=7\/d=8\/d=9:=by lia
 rcases this with rfl|rfl|rfl|rfl|rfl|rfl|rfl|rfl|rfl|rfl
 ·exact ⟨"draw",rfl,.inl rfl⟩
 ·exact ⟨"draw",rfl,.inl rfl⟩
 ·exact ⟨"draw",rfl,.inl rfl⟩
 ·exact ⟨"draw",rfl,.inl rfl⟩
 ·exact ⟨"pour",rfl,.inr (.inr (.inl rfl))⟩
 ·exact ⟨"pour",rfl,.inr (.inr (.inl rfl))⟩
 ·exact ⟨"pour",rfl,.inr (.inr (.inl rfl))⟩
 ·exact ⟨"fill",rfl,.inr (.inl rfl)⟩
 ·exact ⟨"empty",rfl,.inr (.inr (.inr (.inl rfl)))⟩
 ·exact ⟨"rinse",rfl,.inr (.inr (.inr (.inr rfl)))⟩
def GR.good {H:Hp}{nb:Nat}{ws:Gh}{z:Gj}(h:GR H nb ws z):∃ rw,RwV H z rw/\GoodR nb ws rw/\rwb rw<=100:=by
 have ra:∀ {t b:Int},Rm t b->RwA t b:=λh=>⟨⟨by have:=h.1;lia,h.2,h.3⟩,h.4.mono (by decide),h.5.mono (by decide)⟩;cases h with
 |@am wd p x q t b a1 a2 a3 a4 a5 a6 a7 a8=>
  obtain ⟨i,rfl⟩:=AN a3
  rcases a1 with rfl|rfl
  ·exact ⟨.draw i x t b,⟨q,a2,a6⟩,⟨by lia,a5,ra a7,a7.1⟩,a8⟩
  ·exact ⟨.fill i x t b,⟨q,a2,a6⟩,⟨by lia,a5,ra a7⟩,a8⟩
 |@pour p o q t b a1 a2 a3 a4 a5 a6 a7 a8 a9 a10=>
  obtain ⟨i,rfl⟩:=AN a2;obtain ⟨j,rfl⟩:=AN a4;exact ⟨.pour i j t b,⟨q,a1,a7⟩,⟨by lia,by lia,λe=>a6 (by rw [e]),ra a8,a8.1,a9⟩,a10⟩
 |@one wd p a1 a2 a3 a4=>
  obtain ⟨i,rfl⟩:=AN a3
  rcases a1 with rfl|rfl
  ·exact ⟨.empty i,a2,(show i<nb by lia),(by show (1:Int)<=100;decide)⟩
  ·exact ⟨.rinse i,a2,(show i<nb by lia),(by show (1:Int)<=100;decide)⟩
section
variable {P:Aw}{w:World}{K:Ab}{mg:Gb}{base:Heap}
abbrev Nfr:Gh:=["_law_bench","_law_wares_here","_law_left","_law_many","_law_kind","_law_phial","_law_other_here","_law_bottom","_law_ware","_law_top"]
def dI:FnScope Nfr ["_law_bench","_law_wares_here","_law_left"] (aH lY):=fnScOk (by decide +kernel)
def uG {f:Gj}{fd:Az}(F:Fun K "_law_free_row" "_law_free_row" lY f fd)(T:Txt mg)(cD:Cal P w K mg base CX0 1 "_law_digit" ["_law_left","_law_many"] hZ)(cL:Cal P w K mg base CX0 1 "_law_lowest" ["_law_top","_law_bottom"] eL):FnOk P w K mg base CX0 2 f fd ["_law_bench","_law_wares_here","_law_left"] spFreeRow:=by
 refine F.okA dI (λcdv A outer s H vs Q E hr h=>?_)
 ·obtain ⟨b,wl,a,nb,ws,rfl,bn,n1,n16,wv,lf,k⟩:=h
  refine ⟨_,(aD (aJ (i:=3) dI.nd (aT aY rfl T.len BA (aA (pit 0 0) aC)))
   (aD (aJ (i:=4) dI.nd (aZ aX (cV (pa_c aS (pa_c aS (pa_c aS (pa_c aS (pa_c aS aC)))))) (aI cD hr (aA (pv 2) (aA aG aC))) (λ_ _=>rfl)))
   (aD (aJ (i:=5) dI.nd (aI cD hr (aA (pv 2) (aA (pv 3) aC))))
   (aD (bH (PW.pt (jQ (aL bW (pv 4) aS) (gD (aL bW (pv 3) aG))))
    (aE (aJ (i:=4) dI.nd aS))
    aQ)
   (aD (bH (PW.pt (mB (aL bW (pv 4) aS) (iH (aL bW (pv 4) aS))))
    (aE (aM (aU (aA (pv 4) (aA (pv 5) aC)))))
    aQ)
   (aD (bH (aL bW (pv 4) aS)
    (aD (aJ (i:=6) dI.nd (aP bQ (aP bJ (aP bJ (pv 5) aG) (aI cD hr (aA (pv 2) (aA (aP rV (pv 3) aG) aC)))) (pv 3)))
    (aD (aJ (i:=7) dI.nd (aP bJ aG (aI cD hr (aA (pv 2) (aA aG aC)))))
    (aE (aM (aU (aA (pv 4) (aA (pv 5) (aA (pv 6) (aA (aI cL hr (aA (aP bJ aG (aI cD hr (aA (pv 2) (aA (pv 7) aC)))) (aA (pv 7) aC))) aC)))))))))
    aQ)
   (aD (aJ (i:=8) dI.nd (aZ aX (pv 1) (aI cD hr (aA (pv 2) (aA aG aC))) (λ_ _=>rfl)))
   (aD (aJ (i:=9) dI.nd (aP bJ aG (aI cD hr (aA (pv 2) (aA aG aC)))))
   (aE (aM (aU (aA (pv 4) (aA (pv 5) (aA (pv 8) (aA (aI cL hr (aA (pv 9) (aA (aP bJ aG (aI cD hr (aA (pv 2) (aA aG aC)))) aC))) aC))))))))))))))),?_⟩
  obtain ⟨r,q0,rs,hb,hrr,rl⟩:=id bn;have wne:=aFu wv lf;refine ⟨b,_,_,rfl,Gv hb,rfl,r,_,rfl,.inr (Gv hrr),?_⟩;refine ⟨zLn5,λz5 nz5=>?_⟩;obtain ⟨H1,eH1,s5,h5⟩:=updX (o:=.lst [V.str "draw",.str "fill",.str "pour",.str "empty",.str "rinse"]) nz5;rw [eH1];have z5a:z5≠a:=lf.there nz5;have lf1:=lf.keep s5;refine ⟨_,rfl,a,5,rfl,lf1,by decide,b9,λd0 H2 d00 d05 sb2 lf2=>?_⟩;obtain ⟨wd,hat,hwd⟩:=aIx d00 d05;refine ⟨z5,_,d0,.str wd,rfl,rfl,Gw (sb2 _ _ z5a h5),hat,?_⟩;have sb02:SmB a H H2:=(SmB.of s5).trans sb2;have bnb:Bt 9000 ((rs.length:Nat):Int):=b9 (by lia) (by lia);refine ⟨_,rfl,_,rfl,a,_,rfl,lf2,by lia,bnb,λp H3 p0 pl sb3 lf3=>?_⟩;have sb03:=sb02.trans sb3;have pn:p<(nb:Int):=by rw [<- rl];exact pl
  dsimp only [gName];refine aCg (λZ' H'=>∃ wd':Str,Z'=[some (.ref b),some (.ref wl),some (.ref a),some (.int ((rs.length:Nat):Int)),some (.str wd'),some (.int p),none,none,none,none]/\H'=H3/\((wd' = "empty" \/ wd' = "rinse")\/(wd' = "pour" /\ 1<nb)\/(wd' = "draw" \/ wd' = "fill"))) ?_ (λN hN=>?_)
  ·intro Z' H' hh
   obtain ⟨wd',rfl,rfl,hw⟩:=hh
   rcases hw with hw|⟨rfl,n2⟩|hw
   ·have fin:∀ z,H' z=none->Q (.ref z) (upd H' z (.tup [.str wd',.int p])):=λz nz=>k z _ (sb03.own (sb03.none nz (lf3.there nz))) (lf3.keep (Gu nz)) (.one hw aB p0 pn)
    rcases hw with rfl|rfl
    ·exact ⟨_,rfl,rfl,_,rfl,iteT ⟨_,rfl,_,rfl,zLn2,fin⟩⟩
    ·exact ⟨_,rfl,rfl,_,rfl,iteF ⟨_,rfl,rfl,_,rfl,iteT ⟨_,rfl,_,rfl,zLn2,fin⟩⟩⟩
   ·refine ⟨_,rfl,rfl,_,rfl,iteF ⟨_,rfl,rfl,_,rfl,iteF ⟨_,rfl,rfl,_,rfl,iteT ?_⟩⟩⟩
    refine ⟨_,rfl,_,_,rfl,rfl,_,rfl,_,rfl,_,_,rfl,rfl,a,_,rfl,lf3,by lia,b9 (by lia) (by lia),λd H4 d00 dl sb4 lf4=>?_⟩;have sb04:=sb03.trans sb4;obtain ⟨o0,ol,po⟩:=rT p0 pn d00 (by rw [<- rl];exact dl);refine ⟨_,_,rfl,rfl,_,rfl,_,_,rfl,rfl,by lia,?_⟩;refine ⟨_,rfl,a,100,rfl,lf4,by decide,b9,λe H5 e0 el sb5 lf5=>⟨_,_,rfl,rfl,?_⟩⟩;have sb05:=sb04.trans sb5;have sbt:Bt 100 (1+e):=bR 100 (c:=101) (by lia) (by lia);refine ⟨_,rfl,_,rfl,_,rfl,_,rfl,_,rfl,a,_,rfl,lf5,by lia,sbt.mono (by decide),λe2 H6 e20 e2l sb6 lf6=>⟨_,_,rfl,rfl,_,rfl,1+e2,1+e,rfl,by lia,by lia,sbt.mono (by decide),λq H7 s7 nq hq=>⟨zLn4,λz nz=>?_⟩⟩⟩;have sb06:=sb05.trans sb6;have sb07:=sb06.trans (SmB.of s7);have lf7:=lf6.keep s7;obtain ⟨rm,le,l1⟩:=wY e20 e2l (by lia) (by lia) sbt;rw [rl];refine k z _ (sb07.own (sb07.none nz (lf7.there nz))) (lf7.keep (Gu nz)) (.pour aB p0 pn o0 ol po (Gu nz _ _ hq) rm le l1)
   ·have fin:∀ {wd':Str},(wd' = "draw" \/ wd' = "fill")->∀ (x:Str) q t b' H7 z,x∈ws->SmB a H H7->Lf H7 a->H7 q=some (.tup [.int t,.int b'])->Rm t b'->b'<=100->H7 z=none->Q (.ref z) (upd H7 z (.tup [.str wd',.int p,.str x,.ref q])):=λ{wd'} hw x q t b' H7 z wx sb7 lf7 hq rm l1 nz=>k z _ (sb7.own (sb7.none nz (lf7.there nz))) (lf7.keep (Gu nz)) (.am hw aB p0 pn wx (Gu nz _ _ hq) rm l1)
    have fin':=fin hw
    rcases hw with rfl|rfl <;>
    ·refine ⟨_,rfl,rfl,_,rfl,iteF ⟨_,rfl,rfl,_,rfl,iteF ⟨_,rfl,rfl,_,rfl,iteF ?_⟩⟩⟩
     refine ⟨_,rfl,_,rfl,a,6,rfl,lf3,by decide,b9,λd H4 d00 dl sb4 lf4=>?_⟩;have sb04:=sb03.trans sb4;obtain ⟨j,rfl⟩:=AN d00;obtain ⟨x,hx⟩:∃ x,ws[j]?=some x:=⟨_,Ae (by have:=wv.2.1;lia)⟩;refine ⟨wl,_,(j:Int),.str x,rfl,rfl,Gw (sb04 _ _ wne wv.1),aW (by rw [Aq,hx];rfl),?_⟩;refine ⟨_,rfl,a,1000,rfl,lf4,by decide,b9,λe H5 e0 el sb5 lf5=>⟨_,_,rfl,rfl,?_⟩⟩;refine ⟨_,rfl,_,rfl,_,rfl,_,rfl,_,rfl,a,100,rfl,lf5,by decide,b9,λe2 H6 e20 e2l sb6 lf6=>⟨_,_,rfl,rfl,1+e,1+e2,rfl,by lia,by lia,(bR 100 (c:=101) (by lia) (by lia):Bt 100 (1+e2)).mono (by decide),λq H7 s7 nq hq=>⟨zLn4,λz nz=>?_⟩⟩⟩;exact fin' x q _ _ H7 z (Al hx) (((sb04.trans sb5).trans sb6).trans (SmB.of s7)) (lf6.keep s7) hq (sL (by lia) (by lia) (bR 100 (c:=1001) (by lia) (by lia)) (bR 100 (c:=101) (by lia) (by lia))) (Int.le_trans (Da _ (by lia)) (by lia)) nz
  ·rcases hwd with rfl|rfl|rfl|rfl|rfl
   ·exact ⟨_,rfl,rfl,_,rfl,iteF (iteF (hN _ _ ⟨_,rfl,rfl,.inr (.inr (.inl rfl))⟩))⟩
   ·exact ⟨_,rfl,rfl,_,rfl,iteF (iteF (hN _ _ ⟨_,rfl,rfl,.inr (.inr (.inr rfl))⟩))⟩
   ·refine ⟨_,rfl,rfl,_,rfl,iteT ⟨_,rfl,rfl,_,rfl,ite2 (λhc=>hN _ _ ⟨_,rfl,rfl,.inl (.inl rfl)⟩) (λhc=>hN _ _ ⟨_,rfl,rfl,.inr (.inl ⟨rfl,?_⟩)⟩)⟩⟩
    have:¬ ((rs.length:Nat):Int)=1:=λz=>hc (decide_eq_true (by rw [z]));lia
   ·exact ⟨_,rfl,rfl,_,rfl,iteF (iteF (hN _ _ ⟨_,rfl,rfl,.inl (.inl rfl)⟩))⟩
   ·exact ⟨_,rfl,rfl,_,rfl,iteF (iteF (hN _ _ ⟨_,rfl,rfl,.inl (.inr rfl)⟩))⟩
abbrev Nrw:Gh:=["_law_bench","_law_wares_here","_law_script","_law_k","_law_number","_law_many","_law_phial","_law_ware","_law_kind","_law_other_here","_law_bottom"]
def nA:FnScope Nrw ["_law_bench","_law_wares_here","_law_script","_law_k"] (aH sRow):=fnScOk (by decide +kernel)
def aHd {f:Gj}{fd:Az}(F:Fun K "_law_row" "_law_row" sRow f fd)(T:Txt mg)(cC:Cal P w K mg base CX0 2 "_law_cell_at" ["_law_script","_law_k"] (mX K))(cM:Cal P w K mg base CX0 2 "_law_mixed" ["_law_cell","_law_k"] jA)(cF:Cal P w K mg base CX0 2 "_law_free_row" ["_law_bench","_law_wares_here","_law_left"] spFreeRow)(cU:Cal P w K mg base CX0 2 "_law_few" ["_law_number"] aCe)(cL:Cal P w K mg base CX0 2 "_law_lowest" ["_law_top","_law_bottom"] eL):FnOk P w K mg base CX0 3 f fd ["_law_bench","_law_wares_here","_law_script","_law_k"] (aGg K):=by
 refine F.okA nA (λcdv A outer s H vs Q E hr h=>?_)
 ·obtain ⟨b,wl,sc,nb,ws,ns,kk,rfl,bn,n1,n16,wv,hS,kl,k9,k⟩:=h
  refine ⟨_,(aD (bH (aL bW (aP bQ (aI cC hr (aA (pv 2) (aA aG aC))) aG) aG)
    (aE (aM (aI cF hr (aA (pv 0) (aA (pv 1) (aA (cV (aA (aT gZ rfl T.abs' oJ (aA (aZ aX (pv 2) (pv 3) (λ_ _=>rfl)) aC)) aC)) aC))))))
    aQ)
   (aD (aJ (i:=4) nA.nd (aI cM hr (aA (aZ aX (pv 2) (pv 3) (λ_ _=>rfl)) (aA (pv 3) aC))))
   (aD (aJ (i:=5) nA.nd (aT aY rfl T.len BA (aA (pit 0 0) aC)))
   (aD (aJ (i:=6) nA.nd (aP bQ (aP bO (pv 4) aG) (pv 5)))
   (aD (aJ (i:=7) nA.nd (aZ aX (pv 1) (aP bQ (aP bO (pv 4) aG) aG) (λ_ _=>rfl)))
   (aD (aJ (i:=8) nA.nd (aZ aX (cV (pa_c aS (pa_c aS (pa_c aS (pa_c aS (pa_c aS (pa_c aS (pa_c aS (pa_c aS (pa_c aS (pa_c aS aC))))))))))) (aP bQ (pv 4) aG) (λ_ _=>rfl)))
   (aD (bH (PW.pt (mB (aL bW (pv 8) aS) (iH (aL bW (pv 8) aS))))
    (aE (aM (aU (aA (pv 8) (aA (pv 6) (aA (pv 7) (aA (aI cU hr (aA (aP bO (pv 4) aG) aC)) aC)))))))
    aQ)
   (aD (bH (PW.pt (jQ (aL bW (pv 8) aS) (gD (aL aG8 (pv 5) aG))))
    (aD (aJ (i:=9) nA.nd (aP bQ (aP bJ (aP bJ (pv 6) aG) (aP bQ (aP bO (pv 4) aG) (aP rV (pv 5) aG))) (pv 5)))
    (aD (aJ (i:=10) nA.nd (aP bJ aG (aP bQ (aP bO (pv 4) aG) aG)))
    (aE (aM (aU (aA (pv 8) (aA (pv 6) (aA (pv 9) (aA (aI cL hr (aA (aP bJ aG (aP bQ (aP bO (pv 4) aG) (pv 10))) (aA (pv 10) aC))) aC)))))))))
    aQ)
   (aD (bH (aL bW (pv 8) aS)
    (aE (aM (aU (aA aS (aA (pv 6) aC)))))
    aQ)
   (aE (aM (aU (aA (pv 8) (aA (pv 6) aC)))))))))))))),?_⟩
  obtain ⟨c,hc⟩:∃ c,ns[kk]?=some c:=⟨_,Ae kl⟩;have hcat:atI (ns.map V.int) (kk:Int)=some (.int c):=aW (by rw [Aq,hc];rfl);obtain ⟨r,q0,rs,hb,hrr,rl⟩:=id bn;refine ⟨_,rfl,sc,ns,0,rfl,hS,by decide,λc0=>⟨_,_,rfl,rfl,(by show (0:Int)<2;decide),rfl,_,rfl,ite2 (λ_=>?_) (λ_=>?_)⟩⟩
  ·refine ⟨_,rfl,_,rfl,_,rfl,_,rfl,sc,_,(kk:Int),.int c,rfl,rfl,hS,hcat,c,rfl,zLn1,λl nl=>?_⟩
   have c0':=abs_nonneg c;generalize (if c<0 then -c else c)=n at *
   obtain ⟨H1,eH1,sl,hl⟩:=updX (o:=.lst [.int n]) nl;rw [eH1];refine ⟨b,wl,l,nb,ws,rfl,bn.keep sl,n1,n16,⟨sl _ _ wv.1,wv.2⟩,⟨n,hl,c0'⟩,λz H' sb lf gr=>k z H' (gM sl sb nl) gr⟩
  ·refine ⟨_,rfl,_,rfl,sc,_,(kk:Int),.int c,rfl,rfl,hS,hcat,_,rfl,c,(kk:Int),rfl,by lia,by lia,λn n0 nl=>?_⟩
   refine ⟨b,_,_,rfl,Gv hb,rfl,r,_,rfl,.inr (Gv hrr),?_⟩;have nbp:(0:Int)<((rs.length:Nat):Int):=by lia
   obtain ⟨p0,pn⟩:=bY (n/16) nbp;refine ⟨_,rfl,_,_,rfl,rfl,⟨by decide,b9⟩,_,rfl,_,_,rfl,rfl,nbp,?_⟩;have wlen:(((ws.map V.str).length:Nat):Int)=6:=by rw [Af,wv.2.1];rfl
   obtain ⟨j0,jn⟩:=bY (n/256) (m:=3) (by decide);obtain ⟨j,ej⟩:=AN j0;obtain ⟨x,hx⟩:∃ x,ws[j]?=some x:=⟨_,Ae (by have:=wv.2.1;lia)⟩;refine ⟨_,rfl,_,rfl,_,_,rfl,rfl,⟨by decide,b9⟩,_,_,rfl,rfl,(by show (0:Int)<3;decide),wl,_,_,.str x,rfl,rfl,Gw wv.1,by rw [ej];exact aW (by rw [Aq,hx];rfl),?_⟩;refine ⟨zLn10,λz9 nz9=>?_⟩;obtain ⟨H1,eH1,s9,h9⟩:=updX (o:=.lst [V.str "draw",.str "draw",.str "draw",.str "draw",.str "pour",.str "pour",.str "pour",.str "fill",.str "empty",.str "rinse"]) nz9;rw [eH1];obtain ⟨m0,ml⟩:=bY n (m:=10) (by decide);obtain ⟨wd,hat,hwd⟩:=aIw m0 ml;have pn':(n/16%((rs.length:Nat):Int))<(nb:Int):=by rw [<- rl];exact pn
   refine ⟨_,rfl,_,_,rfl,rfl,(by show (0:Int)<10;decide),z9,_,_,.str wd,rfl,rfl,Gw h9,hat,?_⟩;have wx:=Al hx;have finO:∀ {wd':Str},(wd' = "empty" \/ wd' = "rinse")->∀ z,H1 z=none->Q (.ref z) (upd H1 z (.tup [.str wd',.int (n/16%((rs.length:Nat):Int))])):=λ{wd'} hw z nz=>k z _ (s9.trans (Gu nz)) (.one hw aB p0 pn');have finA:∀ {wd':Str},(wd' = "draw" \/ wd' = "fill")->∀ q t b' H7 z,Same H H7->H7 q=some (.tup [.int t,.int b'])->Rm t b'->b'<=100->H7 z=none->Q (.ref z) (upd H7 z (.tup [.str wd',.int (n/16%((rs.length:Nat):Int)),.str x,.ref q])):=λ{wd'} hw q t b' H7 z s7 hq rm l1 nz=>k z _ (s7.trans (Gu nz)) (.am hw aB p0 pn' wx (Gu nz _ _ hq) rm l1);have n4:0<=n/4096/\n/4096<2147483647:=⟨Int.ediv_nonneg n0 (by decide),Int.lt_of_le_of_lt (Da _ n0) nl⟩
   rcases hwd with rfl|rfl|rfl|rfl|rfl
   ·refine ⟨_,rfl,rfl,_,rfl,iteT ⟨_,rfl,_,rfl,_,rfl,_,rfl,_,_,rfl,rfl,⟨by decide,b9⟩,_,rfl,n4.1,n4.2,λt b' q H7 rm l12 s7 nq hq=>⟨zLn4,λz nz=>finA (.inl rfl) q t b' H7 z (s9.trans s7) hq rm (by lia) nz⟩⟩⟩
   ·refine ⟨_,rfl,rfl,_,rfl,iteF ⟨_,rfl,rfl,_,rfl,iteT ⟨_,rfl,_,rfl,_,rfl,_,rfl,_,_,rfl,rfl,⟨by decide,b9⟩,_,rfl,n4.1,n4.2,λt b' q H7 rm l12 s7 nq hq=>⟨zLn4,λz nz=>finA (.inr rfl) q t b' H7 z (s9.trans s7) hq rm (by lia) nz⟩⟩⟩⟩
   ·refine ⟨_,rfl,rfl,_,rfl,iteF ⟨_,rfl,rfl,_,rfl,iteF ⟨_,rfl,rfl,_,rfl,iteT ⟨_,rfl,_,_,rfl,rfl,_,rfl,ite2 (λhc2=>?_) (λhc2=>?_)⟩⟩⟩⟩
    ·have n2:(1:Int)<((rs.length:Nat):Int):=of_decide_eq_true hc2
     have m1:(0:Int)<((rs.length:Nat):Int)-1:=by lia
     obtain ⟨d0,dl⟩:=bY (n/256) m1;obtain ⟨o0,ol,po⟩:=rT p0 pn d0 dl;refine ⟨_,rfl,_,_,rfl,rfl,_,rfl,_,_,rfl,rfl,⟨by decide,b9⟩,_,rfl,_,_,rfl,rfl,_,_,rfl,rfl,m1,_,_,rfl,rfl,_,rfl,_,_,rfl,rfl,nbp,?_⟩;obtain ⟨e0,el⟩:=bY (n/4096) (m:=4) (by decide);refine ⟨_,rfl,_,_,rfl,rfl,⟨by decide,b9⟩,_,_,rfl,rfl,(by show (0:Int)<4;decide),_,_,rfl,rfl,?_⟩;have bp:(0:Int)<1+n/4096%4:=by lia
     obtain ⟨f0,fl⟩:=bY (n/32768) bp;have sbt:Bt 100 (1+n/4096%4):=bR 100 (c:=101) (by lia) (by lia);obtain ⟨rm,le,l1⟩:=wY f0 fl (by lia) (by lia) sbt;refine ⟨_,rfl,_,rfl,_,rfl,_,rfl,_,_,rfl,rfl,⟨by decide,b9⟩,_,rfl,_,_,rfl,rfl,bp,_,_,rfl,rfl,_,rfl,_,_,rfl,by lia,by lia,sbt.mono (by decide),λq H7 s7 nq hq=>⟨zLn4,λz nz=>?_⟩⟩;exact k z _ ((s9.trans s7).trans (Gu nz)) (.pour aB p0 pn' o0 (by rw [<- rl];exact ol) po (Gu nz _ _ hq) rm le l1)
    ·refine ⟨_,rfl,rfl,_,rfl,iteT ⟨_,rfl,zLn2,λz nz=>finO (.inl rfl) z nz⟩⟩
   ·exact ⟨_,rfl,rfl,_,rfl,iteF ⟨_,rfl,rfl,_,rfl,iteF ⟨_,rfl,rfl,_,rfl,iteF (iteF ⟨_,rfl,rfl,_,rfl,iteF ⟨_,rfl,_,rfl,zLn2,λz nz=>finO (.inl rfl) z nz⟩⟩)⟩⟩⟩
   ·exact ⟨_,rfl,rfl,_,rfl,iteF ⟨_,rfl,rfl,_,rfl,iteF ⟨_,rfl,rfl,_,rfl,iteF (iteF ⟨_,rfl,rfl,_,rfl,iteF ⟨_,rfl,_,rfl,zLn2,λz nz=>finO (.inr rfl) z nz⟩⟩)⟩⟩⟩
end
end K51
namespace K51
open PySem PySem.Spec PyProof.Rows L2 GM TM
inductive Fat where
 |dry (i:Nat)
 |low (i:Nat)
 |wet (i:Nat)
 |spilt (i:Nat) (M N:Int) (rb:Int×Int)
 |touch (i:Nat) (pa:Gj)
abbrev Ou:Type:=Fat ⊕ List PF
def BadF (c0 c1 c2 c3 c4:Gj)(n:Nat)(H:Hp)(E:XK):Fat->Prop
 |.dry i=>BadE c0 [("phial",.int (i:Nat)),("place",.int (n:Nat))] H E
 |.low i=>BadE c1 [("phial",.int (i:Nat)),("place",.int (n:Nat))] H E
 |.wet i=>BadE c2 [("phial",.int (i:Nat)),("place",.int (n:Nat))] H E
 |.spilt i M N rb=>BadO c3 n i M N rb H E
 |.touch i pa=>BadE c4 [("pair",.ref pa),("phial",.int (i:Nat)),("place",.int (n:Nat))] H E
def RfV (H:Hp)(t3:Gj):Fat->Prop
 |.dry i=>H t3=some (.tup [.str "dry",.int ((i:Nat):Int),.non])
 |.low i=>H t3=some (.tup [.str "low",.int ((i:Nat):Int),.non])
 |.wet i=>H t3=some (.tup [.str "wet",.int ((i:Nat):Int),.non])
 |.spilt i M N rb=>∃ a t b,H t3=some (.tup [.str "spilt",.int ((i:Nat):Int),.ref a])/\H a=some (.tup [.int t,.int b])/\Fr (M*rb.2) t b (N*rb.2-rb.1*M)
 |.touch i pa=>H t3=some (.tup [.str "touch",.int ((i:Nat):Int),.ref pa])
def OutP (c0 c1 c2 c3 c4:Gj)(n:Nat)(M:Int)(H:Hp)(Q:VK)(E:XK):Ou->Prop
 |.inl f=>BadF c0 c1 c2 c3 c4 n H E f
 |.inr S=>∀ l' H',Same H H'->H l'=none->StV H' l' M S->Q (.ref l') H'
def OutL (M:Int)(H:Hp)(Q:VK):Ou->Prop
 |.inl f=>∀ z t3 H',Same H H'->H' z=some (.tup [.ref t3,.non])->RfV H' t3 f->Q (.ref z) H'
 |.inr S=>∀ z l' H',Same H H'->H l'=none->H' z=some (.tup [.non,.ref l'])->StV H' l' M S->Q (.ref z) H'
def IntoO (us:Gq)(ps:Gf)(ws:Gh)(M:Int)(S:List PF)(i:Nat)(d:PF)(rb:Int×Int)(add:Str->Int)(xs:Gh)(o:Ou):Prop:=
 (rb.1*M<tot ws (λy=>d.1 y+add y)*rb.2/\o=.inl (.spilt i M (tot ws (λy=>d.1 y+add y)) rb)) \/
 (¬ rb.1*M<tot ws (λy=>d.1 y+add y)*rb.2/\∃ nm',NmU d.2 xs nm'/\((∃ pa,pairOf us ps nm'=.ref pa/\o=.inl (.touch i pa))\/(pairOf us ps nm'=.non/\o=.inr (S.set i (λy=>d.1 y+add y,nm')))))
def RowO (us:Gq)(ps:Gf)(rbs:Gg)(ws:Gh)(M:Int)(S:List PF)(o:Ou):Rw->Prop
 |.draw i x t b=>∃ d rb,S[i]?=some d/\rbs[i]?=some rb/\IntoO us ps ws (M*b) (scl b S) i (λy=>d.1 y*b,d.2) rb (oneW x (t*M)) [x] o
 |.fill i x t b=>∃ d rb,S[i]?=some d/\rbs[i]?=some rb/\((¬ tot ws d.1*b<t*M/\o=.inl (.low i))\/(tot ws d.1*b<t*M/\IntoO us ps ws (M*b) (scl b S) i (λy=>d.1 y*b,d.2) rb (oneW x (t*M-tot ws d.1*b)) [x] o))
 |.pour i j t b=>∃ di dj rbj,S[i]?=some di/\S[j]?=some dj/\rbs[j]?=some rbj/\(((∀ y,di.1 y=0)/\o=.inl (.dry i))\/(¬ (∀ y,di.1 y=0)/\IntoO us ps ws (M*b) ((scl b S).set i (λy=>di.1 y*b-di.1 y*t,di.2)) j (λy=>dj.1 y*b,dj.2) rbj (λy=>di.1 y*t) di.2 o))
 |.empty i=>∃ d,S[i]?=some d/\o=.inr (S.set i (λ_=>0,d.2))
 |.rinse i=>∃ d,S[i]?=some d/\((¬ (∀ y,d.1 y=0)/\o=.inl (.wet i))\/((∀ y,d.1 y=0)/\o=.inr (S.set i (λ_=>0,[]))))
def rwM (M:Int):Rw->Int
 |.draw _ _ _ b=>M*b
 |.fill _ _ _ b=>M*b
 |.pour _ _ _ b=>M*b
 |_=>M
def aHm (a b:Gh):∃ c,NmU a b c:=by
 have tr:∀ x y z:Str,decide (leS x y)=true->decide (leS y z)=true->decide (leS x z)=true:=λx y z h1 h2=>decide_eq_true (List.le_trans (of_decide_eq_true h1) (of_decide_eq_true h2));have to:∀ x y:Str,(decide (leS x y)||decide (leS y x))=true:=λx y=>by
  rcases List.le_total x.cps.toList y.cps.toList with h|h
  ·rw [decide_eq_true (show leS x y from h)];rfl
  ·rw [decide_eq_true (show leS y x from h),Bool.or_true]
 have p:=List.mergeSort_perm (SX.ddl (a++b)) λx y=>decide (leS x y);have s:=List.pairwise_mergeSort tr to (SX.ddl (a++b));generalize (SX.ddl (a++b)).mergeSort (λx y=>decide (leS x y))=ss at p s;have nd:ss.Nodup:=p.nodup_iff.mpr (SX.ddl_nodup _);refine ⟨ss,?_,λy=>by rw [p.mem_iff,SX.ddl_mem,AS]⟩;refine (List.pairwise_and_iff.mpr ⟨s,nd⟩).imp λ{x y} h=>?_;exact Bg λz=>h.2 (TM.ext (ER (of_decide_eq_true h.1) (List.not_lt.mp z)))
section
variable {us:Gq}{ps:Gf}{rbs:Gg}{ws:Gh}{M:Int}{S:List PF}{H:Hp}{Q:VK}{E:XK}{c0 c1 c2 c3 c4:Gj}{n:Nat}
def qE {i:Nat}{d:PF}{rb:Int×Int}{add:Str->Int}{xs:Gh}(pt:PsT H us ps):∃ o,IntoO us ps ws M S i d rb add xs o:=by
 by_cases c:rb.1*M<tot ws (λy=>d.1 y+add y)*rb.2
 ·exact ⟨_,.inl ⟨c,rfl⟩⟩
 ·obtain ⟨nm,u⟩:=aHm d.2 xs
  rcases jZ (xs:=nm) pt with e|⟨pa,p,e,_,_⟩
  ·exact ⟨_,.inr ⟨c,nm,u,.inr ⟨e,rfl⟩⟩⟩
  ·exact ⟨_,.inr ⟨c,nm,u,.inl ⟨pa,e,rfl⟩⟩⟩
theorem IntoO.r {i:Nat}{d:PF}{rb:Int×Int}{add:Str->Int}{xs:Gh}{o:Ou}(h:IntoO us ps ws M S i d rb add xs o)(k:OutP c0 c1 c2 c3 c4 n M H Q E o):IntoR c3 c4 us ps ws M S i d rb add xs n H Q E:=by
 rcases h with ⟨c,rfl⟩|⟨c,nm',u,⟨pa,e,rfl⟩|⟨e,rfl⟩⟩
 ·exact ⟨λ_=>k,λc'=>absurd c c'⟩
 ·refine ⟨λc'=>absurd c' c,λ_ nm2 u2=>?_⟩
  cases u.uniq u2;exact ⟨λpa' e'=>by rw [e] at e';cases e';exact k,λe'=>by rw [e] at e';cases e'⟩
 ·refine ⟨λc'=>absurd c' c,λ_ nm2 u2=>?_⟩
  cases u.uniq u2;exact ⟨λpa' e'=>(by rw [e] at e';cases e'),λ_=>k⟩
theorem IntoO.l {i:Nat}{d:PF}{rb:Int×Int}{add:Str->Int}{xs:Gh}{o:Ou}(h:IntoO us ps ws M S i d rb add xs o)(k:OutL M H Q o):IntoL us ps ws M S i d rb add xs H Q:=by
 rcases h with ⟨c,rfl⟩|⟨c,nm',u,⟨pa,e,rfl⟩|⟨e,rfl⟩⟩
 ·exact ⟨λ_ z t3 a t b H' s h1 h2 h3 h4=>k z t3 H' s h1 ⟨a,t,b,h2,h3,h4⟩,λc'=>absurd c c'⟩
 ·refine ⟨λc'=>absurd c' c,λ_ nm2 u2=>?_⟩
  cases u.uniq u2;exact ⟨λpa' e' z t3 H' s h1 h2=>by rw [e] at e';cases e';exact k z t3 H' s h1 h2,λe'=>by rw [e] at e';cases e'⟩
 ·refine ⟨λc'=>absurd c' c,λ_ nm2 u2=>?_⟩
  cases u.uniq u2;exact ⟨λpa' e'=>(by rw [e] at e';cases e'),λ_=>k⟩
def IntoO.sok {β i:Nat}{d:PF}{rb:Int×Int}{add:Str->Int}{xs:Gh}{S':List PF}(so:Sok ws rbs M S β)(hd:S[i]?=some d)(hr:rbs[i]?=some rb)(a0:∀ y,0<=add y)(aw:∀ y,add y≠0->y∈ws)(xw:∀ x∈xs,x∈ws)(h:IntoO us ps ws M S i d rb add xs (.inr S')):Sok ws rbs M S' β:=by
 rcases h with ⟨c,e⟩|⟨c,nm',u,⟨pa,e,e2⟩|⟨e,e2⟩⟩
 ·cases e
 ·cases e2
 ·cases e2
  have ok:=so.ok d (Al hd);refine ⟨so.m0,so.bm,by rw [BM];exact so.sl,λd' hd'=>?_,λk d' rb' hd' hr'=>?_⟩
  ·rcases Dh hd' with h|h
   ·exact so.ok d' h
   ·rw [h]
    refine ⟨λy=>Int.add_nonneg (ok.nn y) (a0 y),λy hy=>?_,u.srt,λy hy=>?_⟩
    ·rcases (u.mem y).mp hy with h|h
     ·exact ok.nin y h
     ·exact xw y h
    ·by_cases z:d.1 y=0
     ·exact aw y λz2=>hy (by show d.1 y+add y=0;lia)
     ·exact ok.inw y z
  ·by_cases ik:i=k
   ·subst ik
    rw [CT (Ad.mp hd).1] at hd';cases hd';rw [hr] at hr';cases hr';show tot ws (λy=>d.1 y+add y)*rb.2<=_;lia
   ·rw [Cn ik] at hd'
    exact so.fit k d' rb' hd' hr'
def aCm {nb:Nat}{rw:Rw}(pt:PsT H us ps)(nS:S.length=nb)(nr:rbs.length=nb)(g:GoodR nb ws rw):∃ o,RowO us ps rbs ws M S o rw:=by
 have gS:∀ {i:Nat},i<nb->∃ d rb,S[i]?=some d/\rbs[i]?=some rb:=λ{i} h=>⟨_,_,Ae (by lia),Ae (by lia)⟩;cases rw with
 |draw i x t b=>
  obtain ⟨d,rb,h1,h2⟩:=gS g.1;obtain ⟨o,ho⟩:=qE (ws:=ws) (M:=M*b) (S:=scl b S) (i:=i) (d:=(λy=>d.1 y*b,d.2)) (rb:=rb) (add:=oneW x (t*M)) (xs:=[x]) pt;exact ⟨o,d,rb,h1,h2,ho⟩
 |fill i x t b=>
  obtain ⟨d,rb,h1,h2⟩:=gS g.1
  by_cases c:tot ws d.1*b<t*M
  ·obtain ⟨o,ho⟩:=qE (ws:=ws) (M:=M*b) (S:=scl b S) (i:=i) (d:=(λy=>d.1 y*b,d.2)) (rb:=rb) (add:=oneW x (t*M-tot ws d.1*b)) (xs:=[x]) pt
   exact ⟨o,d,rb,h1,h2,.inr ⟨c,ho⟩⟩
  ·exact ⟨_,d,rb,h1,h2,.inl ⟨c,rfl⟩⟩
 |pour i j t b=>
  obtain ⟨di,_,h1,_⟩:=gS g.1;obtain ⟨dj,rbj,h2,h3⟩:=gS g.2.1
  by_cases c:∀ y,di.1 y=0
  ·exact ⟨_,di,dj,rbj,h1,h2,h3,.inl ⟨c,rfl⟩⟩
  ·obtain ⟨o,ho⟩:=qE (ws:=ws) (M:=M*b) (S:=(scl b S).set i (λy=>di.1 y*b-di.1 y*t,di.2)) (i:=j) (d:=(λy=>dj.1 y*b,dj.2)) (rb:=rbj) (add:=λy=>di.1 y*t) (xs:=di.2) pt
   exact ⟨o,di,dj,rbj,h1,h2,h3,.inr ⟨c,ho⟩⟩
 |empty i=>
  obtain ⟨d,_,h1,_⟩:=gS (show i<nb from g);exact ⟨_,d,h1,rfl⟩
 |rinse i=>
  obtain ⟨d,_,h1,_⟩:=gS (show i<nb from g)
  by_cases c:∀ y,d.1 y=0
  ·exact ⟨_,d,h1,.inr ⟨c,rfl⟩⟩
  ·exact ⟨_,d,h1,.inl ⟨c,rfl⟩⟩
theorem RowO.p {rw:Rw}{o:Ou}(h:RowO us ps rbs ws M S o rw)(k:OutP c0 c1 c2 c3 c4 n (rwM M rw) H Q E o):ResP c0 c1 c2 c3 c4 us ps rbs ws M S n H Q E rw:=by
 cases rw with
 |draw i x t b=>
  obtain ⟨d,rb,h1,h2,h3⟩:=h;exact ⟨d,rb,h1,h2,h3.r k⟩
 |fill i x t b=>
  obtain ⟨d,rb,h1,h2,h3⟩:=h;refine ⟨d,rb,h1,h2,?_⟩
  rcases h3 with ⟨c,rfl⟩|⟨c,h3⟩
  ·exact ⟨λ_=>k,λc'=>absurd c' c⟩
  ·exact ⟨λc'=>absurd c c',λ_=>h3.r k⟩
 |pour i j t b=>
  obtain ⟨di,dj,rbj,h1,h2,h3,h4⟩:=h;refine ⟨di,dj,rbj,h1,h2,h3,?_⟩
  rcases h4 with ⟨c,rfl⟩|⟨c,h4⟩
  ·exact ⟨λ_=>k,λc'=>absurd c c'⟩
  ·exact ⟨λc'=>absurd c' c,λ_=>h4.r k⟩
 |empty i=>
  obtain ⟨d,h1,rfl⟩:=h;exact ⟨d,h1,k⟩
 |rinse i=>
  obtain ⟨d,h1,h2⟩:=h;refine ⟨d,h1,?_⟩
  rcases h2 with ⟨c,rfl⟩|⟨c,rfl⟩
  ·exact ⟨λ_=>k,λc'=>absurd c' c⟩
  ·exact ⟨λc'=>absurd c c',λ_=>k⟩
theorem RowO.l {rw:Rw}{o:Ou}(h:RowO us ps rbs ws M S o rw)(k:OutL (rwM M rw) H Q o):ResL us ps rbs ws M S H Q rw:=by
 cases rw with
 |draw i x t b=>
  obtain ⟨d,rb,h1,h2,h3⟩:=h;exact ⟨d,rb,h1,h2,h3.l k⟩
 |fill i x t b=>
  obtain ⟨d,rb,h1,h2,h3⟩:=h;refine ⟨d,rb,h1,h2,?_⟩
  rcases h3 with ⟨c,rfl⟩|⟨c,h3⟩
  ·exact ⟨λ_=>k,λc'=>absurd c' c⟩
  ·exact ⟨λc'=>absurd c c',λ_=>h3.l k⟩
 |pour i j t b=>
  obtain ⟨di,dj,rbj,h1,h2,h3,h4⟩:=h;refine ⟨di,dj,rbj,h1,h2,h3,?_⟩
  rcases h4 with ⟨c,rfl⟩|⟨c,h4⟩
  ·exact ⟨λ_=>k,λc'=>absurd c c'⟩
  ·exact ⟨λc'=>absurd c' c,λ_=>h4.l k⟩
 |empty i=>
  obtain ⟨d,h1,rfl⟩:=h;exact ⟨d,h1,k⟩
 |rinse i=>
  obtain ⟨d,h1,h2⟩:=h;refine ⟨d,h1,?_⟩
  rcases h2 with ⟨c,rfl⟩|⟨c,rfl⟩
  ·exact ⟨λ_=>k,λc'=>absurd c' c⟩
  ·exact ⟨λc'=>absurd c c',λ_=>k⟩
theorem aCa {f g:Str->Int}(h:∀ y,f y<=g y):∀ ws:Gh,tot ws f<=tot ws g
 |[]=>Dy _
 |y::r=>by
  have ih:=aCa h r;have:=h y;unfold tot at ih ⊢;rw [Ak,Ak,AH,AH];lia
theorem qY:∀ ws:Gh,tot ws (λ_=>0)=0
 |[]=>rfl
 |y::r=>by
  have ih:=qY r;unfold tot at ih ⊢;rw [Ak,AH,ih];rfl
def Sok.put {β i:Nat}{d d':PF}(so:Sok ws rbs M S β)(rp:∀ (i:Nat) rb,rbs[i]?=some rb->0<=rb.2)(hd:S[i]?=some d)(ok:Okf ws d')(le:∀ y,d'.1 y<=d.1 y):Sok ws rbs M (S.set i d') β:=by
 refine ⟨so.m0,so.bm,by rw [BM];exact so.sl,λe he=>?_,λk e rb he hr=>?_⟩
 ·rcases Dh he with h|h
  ·exact so.ok e h
  ·rw [h];exact ok
 ·by_cases ik:i=k
  ·subst ik
   rw [CT (Ad.mp hd).1] at he;cases he;exact Int.le_trans (EN (aCa le ws) (rp i rb hr)) (so.fit i d rb hd hr)
  ·rw [Cn ik] at he
   exact so.fit k e rb he hr
def Sok.mono {β γ:Nat}(so:Sok ws rbs M S β)(h:β<=γ):Sok ws rbs M S γ:=⟨so.m0,so.bm.mono h,so.sl,so.ok,so.fit⟩
def xK {x:Str}{n:Int}(h:0<=n)(y:Str):0<=oneW x n y:=by
 unfold oneW;split
 ·exact h
 ·exact Dy _
def xM {x:Str}{n:Int}(h:x∈ws)(y:Str)(hy:oneW x n y≠0):y∈ws:=by
 unfold oneW at hy;split at hy
 ·rename_i e;rw [<- e];exact h
 ·exact absurd rfl hy
def vS {x:Str}(h:x∈ws):∀ y∈[x],y∈ws:=λy hy=>by rw [AA.mp hy];exact h
def RowO.sok {β nb:Nat}{rw:Rw}{S':List PF}(so:Sok ws rbs M S β)(rp:∀ (i:Nat) rb,rbs[i]?=some rb->0<=rb.2)(g:GoodR nb ws rw)(l1:rwb rw<=10000)(h:RowO us ps rbs ws M S (.inr S') rw):Sok ws rbs (rwM M rw) S' (β+14):=by
 have M0:=so.m0;have b7:∀ {t b:Int},RwA t b->b<=10000->0<b/\Bt 14 b:=λ{t b} a l=>by
  have:=a.am.b1;exact ⟨by lia,bR 14 (c:=10001) (by lia) (by lia)⟩
 cases rw with
 |draw i x t b=>
  obtain ⟨d,rb,h1,h2,h3⟩:=h;obtain ⟨g1,g2,g3,g4⟩:=g;obtain ⟨b0,bb⟩:=b7 g3 l1;exact IntoO.sok (so.scale b0 bb) (fN h1) h2 (xK (Bv (by lia) (by lia))) (xM g2) (vS g2) h3
 |fill i x t b=>
  obtain ⟨d,rb,h1,h2,h3⟩:=h;obtain ⟨g1,g2,g3⟩:=g;obtain ⟨b0,bb⟩:=b7 g3 l1
  rcases h3 with ⟨c,e⟩|⟨c,h3⟩
  ·cases e
  ·exact IntoO.sok (so.scale b0 bb) (fN h1) h2 (xK (by lia)) (xM g2) (vS g2) h3
 |pour i j t b=>
  obtain ⟨di,dj,rbj,h1,h2,h3,h4⟩:=h;obtain ⟨g1,g2,g3,g4,g5,g6⟩:=g;obtain ⟨b0,bb⟩:=b7 g4 l1
  rcases h4 with ⟨c,e⟩|⟨c,h4⟩
  ·cases e
  ·have ok:=so.ok di (Al h1)
   have tn:∀ y,0<=di.1 y*t:=λy=>Bv (ok.nn y) (by lia);have s1:=(so.scale b0 bb).put (d':=(λy=>di.1 y*b-di.1 y*t,di.2)) rp (fN h1) ⟨λy=>by
    have:=CJ g6 (ok.nn y);show 0<=di.1 y*b-di.1 y*t;lia,ok.nin,ok.srt,λy hy=>ok.inw y λe=>hy (by show di.1 y*b-di.1 y*t=0;rw [e,Bo,Bo];rfl)⟩ (λy=>by
    have:=tn y;show di.1 y*b-di.1 y*t<=di.1 y*b;lia)
   exact IntoO.sok s1 (by rw [Cn g3];exact fN h2) h3 tn (λy hy=>ok.inw y λe=>hy (by show di.1 y*t=0;rw [e,Bo])) ok.nin h4
 |empty i=>
  obtain ⟨d,h1,e⟩:=h;cases e;have ok:=so.ok d (Al h1);exact (so.put (d':=(λ_=>0,d.2)) rp h1 ⟨λ_=>Dy _,ok.nin,ok.srt,λy hy=>absurd rfl hy⟩ ok.nn).mono (Nat.le_add_right ..)
 |rinse i=>
  obtain ⟨d,h1,h2⟩:=h;have ok:=so.ok d (Al h1)
  rcases h2 with ⟨c,e⟩|⟨c,e⟩
  ·cases e
  ·cases e
   exact (so.put (d':=(λ_=>0,[])) rp h1 ⟨λ_=>Dy _,(λy hy=>by cases hy),.nil,λy hy=>absurd rfl hy⟩ ok.nn).mono (Nat.le_add_right ..)
def dPh (M:Int)(d:PF)(D:Dt):Prop:=∃ ys,IsMx M d.1 ys/\D=.t [.t (ys.map dOf),.t (d.2.map Dt.s)]
end
inductive Ends (us:Gq)(ps:Gf)(rbs:Gg)(ws:Gh):Int->List PF->List (Option Rw)->Option (Int×List PF)->Prop
 |nil {M S}:Ends us ps rbs ws M S [] (some (M,S))
 |odd {M S rs}:Ends us ps rbs ws M S (none::rs) none
 |bad {M S r rs f}:RowO us ps rbs ws M S (.inl f) r->Ends us ps rbs ws M S (some r::rs) none
 |step {M S r rs S' o}:RowO us ps rbs ws M S (.inr S') r->Ends us ps rbs ws (rwM M r) S' rs o->Ends us ps rbs ws M S (some r::rs) o
def GRs (nb:Nat)(ws:Gh)(rws:List (Option Rw)):Prop:=∀ r,some r∈rws->GoodR nb ws r/\rwb r<=100
section
variable {us:Gq}{ps:Gf}{rbs:Gg}{ws:Gh}
theorem Ends.ex {H:Hp}(pt:PsT H us ps)(rp:∀ (i:Nat) rb,rbs[i]?=some rb->0<=rb.2):∀ {rws:List (Option Rw)} {M:Int} {S:List PF} {β:Nat},Sok ws rbs M S β->GRs rbs.length ws rws->∃ o,Ends us ps rbs ws M S rws o
 |[],M,S,β,so,g=>⟨_,.nil⟩
 |none::rs,M,S,β,so,g=>⟨none,.odd⟩
 |some r::rs,M,S,β,so,g=>by
  obtain ⟨gd,l1⟩:=g r (Ar ..);obtain ⟨o,ro⟩:=aCm (H:=H) (us:=us) (ps:=ps) (rbs:=rbs) (ws:=ws) (M:=M) (S:=S) pt so.sl rfl gd;cases o with
  |inl f=>exact ⟨none,.bad ro⟩
  |inr S'=>
   obtain ⟨o,h⟩:=Ends.ex pt rp (RowO.sok so rp gd (by lia) ro) λx hx=>g x (Ah _ hx);exact ⟨o,.step ro h⟩
def Ends.sok (rp:∀ (i:Nat) rb,rbs[i]?=some rb->0<=rb.2){rws:List (Option Rw)}{M:Int}{S:List PF}{o:Option (Int×List PF)}(h:Ends us ps rbs ws M S rws o):∀ {β:Nat},Sok ws rbs M S β->GRs rbs.length ws rws->∀ M' S',o=some (M',S')->Sok ws rbs M' S' (β+14*rws.length):=by
 induction h with
 |nil=>intro β so g M' S' e;cases e;exact so
 |odd=>intro β so g M' S' e;cases e
 |bad=>intro β so g M' S' e;cases e
 |@step M S r rs S1 o ro h ih=>
  intro β so g M' S' e;obtain ⟨gd,l1⟩:=g r (Ar ..);have:=ih (RowO.sok so rp gd (by lia) ro) (λx hx=>g x (Ah _ hx)) M' S' e;rw [AX,show β+14*(rs.length+1)=β+14+14*rs.length by lia];exact this
def Ends.snoc {rws:List (Option Rw)}{M:Int}{S:List PF}{o:Option (Int×List PF)}(h:Ends us ps rbs ws M S rws o):∀ {M':Int} {S' S'':List PF} {r:Rw},o=some (M',S')->RowO us ps rbs ws M' S' (.inr S'') r->Ends us ps rbs ws M S (rws++[some r]) (some (rwM M' r,S'')):=by
 induction h with
 |nil=>intro M' S' S'' r e ro;cases e;exact .step ro .nil
 |odd=>intro M' S' S'' r e ro;cases e
 |bad=>intro M' S' S'' r e ro;cases e
 |step r1 h ih=>intro M' S' S'' r e ro;exact .step r1 (ih e ro)
end
def Sv1 (M:Int)(d:PF)(M0:Int)(d0:PF):Prop:=(∀ y,d.1 y*M0=d0.1 y*M)/\∀ n∈d.2,n∈d0.2
def SvO (g:Nat)(M0:Int)(d0:PF):Option (Int×List PF)->Prop
 |none=>False
 |some (M,S)=>∃ d,S[g]?=some d/\Sv1 M d M0 d0
def oS {N1 N2:Int}(h1:0<N1)(h2:0<N2){f1 f2:Str->Int}{zs1 zs2:Gc}(m1:IsMx N1 f1 zs1)(m2:IsMx N2 f2 zs2):zs1=zs2↔∀ y,f1 y*N2=f2 y*N1:=by
 constructor
 ·intro e y
  subst e
  by_cases hy:y∈zs1.map (·.1)
  ·obtain ⟨p,hp,rfl⟩:=AE.mp hy
   have a1:=m1.fr p hp;have a2:=m2.fr p hp;have e1:=a1.e;have e2:=a2.e;have b1:=a1.am.b1;refine Bl (show p.2.2≠0 by lia) ?_
   grind
  ·have z1:f1 y=0:=by
    by_cases z:f1 y=0
    ·exact z
    ·exact absurd ((m1.mem y).mpr z) hy
   have z2:f2 y=0:=by
    by_cases z:f2 y=0
    ·exact z
    ·exact absurd ((m2.mem y).mpr z) hy
   rw [z1,z2,Bo,Bo]
 ·intro e
  have k1:IsMx (N1*N2) (λy=>f1 y*N2) zs1:=⟨m1.pw,m1.nd,λy=>by
   rw [m1.mem];exact ⟨λz q=>(DP.mp q).elim z (by lia),λz q=>z (by rw [q,Bo])⟩,λp hp=>⟨(m1.fr p hp).am,by have:=(m1.fr p hp).e;grind⟩⟩
  have k2:IsMx (N1*N2) (λy=>f1 y*N2) zs2:=⟨m2.pw,m2.nd,λy=>by
   rw [m2.mem,e y];exact ⟨λz q=>(DP.mp q).elim z (by lia),λz q=>z (by rw [q,Bo])⟩,λp hp=>⟨(m2.fr p hp).am,by have:=(m2.fr p hp).e;have:=e p.1;grind⟩⟩
  exact k1.uniq (Cp h1 h2) k2
def deq2 {K:Ab}{H:Hp}{p q:Gj}{t b t' b':Int}(h:H p=some (.tup [.int t,.int b]))(k:H q=some (.tup [.int t',.int b'])):DEq K H 39 (.ref p) (.ref q) (decide (t=t'/\b=b')):=by
 by_cases e:p=q
 ·subst e
  rw [h] at k;injection k with k;injection k with k;injection k with k1 k2;injection k2 with k2;injection k1 with k1;injection k2 with k2;rw [decide_eq_true ⟨k1,k2⟩];exact .same
 ·have d:=DEq.tup (n:=38) (K:=K) (H:=H) (e:=λj=>if j=0 then eqV (.int t) (.int t') else eqV (.int b) (.int b')) e (Gv h) (Gv k) λj x y hx hy=>by
   match j,hx,hy with
   |0,hx,hy=>cases hx;cases hy;exact .flat rfl rfl
   |1,hx,hy=>cases hx;cases hy;exact .flat rfl rfl
   |j+2,hx,_=>simp at hx
  have e2:((AV (min [V.int t,V.int b].length [V.int t',V.int b'].length)).all (λj=>if j=0 then eqV (.int t) (.int t') else eqV (.int b) (.int b'))&&[V.int t,V.int b].length==[V.int t',V.int b'].length)=decide (t=t'/\b=b'):=by
   show ((AV 2).all _&&true)=_;have:AV 2=[0,1]:=rfl;rw [this,Cy];simp [eqV]
  rw [e2] at d;exact d
def deqP {K:Ab}{H:Hp}{u v:V}{x y:Str×Int×Int}(h:Pr H u x)(k:Pr H v y):DEq K H 40 u v (decide (x=y)):=by
 obtain ⟨p,q,rfl,h1,h2⟩:=h;obtain ⟨p',q',rfl,k1,k2⟩:=k
 by_cases e:p=p'
 ·subst e
  rw [h1] at k1;injection k1 with k1;injection k1 with k1;injection k1 with e1 e2;injection e2 with e2;injection e1 with e1;injection e2 with e2;subst e2;rw [h2] at k2;injection k2 with k2;injection k2 with k2;injection k2 with e3 e4;injection e4 with e4;injection e3 with e3;injection e4 with e4;have:x=y:=Prod.ext e1 (Prod.ext e3 e4);rw [decide_eq_true this];exact .same
 ·have d:=DEq.tup (n:=39) (K:=K) (H:=H) (e:=λj=>if j=0 then eqV (.str x.1) (.str y.1) else decide (x.2.1=y.2.1/\x.2.2=y.2.2)) e (Gv h1) (Gv k1) λj a b ha hb=>by
   match j,ha,hb with
   |0,ha,hb=>cases ha;cases hb;exact .flat rfl rfl
   |1,ha,hb=>cases ha;cases hb;exact deq2 h2 k2
   |j+2,ha,_=>simp at ha
  have e2:((AV (min [V.str x.1,V.ref q].length [V.str y.1,V.ref q'].length)).all (λj=>if j=0 then eqV (.str x.1) (.str y.1) else decide (x.2.1=y.2.1/\x.2.2=y.2.2))&&[V.str x.1,V.ref q].length==[V.str y.1,V.ref q'].length)=decide (x=y):=by
   show ((AV 2).all _&&true)=_;have:AV 2=[0,1]:=rfl;rw [this];obtain ⟨x1,x2,x3⟩:=x;obtain ⟨y1,y2,y3⟩:=y;rw [Cy];simp [eqV]
  rw [e2] at d;exact d
theorem oR:∀ (xs ys:Gc),((AV (min xs.length ys.length)).all (λj=>decide (xs[j]?=ys[j]?))&&xs.length==ys.length)=decide (xs=ys):=by
 intro xs ys
 by_cases e:xs=ys
 ·subst e
  simp
 ·rw [decide_eq_false e]
  by_cases l:xs.length=ys.length
  ·have:¬ ((AV (min xs.length ys.length)).all (λj=>decide (xs[j]?=ys[j]?)))=true:=by
    intro h;rw [CG] at h;refine e (ED λi=>?_)
    by_cases hi:i<xs.length
    ·exact of_decide_eq_true (h i (CM.mpr (by lia)))
    ·rw [AY (by lia),AY (by lia)]
   rw [EL];exact .inl (by simpa using this)
  ·rw [EL]
   exact .inr (by simpa using l)
def rEqP (K:Ab):R2:=λx y H Q=>∃ a b us vs xs ys,x=.ref a/\y=.ref b/\SqT K H a us/\SqT K H b vs/\PrL H us xs/\PrL H vs ys/\Q (.bl (decide (xs=ys))) H
def rNeP (K:Ab):R2:=λx y H Q=>∃ a b us vs xs ys,x=.ref a/\y=.ref b/\SqT K H a us/\SqT K H b vs/\PrL H us xs/\PrL H vs ys/\Q (.bl (!decide (xs=ys))) H
def deqs {K:Ab}{H:Hp}{us vs:Gq}{xs ys:Gc}(h:PrL H us xs)(k:PrL H vs ys):∀ (j:Nat) u v,us[j]?=some u->vs[j]?=some v->DEq K H 40 u v (decide (xs[j]?=ys[j]?)):=λj u v hu hv=>by
 obtain ⟨x,hx,px⟩:=h.get hu;obtain ⟨y,hy,py⟩:=k.get hv;have d:=deqP (K:=K) px py;have e:decide (xs[j]?=ys[j]?)=decide (x=y):=by rw [hx,hy];exact decide_eq_decide.mpr ⟨AF,congrArg some⟩
 rw [e];exact d
def aHa {X:Cx}(hu:X.A.units+64<cLine):OpR X (BB .Eq) (rEqP X.K):=by
 intro U s Z H x y v u Q I rx ry h;obtain ⟨a,b,us,vs,xs,ys,rfl,rfl,hx,hy,k1,k2,q⟩:=h;refine aCu hu U s Z H _ _ v u Q I rx ry ⟨a,b,us,vs,_,rfl,rfl,hx,hy,deqs k1 k2,?_⟩;rw [k1.length,k2.length,oR];exact q
def aG7 {X:Cx}(hu:X.A.units+64<cLine):OpR X (BB .NotEq) (rNeP X.K):=by
 intro U s Z H x y v u Q I rx ry h;obtain ⟨a,b,us,vs,xs,ys,rfl,rfl,hx,hy,k1,k2,q⟩:=h;refine xD hu U s Z H _ _ v u Q I rx ry ⟨a,b,us,vs,_,rfl,rfl,hx,hy,deqs k1 k2,?_⟩;rw [k1.length,k2.length,oR];exact q
def fcl (c0 c1 c2 c3 c4:Gj):Fat->Gj
 |.dry _=>c0
 |.low _=>c1
 |.wet _=>c2
 |.spilt ..=>c3
 |.touch ..=>c4
def aB5 {c0 c1 c2 c3 c4:Gj}{n:Nat}{H:Hp}{E:XK}{f:Fat}(h:∀ dx H',Same H H'->E (.ref (fcl c0 c1 c2 c3 c4 f)) (some dx) H'):BadF c0 c1 c2 c3 c4 n H E f:=by
 cases f with
 |dry i=>exact λdx H' s _=>h dx H' s
 |low i=>exact λdx H' s _=>h dx H' s
 |wet i=>exact λdx H' s _=>h dx H' s
 |spilt i M N rb=>exact λa t b dx H' s _ _ _=>h dx H' s
 |touch i pa=>exact λdx H' s _=>h dx H' s
def ErB.ck {K:Ab}{mg:Gb}{cP c0 c1 c2 c3 c4 c5 f0 f1 f2 f3 f4 f5:Gj}(R:ErB K mg cP c0 c1 c2 c3 c4 c5 f0 f1 f2 f3 f4 f5)(f:Fat):PySem.W.subIn K (.ref (fcl c0 c1 c2 c3 c4 f)) (.ref cP)=some true/\∃ g,ExI K (fcl c0 c1 c2 c3 c4 f) cP g:=by
 cases f with
 |dry i=>exact ⟨R.r0.s,_,(R.r0.e "place" (by simp)).i⟩
 |low i=>exact ⟨R.r1.s,_,(R.r1.e "place" (by simp)).i⟩
 |wet i=>exact ⟨R.r2.s,_,(R.r2.e "place" (by simp)).i⟩
 |spilt i M N rb=>exact ⟨R.r3.s,_,(R.r3.e "place" (by simp)).i⟩
 |touch i pa=>exact ⟨R.r4.s,_,(R.r4.e "place" (by simp)).i⟩
def RowV (H:Hp)(v:V):Option Rw->Prop
 |some r=>∃ a,v=.ref a/\RwV H a r
 |none=>OddV H v
def RowV.keep {H H':Hp}{v:V}{o:Option Rw}(s:Same H H')(h:RowV H v o):RowV H' v o:=by
 cases o with
 |some r=>obtain ⟨a,e,q⟩:=h;exact ⟨a,e,q.keep s⟩
 |none=>exact OddV.keep s h
structure RwsV (H:Hp)(l:Gj)(rws:List (Option Rw))(vs:Gq):Prop where
 hl:H l=some (.lst vs)
 ln:vs.length=rws.length
 at':∀ (i:Nat) v o,vs[i]?=some v->rws[i]?=some o->RowV H v o
def RwsV.keep {H H':Hp}{l:Gj}{rws:List (Option Rw)}{vs:Gq}(s:Same H H')(h:RwsV H l rws vs):RwsV H' l rws vs:=⟨s _ _ h.hl,h.ln,λi v r hv hr=>(h.at' i v r hv hr).keep s⟩
theorem RwsV.get {H:Hp}{l:Gj}{rws:List (Option Rw)}{vs:Gq}{i:Nat}{v:V}(h:RwsV H l rws vs)(hv:vs[i]?=some v):∃ o,rws[i]?=some o/\RowV H v o:=by
 obtain ⟨r,hr⟩:∃ r,rws[i]?=some r:=⟨_,Ae (by rw [<- h.ln];exact (Ad.mp hv).1)⟩;exact ⟨r,hr,h.at' i v r hv hr⟩
def BS.rp {H:Hp}{b r q:Gj}{rs us:Gq}{ps:Gf}{rbs:Gg}{ws:Gh}(h:BS H b r q rs us ps rbs ws):(∀ (i:Nat) rb,rbs[i]?=some rb->0<=rb.1)/\∀ (i:Nat) rb,rbs[i]?=some rb->0<=rb.2:=⟨λi rb hr=>by have:=(h.rm.at hr).1;lia,λi rb hr=>by have:=(h.rm.at hr).b1;lia⟩
structure WIn (H:Hp)(b r q ph rl:Gj)(rs us:Gq)(ps:Gf)(rbs:Gg)(ws:Gh)(M:Int)(S:List PF)(β:Nat)(rws:List (Option Rw))(rv:Gq):Prop where
 on:OnIn H b r q ph rs us ps rbs ws M S β
 rw':RwsV H rl rws rv
 gd:GRs rbs.length ws rws
 l60:rws.length<=60
 bl:β+14*rws.length<=2400
def WIn.keep {H H':Hp}{b r q ph rl:Gj}{rs us:Gq}{ps:Gf}{rbs:Gg}{ws:Gh}{M:Int}{S:List PF}{β:Nat}{rws:List (Option Rw)}{rv:Gq}(s:Same H H')(h:WIn H b r q ph rl rs us ps rbs ws M S β rws rv):WIn H' b r q ph rl rs us ps rbs ws M S β rws rv:=⟨h.on.keep s,h.rw'.keep s,h.gd,h.l60,h.bl⟩
inductive spWalked (c0 c1 c2 c3 c4 c5:Gj)(vs:Gq)(H:Hp)(Q:VK)(E0:XK):Prop
 |mk (b r q ph rl rs us ps rbs ws M S β rws rv o:_) (e0:vs=[.ref b,.ref ph,.ref rl]) (e1:WIn H b r q ph rl rs us ps rbs ws M S β rws rv) (en:Ends us ps rbs ws M S rws o) (e2:∀ M' S',o=some (M',S')->∀ l' H',Same H H'->StV H' l' M' S'->Sok ws rbs M' S' (β+14*rws.length)->Q (.ref l') H') (e3:o=none->∀ c dx H',(∃ f,c=fcl c0 c1 c2 c3 c4 f)\/c=c5->Same H H'->E0 (.ref c) (some dx) H'):spWalked c0 c1 c2 c3 c4 c5 vs H Q E0
inductive spLeaves (vs:Gq)(H:Hp)(Q:VK)(E0:XK):Prop
 |mk (b r q ph rl rs us ps rbs ws M S β rws rv o g M0 d0 wv:_) (e0:vs=[.ref b,.ref ph,.ref rl,.int ((g:Nat):Int),wv]) (e1:WIn H b r q ph rl rs us ps rbs ws M S β rws rv) (en:Ends us ps rbs ws M S rws o) (hw:PhA H M0 wv d0) (m0:0<M0) (hg:g<rbs.length) (kk:∀ (x:Bool) H',Same H H'->(x=true↔SvO g M0 d0 o)->Q (.bl x) H'):spLeaves vs H Q E0
def aB4 {rel:Nat->Prop}:∀ (ys:Gq),(∀ (i:Nat) y,ys[i]?=some y->∃ b:Bool,y=.bl b/\(b=true↔rel i))->∃ bs:List Bool,ys=bs.map V.bl/\(bs.all id=true↔∀ i,i<ys.length->rel i):=by
 intro ys
 induction ys generalizing rel with
 |nil=>exact λ_=>⟨[],rfl,by simp⟩
 |cons y r ih=>
  intro h;obtain ⟨b,rfl,hb⟩:=h 0 y rfl;obtain ⟨bs,rfl,hs⟩:=ih (rel:=λi=>rel (i+1)) λi z hz=>h (i+1) z (by simpa using hz);refine ⟨b::bs,rfl,?_⟩;rw [List.all_cons,BG,hs];show (b=true/\_)↔_;rw [hb];constructor
  ·rintro ⟨h0,h1⟩ i hi
   cases i with
   |zero=>exact h0
   |succ i=>exact h1 i (by simpa using hi)
  ·intro h2
   exact ⟨h2 0 (by simp),λi hi=>h2 (i+1) (by simpa using hi)⟩
def uE {X:Cx}{K:Ab}(h:X.K=K):OpR X (BB .In) (rIn K false):=h▸eT
def aG5 {P:Aw}{w:World}{X:Cx}:hJ (CXg P w) X E0:=λ_ _ _ _ _ _ _ h=>by
 obtain ⟨_,_,_,_,_,_,h⟩:=h;exact h.elim
inductive spServ (vs:Gq)(H:Hp)(Q:VK)(E0:XK):Prop
 |mk (b r q ph rl ol rs us ps rbs ws M S β rws rv xs xv o g M1 S1 d1:_) (e0:vs=[.ref b,.ref ph,.ref rl,.ref ol,.int ((g:Nat):Int)]) (e1:WIn H b r q ph rl rs us ps rbs ws M S β rws rv) (en:Ends us ps rbs ws M S rws (some (M1,S1))) (hd:S1[g]?=some d1) (m1:0<M1) (e2:WIn H b r q ph ol rs us ps rbs ws M S β xs xv) (eo:Ends us ps rbs ws M S xs o) (kk:∀ (x:Bool) H',Same H H'->(x=true↔SvO g M1 d1 o)->Q (.bl x) H'):spServ vs H Q E0
def ndNm:(["name","wanted"]:Gh).Nodup:=by decide +kernel
section
variable {P:Aw}{w:World}{K:Ab}{mg:Gb}{base:Heap}{cP c0 c1 c2 c3 c4 c5 f0 f1 f2 f3 f4 f5:Gj}
def gK:FnScope ["bench","phials","rows","behind","place","row"] ["bench","phials","rows"] (aH pG):=fnScOk (by decide +kernel)
def xO {f:Gj}{fd:Az}(F:Fun K "walked" "walked" pG f fd)(T:Txt mg)(cD:Cal P w K mg base (CXg P w) 8 "done_at" ["bench","phials","row","place"] (spDoneAt K c0 c1 c2 c3 c4 c5)):FnOk P w K mg base (CXg P w) 9 f fd ["bench","phials","rows"] (spWalked c0 c1 c2 c3 c4 c5):=by
 refine F.okFA gK (λcdv A outer s H vs Q E hr h=>?_)
 ·obtain ⟨b,r,q,ph,rl,rs,us,ps,rbs,ws,M,S,β,rws,rv,o,rfl,wi,en,k,kb⟩:=h
  refine ⟨_,(aD (aJ (i:=3) gK.nd (aV bA rfl T.list' dN (aA (pv 1) aC)))
   (aD (dA BP.leaving rfl (aEm rfl T.enum' (aA (pv 2) aC)) (fR rfl (bE (aR (i:=4) gK.nd) (bE (aR (i:=5) gK.nd) eD)))
    (aE (aJ (i:=3) gK.nd (jX cD hr rfl lG (aA (pv 0) (aA (pv 3) (aA (pv 5) (aA (pv 4) aC))))))))
   (aE (aM (pv 3))))),?_⟩
  refine cut3 ?_
  intros
  obtain ⟨vs,hv,vl,va⟩:=wi.on.st.ex;have l60:=wi.l60;have bl:=wi.bl;have rp:=wi.on.bs.rp.2;have rsl:=wi.on.bs.rm.1;refine ⟨_,rfl,ph,_,rfl,.inl (Gw hv),λl nl=>?_⟩;have sl:=Gu (o:=.lst vs) nl;have st1:StV (upd H l (.lst vs)) l M S:=⟨vs,aB,vl,λi v d h1 h2=>(va i v d h1 h2).keep sl⟩;generalize upd H l (.lst vs)=H1 at sl st1 ⊢;refine ⟨_,rfl,rl,rfl,⟨_,Gw (wi.rw'.keep sl).hl⟩,?_⟩;refine aBy (ys:=rv) (λi Z H'=>∃ (l':Gj) (M':Int) (S':List PF) (v4 v5:Gr),Z=[some (.ref b),some (.ref ph),some (.ref rl),some (.ref l'),v4,v5]/\Same H H'/\StV H' l' M' S'/\Sok ws rbs M' S' (β+14*i)/\Ends us ps rbs ws M' S' (rws.drop i) o) ⟨l,M,S,none,none,rfl,sl,st1,wi.on.so,en⟩ (λi Z H' _ hh=>by obtain ⟨_,_,_,_,_,_,sm,_⟩:=hh;exact Gw (wi.rw'.keep sm).hl) ?_ ?_
  ·intro i y Tt Z H2 hy nT hh
   obtain ⟨l',M',S',v4,v5,rfl,s2,st2,so,ee⟩:=hh;have sT:=Gu (o:=.tup [.int (i:Nat),y]) nT;have s3:=s2.trans sT;obtain ⟨o',hrw,rk⟩:=(wi.rw'.keep s3).get hy;obtain ⟨il,ei⟩:=Ad.mp hrw;rw [Ed il,ei] at ee;refine ⟨Tt,_,rfl,Gv aB,rfl,_,_,rfl,_,_,rfl,rfl,?_⟩;have oi:OnIn (upd H2 Tt (.tup [.int (i:Nat),y])) b r q l' rs us ps rbs ws M' S' (β+14*i):=⟨wi.on.bs.keep s3,st2.keep sT,so,by lia⟩;generalize upd H2 Tt (.tup [.int (i:Nat),y])=H3 at sT s3 rk oi ⊢;cases ee with
   |odd=>exact ⟨_,rfl,_,rfl,_,rfl,_,rfl,.odd b r q l' rs us ps rbs ws y i rfl (by lia) oi.bs rk (λdx H4 s4 _=>kb rfl _ dx H4 (.inr rfl) (s3.trans s4))⟩
   |@bad _ _ rw' _ f ro=>
    obtain ⟨a,rfl,rv3⟩:=rk;obtain ⟨a1,a2⟩:=wi.gd rw' (Al hrw);exact ⟨_,rfl,_,rfl,_,rfl,_,rfl,.mk b r q l' a rs us ps rbs ws _ _ _ rw' i rfl (by lia) oi rv3 (by rw [rsl];exact a1) (ro.p (aB5 λdx H4 s4=>kb rfl _ dx H4 (.inl ⟨_,rfl⟩) (s3.trans s4)))⟩
   |@step _ _ rw' _ _ _ ro ee=>
    obtain ⟨a,rfl,rv3⟩:=rk;obtain ⟨a1,a2⟩:=wi.gd rw' (Al hrw);exact ⟨_,rfl,_,rfl,_,rfl,_,rfl,.mk b r q l' a rs us ps rbs ws _ _ _ rw' i rfl (by lia) oi rv3 (by rw [rsl];exact a1) (ro.p λl2 H4 s4 nl2 st4=>⟨l2,_,_,_,_,rfl,s3.trans s4,st4,RowO.sok so rp a1 (by lia) ro,ee⟩)⟩
  ·intro Z H2 hh
   obtain ⟨l',M',S',v4,v5,rfl,s2,st2,so,ee⟩:=hh;rw [wi.rw'.ln] at so ee;rw [List.drop_length] at ee;cases ee;exact ⟨_,rfl,k _ _ rfl l' H2 s2 st2 so⟩
def rJ:FnScope ["bench","phials","rows","goal","wanted","behind"] ["bench","phials","rows","goal","wanted"] (aH jO):=fnScOk (by decide +kernel)
def xW {f:Gj}{fd:Az}(F:Fun K "leaves_as" "leaves_as" jO f fd)(T:Txt mg)(R:ErB K mg cP c0 c1 c2 c3 c4 c5 f0 f1 f2 f3 f4 f5)(cW:Cal P w K mg base (CXg P w) 9 "walked" ["bench","phials","rows"] (spWalked c0 c1 c2 c3 c4 c5)):FnOk P w K mg base CX0 10 f fd ["bench","phials","rows","goal","wanted"] spLeaves:=by
 refine F.okA rJ (λcdv A outer s H vs Q E hr h=>?_)
 ·obtain ⟨b,r,q,ph,rl,rs,us,ps,rbs,ws,M,S,β,rws,rv,o,g,M0,d0,wv,rfl,wi,en,hw,m0,hg,k⟩:=h
  refine ⟨_,(aD (aEi ⟨rfl,rfl,rfl⟩ rfl R.mP R.ct (λU E' Z Ec hp=>aE (aJ (i:=5) rJ.nd (aEq cW hr rfl hp (aA (pv 0) (aA (pv 1) (aA (pv 2) aC)))))) (λea=>aE (aM iD)))
   (aE (aM (iI (dD (aHa hr.units) (aZ cY (aZ aX (pv 5) (pv 3) (λ_ _=>rfl)) aG (λ_ _=>rfl)) (pit 4 0)) (gQ (aT (kN rfl) rfl T.all' boot_all (aA (eO (N':=["name","wanted"]) (λZ=>[none,some 4].map λt=>t.bind λj=>(Z[j]?).join) rfl rfl (by decide +kernel) (by decide +kernel)
     (kY (sc:=aH jO) rfl (by decide +kernel)) (λ_ _ _=>eR (sc:=aH jO) (N:=["bench","phials","rows","goal","wanted","behind"]) [none,some 4] rfl rfl rfl rfl (by decide +kernel))
     (gC (aZ cY (aZ aX (pv 5) (pv 3) (λ_ _=>rfl)) aG (λ_ _=>rfl))) (λ_ _ _ _ _ _=>aR (i:=0) ndNm) (λ_ _ _ _ _ _=>dY)
     (λ_ _ _ _ _ _=>dD (uE (K:=K) rfl) (pv 0) (aZ (yP (K:=K) rfl) (pv 1) aG (λ_ _=>rfl)) rfl)) aC))))))),?_⟩
  refine ⟨rfl,_,rfl,_,rfl,_,rfl,b,r,q,ph,rl,rs,us,ps,rbs,ws,M,S,β,rws,rv,o,rfl,wi,en,?_,?_⟩
  ·intro M' S' eo l' H1 s1 st1 so1
   subst eo;have gl:g<S'.length:=by rw [so1.sl];exact hg
   obtain ⟨d,hd⟩:∃ d,S'[g]?=some d:=⟨_,Ae gl⟩;obtain ⟨vs,v,hl,vl,hv,a,m,n,us1,ys1,rfl,ha,hm,pr1,mx1,hn⟩:=st1.get hd;obtain ⟨a0,m1,n1,us0,ys0,rfl,ha0,hm0,pr0,mx0,hn0⟩:=hw.keep s1;have it:atI vs ((g:Nat):Int)=some (.ref a):=aW hv;have al:=oS so1.m0 m0 mx1 mx0;refine ⟨_,rfl,_,rfl,l',vs,_,.ref a,rfl,rfl,Gw hl,it,a,_,_,.ref m,rfl,rfl,Gv ha,rfl,a0,_,_,rfl,Gv ha0,rfl,m,m1,us1,us0,ys1,ys0,rfl,rfl,Gv hm,Gv hm0,pr1,pr0,_,rfl,ite2 (λc=>?_) (λc=>?_)⟩
   ·have c1:=al.mp (of_decide_eq_true c)
    refine ⟨_,rfl,_,rfl,l',vs,_,.ref a,rfl,rfl,Gw hl,it,a,_,_,.ref n,rfl,rfl,Gv ha,rfl,n,rfl,⟨_,Gv hn⟩,λD hD=>?_⟩;refine fZ (Ys.tup (Gv hn)) (λi _ y _=>∃ bb:Bool,y=.bl bb/\(bb=true↔∀ nm,d.2[i]?=some nm->nm∈d0.2)) (λ_ _ _ _ _ h _=>h) hD (by rw [Af];have okd:=so1.ok d (Al hd);have:=AR ((eN okd.srt).length_le_of_subset okd.nin) wi.on.bs.ww.l;lia) (λi x H' R hx sm hR=>?_) (λys H' sm hD' yl hy=>?_)
    ·rw [Aq] at hx
     obtain ⟨nm,hnm,rfl⟩:=AZ.mp hx;refine ⟨(Keep.refl _).set rfl,_,rfl,_,rfl,a0,_,_,.ref n1,rfl,rfl,Gv (sm _ _ ha0),rfl,n1,_,rfl,.inr (Gv (sm _ _ hn0)),rfl,eG _,hR _ _ (Same.refl _) ⟨_,rfl,dW.trans ⟨λh nm' e=>by rw [hnm] at e;cases e;exact h,λh=>h nm hnm⟩⟩⟩
    ·obtain ⟨bs,rfl,hb⟩:=aB4 ys λi y hyi=>by
      obtain ⟨x,hx⟩:∃ x,(d.2.map V.str)[i]?=some x:=⟨_,Ae (by have:=(Ad.mp hyi).1;lia)⟩;exact hy i x y hx hyi
     refine ⟨D,bs,rfl,Gw hD',k _ _ (s1.trans sm) (hb.trans ⟨λh=>⟨d,hd,c1,λnm hn'=>?_⟩,?_⟩)⟩
     ·obtain ⟨i,hi⟩:=Co hn'
      refine h i ?_ nm hi;rw [yl,Af];exact (Ad.mp hi).1
     ·rintro ⟨d',hd',_,h2⟩ i _ nm hi
      rw [hd] at hd';cases hd';exact h2 nm (Al hi)
   ·refine k false _ s1 ⟨(λh=>nomatch h),?_⟩
    rintro ⟨d',hd',h1,h2⟩
    rw [hd] at hd';cases hd';exact (c (decide_eq_true (al.mpr h1))).elim
  ·intro eo c dx H1 hc s1
   subst eo;have hck:PySem.W.subIn K (.ref c) (.ref cP)=some true/\ExK K c:=by
    rcases hc with ⟨f,rfl⟩|rfl
    ·obtain ⟨sub,_,ck⟩:=R.ck f
     exact ⟨sub,ck.k⟩
    ·exact ⟨R.r5.s,(R.r5.e "place" (by simp)).i.k⟩
   exact ⟨c,rfl,hck.2,hck.1,k false _ s1 ⟨(λh=>nomatch h),λh=>h.elim⟩⟩
def aGk:FnScope ["bench","phials","rows","other","goal"] ["bench","phials","rows","other","goal"] (aH aD4):=fnScOk (by decide +kernel)
def aEx {f:Gj}{fd:Az}(F:Fun K "serves" "serves" aD4 f fd)(cW:Cal P w K mg base (CXg P w) 10 "walked" ["bench","phials","rows"] (spWalked c0 c1 c2 c3 c4 c5))(cL:Cal P w K mg base CX0 10 "leaves_as" ["bench","phials","rows","goal","wanted"] spLeaves):FnOk P w K mg base CX0 11 f fd ["bench","phials","rows","other","goal"] spServ:=by
 refine F.okA aGk (λcdv A outer s H vs Q E hr h=>?_)
 ·obtain ⟨b,r,q,ph,rl,ol,rs,us,ps,rbs,ws,M,S,β,rws,rv,xs,xv,o,g,M1,S1,d1,rfl,wi,en,hd,m1,wo,eo,k⟩:=h
  refine ⟨_,aE (aM (aI cL hr (aA (pv 0) (aA (pv 1) (aA (pv 3) (aA (pv 4) (aA (aZ aX (jX cW hr rfl aG5 (aA (pv 0) (aA (pv 1) (aA (pv 2) aC)))) (pv 4) (λ_ _=>rfl)) aC))))))),?_⟩;have gl:g<rbs.length:=by
   have:=Ends.sok wi.on.bs.rp.2 en wi.on.so wi.gd M1 S1 rfl;rw [<- this.sl];exact (Ad.mp hd).1
  refine ⟨_,rfl,_,rfl,_,rfl,_,rfl,_,rfl,_,rfl,_,rfl,b,r,q,ph,rl,rs,us,ps,rbs,ws,M,S,β,rws,rv,_,rfl,wi,en,?_,(λe=>nomatch e)⟩;intro M' S' e l1 H1 s1 st1 so1;cases e;obtain ⟨vs,v,hl,vl,hv,pa1⟩:=st1.get hd;exact ⟨_,rfl,l1,vs,_,v,rfl,rfl,Gw hl,aW hv,b,r,q,ph,ol,rs,us,ps,rbs,ws,M,S,β,xs,xv,o,g,M1,d1,v,rfl,wo.keep s1,eo,pa1,m1,gl,λx H2 s2 hx=>k x H2 (s1.trans s2) hx⟩
end
end K51
namespace K51
open PySem PySem.Spec PyProof.Rows L2 GM TM TR
def RwV.tk {H H':Hp}{a:Gj}{r:Rw}(s:Tk H H')(h:RwV H a r):RwV H' a r:=by
 cases r with
 |draw i x t b=>obtain ⟨q,h1,h2⟩:=h;exact ⟨q,s _ _ h1,s _ _ h2⟩
 |fill i x t b=>obtain ⟨q,h1,h2⟩:=h;exact ⟨q,s _ _ h1,s _ _ h2⟩
 |pour i j t b=>obtain ⟨q,h1,h2⟩:=h;exact ⟨q,s _ _ h1,s _ _ h2⟩
 |empty i=>exact s _ _ h
 |rinse i=>exact s _ _ h
def StV.tk {H H':Hp}{l:Gj}{M:Int}{S:List PF}(h:StV H l M S)(t:Tk H H')(hl:∀ o,H l=some o->H' l=some o):StV H' l M S:=by
 obtain ⟨vs,h1,h2,h3⟩:=h;exact ⟨vs,hl _ h1,h2,λi v d hv hd=>by
  obtain ⟨a,m,n,us,ys,e,p1,p2,p3,p4,p5⟩:=h3 i v d hv hd;exact ⟨a,m,n,us,ys,e,t _ _ p1,t _ _ p2,p3.keep t,p4,t _ _ p5⟩⟩
def OddV.tk {H H':Hp}{v:V}(s:Tk H H')(h:OddV H v):OddV H' v:=by
 cases h with
 |non=>exact .non
 |rin h=>exact .rin (s _ _ h)
 |nou h g=>exact .nou (s _ _ h) (s _ _ g)
 |slf h g=>exact .slf (s _ _ h) (s _ _ g)
 |far h=>exact .far (s _ _ h)
def RowV.tk {H H':Hp}{v:V}{o:Option Rw}(s:Tk H H')(h:RowV H v o):RowV H' v o:=by
 cases o with
 |some r=>obtain ⟨a,e,q⟩:=h;exact ⟨a,e,q.tk s⟩
 |none=>exact OddV.tk s h
def RwsV.push {H:Hp}{l:Gj}{rws:List (Option Rw)}{rv:Gq}{v:V}{o:Option Rw}(h:RwsV H l rws rv)(hz:RowV H v o):RwsV (upd H l (.lst (rv++[v]))) l (rws++[o]) (rv++[v]):=by
 have tk:Tk H (upd H l (.lst (rv++[v]))):=Tk.lst h.hl;refine ⟨aB,by rw [Av,Av,h.ln];rfl,λi v r' hv hr=>?_⟩
 by_cases hi:i<rv.length
 ·rw [BW hi] at hv
  rw [BW (by rw [<- h.ln];exact hi)] at hr;exact (h.at' i v r' hv hr).tk tk
 ·rw [BC (by lia)] at hv
  rw [BC (by rw [<- h.ln];lia),<- h.ln] at hr;obtain ⟨hl,e⟩:=Ad.mp hv;simp at hl;rw [hl] at hv hr;cases hv;cases hr;exact hz.tk tk
def uZ (rws:List (Option Rw)):Prop:=∀ o∈rws,o≠none
def GoodR.mono {nb:Nat}{ws ws':Gh}{r:Rw}(h:GoodR nb ws r)(s:∀ x∈ws,x∈ws'):GoodR nb ws' r:=by
 cases r with
 |draw i x t b=>exact ⟨h.1,s _ h.2.1,h.2.2⟩
 |fill i x t b=>exact ⟨h.1,s _ h.2.1,h.2.2⟩
 |pour i j t b=>exact h
 |empty i=>exact h
 |rinse i=>exact h
inductive spGoes (K:Ab)(vs:Gq)(H:Hp)(Q:VK)(E0:XK):Prop
 |mk (sc b wl l r q rs us ps rbs wa ws M S β:_) (ns:List Int) (st la mo:Nat) (e0:vs=[.ref sc,.ref b,.ref wl,.ref l,.int ((st:Nat):Int),.int ((la:Nat):Int),.int ((mo:Nat):Int)]) (hS:SqL K H sc (ns.map V.int)) (n63:ns.length<=63) (o:OnIn H b r q l rs us ps rbs ws M S β) (wv:WsV H wl wa) (sub:∀ x∈wa,x∈ws) (sl:st<=la) (l63:la<=63) (m40:mo<=40) (bb:β+14*mo+14<=2400) (k:∀ t rl l' rws rv M' S' H',Same H H'->H rl=none->H' t=some (.tup [.ref rl,.ref l'])->RwsV H' rl rws rv->rws.length<=mo->uZ rws->GRs rbs.length ws rws->Ends us ps rbs ws M S rws (some (M',S'))->StV H' l' M' S'->l'≠rl->Sok ws rbs M' S' (β+14*rws.length)->Q (.ref t) H'):spGoes K vs H Q E0
section
variable {P:Aw}{w:World}{K:Ab}{mg:Gb}{base:Heap}{c0 c1 c2 c3 c4:Gj}
abbrev aJk:Gh:=["_law_script","_law_bench","_law_wares_here","_law_state","_law_start","_law_last","_law_most","_law_rows","_law_k","_law_row_here","_law_refusal","_law_found"]
def jF:FnScope aJk ["_law_script","_law_bench","_law_wares_here","_law_state","_law_start","_law_last","_law_most"] (aH pP):=fnScOk (by decide +kernel)
def aE4 {f:Gj}{fd:Az}(F:Fun K "_law_goes_on" "_law_goes_on" pP f fd)(T:Txt mg)(cA:Cal P w K mg base CX0 6 "_law_after" ["_law_bench","_law_state","_law_row_here"] (spAfter K))(cR:Cal P w K mg base CX0 6 "_law_row" ["_law_bench","_law_wares_here","_law_script","_law_k"] (aGg K)):FnOk P w K mg base CX0 7 f fd ["_law_script","_law_bench","_law_wares_here","_law_state","_law_start","_law_last","_law_most"] (spGoes K):=by
 refine F.okA jF (λcdv A outer s H vs Q E hr h=>?_)
 ·obtain ⟨sc,b,wl,l,r,q,rs,us,ps,rbs,wa,ws,M,S,β,ns,st,la,mo,rfl,hS,n63,on,wv,sub,sl,l63,m40,bb,k⟩:=h
  refine ⟨_,(aD (aJ (i:=7) jF.nd (cV aC))
   (aD (dA AO rfl (jT rfl T.range (aA (pv 4) (aA (aT (oG rfl) rfl T.min' boot_min (aA (aT aY rfl T.len BA (aA (pv 0) aC)) (aA (pv 5) aC))) aC))) (aR (i:=8) jF.nd)
    (aD (aJ (i:=9) jF.nd (aI cR hr (aA (pv 1) (aA (pv 2) (aA (pv 0) (aA (pv 8) aC))))))
    (aD (fQ (aI cA hr (aA (pv 1) (aA (pv 3) (aA (pv 9) aC)))) (fR rfl (bE (aR (i:=10) jF.nd) (bE (aR (i:=11) jF.nd) eD))))
    (aE (bH (PW.pt (jQ (aL xG (pv 10) dO) (gD (aL xF (aT aY rfl T.len BA (aA (pv 7) aC)) (pv 6)))))
     (aD (aJ (i:=3) jF.nd (pv 11))
     (aE (dP (pW Cj Cc Cb dM (pv 7) (aA (pv 9) aC)))))
     aQ)))))
   (aE (aM (aU (aA (pv 7) (aA (pv 3) aC))))))),?_⟩
  refine cut3 ?_
  intros
  have bs:=on.bs;have l16:=bs.bn.l16;have rl':=bs.rm.1;have rp:=bs.rp.2;refine ⟨zLn0,λrl nrl=>?_⟩;obtain ⟨H1,eH1,s1,hrl⟩:=updX (o:=.lst []) nrl;rw [eH1];obtain ⟨vs0,hl0,_⟩:=on.st.ex;have lr:l≠rl:=bB hl0 nrl;refine ⟨_,rfl,_,rfl,sc,_,rfl,.inl (s1.seq hS),_,rfl,_,_,rfl,_,_,rfl,⟨by lia,by lia,by split<;>lia,by split<;>lia⟩,?_⟩;have sm:∀ {H':Hp},(∀ c o,c≠rl->H1 c=some o->H' c=some o)->Same H H':=λfx c o h=>fx c o (bB h nrl) (s1 _ _ h);refine eV (λi Z H'=>∃ (l':Gj) (rws:List (Option Rw)) (rv:Gq) (M':Int) (S':List PF) (v8 v9 v10 v11:Gr),Z=[some (.ref sc),some (.ref b),some (.ref wl),some (.ref l'),some (.int ((st:Nat):Int)),some (.int ((la:Nat):Int)),some (.int ((mo:Nat):Int)),some (.ref rl),v8,v9,v10,v11]/\(∀ c o,c≠rl->H1 c=some o->H' c=some o)/\StV H' l' M' S'/\l'≠rl/\RwsV H' rl rws rv/\rws.length<=mo/\uZ rws/\GRs rbs.length ws rws/\Ends us ps rbs ws M S rws (some (M',S'))/\Sok ws rbs M' S' (β+14*rws.length)) ⟨l,[],[],M,S,none,none,none,none,rfl,λ_ _ _ h=>h,on.st.keep s1,lr,⟨hrl,rfl,λi v r h=>by simp at h⟩,Bu _,(λr hr=>nomatch hr),(λr hr=>nomatch hr),.nil,on.so⟩ ?_ ?_
  rotate_left
  ·intro Z H4 hh
   obtain ⟨l',rws,rv,M',S',v8,v9,v10,v11,rfl,fx,st4,ne,rw4,rm,no,gr,en,so⟩:=hh;refine ⟨_,rfl,_,rfl,zLn2,λt nt=>?_⟩;have s5:=Gu (o:=.tup [.ref rl,.ref l']) nt;exact k t rl l' rws rv M' S' _ ((sm fx).trans s5) nrl aB (rw4.keep s5) rm no gr en (st4.keep s5) ne so
  intro i Z H4 D' hN hi hh;obtain ⟨l',rws,rv,M',S',v8,v9,v10,v11,rfl,fx,st4,ne,rw4,rm,no,gr,en,so⟩:=hh;have ki:st+i<ns.length/\st+i<la:=by
   have h2:i<((if ((la:Nat):Int)<(((ns.map V.int).length:Nat):Int) then ((la:Nat):Int) else (((ns.map V.int).length:Nat):Int))-((st:Nat):Int)).toNat:=hi;rw [Af] at h2;split at h2<;>lia
  have ek:((st:Nat):Int)+(i:Int)=((st+i:Nat):Int):=by lia
  rw [ek];have s4:=sm fx;have bn:BnV H4 b rs.length:=⟨r,_,rs,s4 _ _ bs.bn.hp,s4 _ _ bs.bn.hr,rfl⟩;refine ⟨_,rfl,_,rfl,_,rfl,_,rfl,b,wl,sc,rs.length,wa,ns,st+i,rfl,bn,bs.bn.l1,l16,⟨s4 _ _ wv.1,wv.2⟩,s4.seq hS,ki.1,by lia,λz H5 s5 gr5=>?_⟩;obtain ⟨rw',rvz,gd0,l100⟩:=gr5.good;have gd:=gd0.mono sub;have s05:=s4.trans s5;have bs5:=bs.keep s05;have o5:OnIn H5 b r q l' rs us ps rbs ws M' S' (β+14*rws.length):=⟨bs5,st4.keep s5,so,by lia⟩;obtain ⟨o,ro⟩:=aCm (H:=H5) (us:=us) (ps:=ps) (rbs:=rbs) (ws:=ws) (M:=M') (S:=S') bs5.bn.pt (by rw [so.sl,<- rl']) (by lia) gd;refine ⟨_,rfl,_,rfl,_,rfl,b,r,q,l',z,rs,us,ps,rbs,ws,M',S',_,rw',rfl,o5,rvz,gd,ro.l ?_⟩;have nxt:∀ {H6:Hp},Same H5 H6->∀ v8 v9 v10 v11,D'.nx [some (.ref sc),some (.ref b),some (.ref wl),some (.ref l'),some (.int ((st:Nat):Int)),some (.int ((la:Nat):Int)),some (.int ((mo:Nat):Int)),some (.ref rl),v8,v9,v10,v11] H6:=λs6 v8 v9 v10 v11=>hN _ _ ⟨l',rws,rv,M',S',v8,v9,v10,v11,rfl,λc o a h=>(s5.trans s6) _ _ (fx c o a h),(st4.keep s5).keep s6,ne,(rw4.keep s5).keep s6,rm,no,gr,en,so⟩;cases o with
  |inl f=>
   intro zz t3 H6 s6 hz _;exact ⟨zz,_,rfl,Gv hz,rfl,_,_,rfl,_,_,rfl,rfl,_,rfl,rfl,_,rfl,iteF (nxt s6 ..)⟩
  |inr S2=>
   intro zz l2 H6 s6 nl2 hz st6;have rw6:=(rw4.keep s5).keep s6;refine ⟨zz,_,rfl,Gv hz,rfl,_,_,rfl,_,_,rfl,rfl,_,rfl,rfl,_,rfl,iteT ⟨_,rfl,rl,_,rfl,.inl (Gw rw6.hl),_,rfl,_,_,rfl,rfl,_,rfl,ite2 (λhc=>?_) (λ_=>nxt s6 ..)⟩⟩;have hm:rws.length<mo:=by
    have:((rv.length:Nat):Int)<((mo:Nat):Int):=of_decide_eq_true hc;have:=rw4.ln;lia
   refine ⟨_,rfl,_,rfl,.inl ⟨rfl,_,Gw rw6.hl⟩,_,rfl,rl,rv,_,rfl,rfl,rw6.hl,cJ (by have:=rw4.ln;lia),?_⟩;have l2r:l2≠rl:=λe=>by rw [e] at nl2;have:=(rw4.keep s5).hl;rw [nl2] at this;cases this
   have tk:Tk H6 (upd H6 rl (.lst (rv++[.ref z]))):=Tk.lst rw6.hl;refine hN _ _ ⟨l2,rws++[some rw'],rv++[.ref z],_,S2,_,_,_,_,rfl,λc o a h=>by rw [aK a];exact (s5.trans s6) _ _ (fx c o a h),st6.tk tk λo h=>by rw [aK l2r];exact h,l2r,rw6.push (v:=.ref z) (o:=some rw') ⟨z,rfl,rvz.keep s6⟩,by rw [Av];exact hm,λx hx=>?_,λx hx=>?_,en.snoc rfl ro,?_⟩
   ·rcases AS.mp hx with h|h
    ·exact no x h
    ·rw [AA.mp h]
     exact λe=>nomatch e
   ·rcases AS.mp hx with h|h
    ·exact gr x h
    ·cases AA.mp h
     exact ⟨by rw [<- rl'];exact gd,l100⟩
   ·have:=RowO.sok so rp gd (by lia) ro
    rw [Av,DJ,show β+14*(rws.length+1)=β+14*rws.length+14 by lia];exact this
end
def xB {X:Cx}{K:Ab}(h:X.K=K):OpR X (BB .NotIn) (rIn K true):=h▸nO
def aI6:(["_law_name","_law_due","_law_goal"]:Gh).Nodup:=by decide +kernel
inductive spEnd (vs:Gq)(H:Hp)(Q:VK)(E0:XK):Prop
 |mk (b r q ph rl rs us ps rbs ws M S β rws rv o:_) (e0:vs=[.ref b,.ref ph,.ref rl]) (e1:WIn H b r q ph rl rs us ps rbs ws M S β rws rv) (no:uZ rws) (en:Ends us ps rbs ws M S rws o) (e2:∀ M' S',o=some (M',S')->∀ l' H',Same H H'->StV H' l' M' S'->Sok ws rbs M' S' (β+14*rws.length)->Q (.ref l') H') (e3:o=none->∀ H',Same H H'->Q .non H'):spEnd vs H Q E0
inductive spServes (K:Ab)(vs:Gq)(H:Hp)(Q:VK)(E0:XK):Prop
 |mk (b r q ph rl dl rs us ps rbs ws M S β rws rv o g M0 S0 d0:_) (e0:vs=[.ref b,.ref ph,.ref dl,.ref rl,.int ((g:Nat):Int)]) (e1:WIn H b r q ph rl rs us ps rbs ws M S β rws rv) (no:uZ rws) (en:Ends us ps rbs ws M S rws o) (hw:StV H dl M0 S0) (hd:S0[g]?=some d0) (m0:0<M0) (hg:g<rbs.length) (kk:∀ (x:Bool) H',Same H H'->(x=true↔SvO g M0 d0 o)->Q (.bl x) H'):spServes K vs H Q E0
section
variable {P:Aw}{w:World}{K:Ab}{mg:Gb}{base:Heap}
def aAx:FnScope ["_law_bench","_law_state","_law_rows","_law_row_here","_law_refusal"] ["_law_bench","_law_state","_law_rows"] (aH sEnd):=fnScOk (by decide +kernel)
def aHi {f:Gj}{fd:Az}(F:Fun K "_law_end" "_law_end" sEnd f fd)(cA:Cal P w K mg base CX0 6 "_law_after" ["_law_bench","_law_state","_law_row_here"] (spAfter K)):FnOk P w K mg base CX0 7 f fd ["_law_bench","_law_state","_law_rows"] spEnd:=by
 refine F.okA aAx (λcdv A outer s H vs Q E hr h=>?_)
 ·obtain ⟨b,r,q,ph,rl,rs,us,ps,rbs,ws,M,S,β,rws,rv,o,rfl,wi,no,en,k,kb⟩:=h
  refine ⟨_,(aD (dA AO rfl (pU (pv 2)) (aR (i:=3) aAx.nd)
    (aD (fQ (aI cA hr (aA (pv 0) (aA (pv 1) (aA (pv 3) aC)))) (fR rfl (bE (aR (i:=4) aAx.nd) (bE (aR (i:=1) aAx.nd) eD))))
    (aE (bH (aL xA (pv 4) dO) (aE (aM dO)) aQ))))
   (aE (aM (pv 1)))),?_⟩
  have l60:=wi.l60;have bl:=wi.bl;have rp:=wi.on.bs.rp.2;have rsl:=wi.on.bs.rm.1;refine ⟨_,rfl,rl,rfl,⟨_,Gw wi.rw'.hl⟩,?_⟩;refine sX (xs:=rv) (λi Z H'=>∃ (l':Gj) (M':Int) (S':List PF) (v3 v4:Gr),Z=[some (.ref b),some (.ref l'),some (.ref rl),v3,v4]/\Same H H'/\StV H' l' M' S'/\Sok ws rbs M' S' (β+14*i)/\Ends us ps rbs ws M' S' (rws.drop i) o) ⟨ph,M,S,none,none,rfl,Same.refl _,wi.on.st,wi.on.so,en⟩ (λi Z H' _ hh=>by obtain ⟨_,_,_,_,_,_,sm,_⟩:=hh;exact Gw (wi.rw'.keep sm).hl) ?_ ?_
  ·intro i y Z H2 hy hh
   obtain ⟨l',M',S',v3,v4,rfl,s2,st2,so,ee⟩:=hh;obtain ⟨o',hrw,rk⟩:=(wi.rw'.keep s2).get hy;obtain ⟨il,ei⟩:=Ad.mp hrw;cases o' with
   |none=>exact absurd rfl (no _ (Al hrw))
   |some rw'=>
   obtain ⟨a,rfl,rv3⟩:=rk;obtain ⟨a1,a2⟩:=wi.gd rw' (Al hrw);rw [Ed il,ei] at ee;have oi:OnIn H2 b r q l' rs us ps rbs ws M' S' (β+14*i):=⟨wi.on.bs.keep s2,st2,so,by lia⟩;refine ⟨_,rfl,_,rfl,_,rfl,b,r,q,l',a,rs,us,ps,rbs,ws,_,_,_,rw',rfl,oi,rv3,by rw [rsl];exact a1,?_⟩;cases ee with
   |bad ro=>
    refine ro.l ?_;intro zz t3 H6 s6 hz _;exact ⟨zz,_,rfl,Gv hz,rfl,_,_,rfl,_,_,rfl,rfl,_,rfl,rfl,_,rfl,iteT (kb rfl _ (s2.trans s6))⟩
   |step ro ee=>
    refine ro.l ?_;intro zz l2 H6 s6 nl2 hz st6;exact ⟨zz,_,rfl,Gv hz,rfl,_,_,rfl,_,_,rfl,rfl,_,rfl,rfl,_,rfl,iteF ⟨l2,_,_,_,_,rfl,s2.trans s6,st6,RowO.sok so rp a1 (by lia) ro,ee⟩⟩
  ·intro Z H2 hh
   obtain ⟨l',M',S',v3,v4,rfl,s2,st2,so,ee⟩:=hh;rw [wi.rw'.ln] at so ee;rw [List.drop_length] at ee;cases ee;exact ⟨_,rfl,k _ _ rfl l' H2 s2 st2 so⟩
abbrev Nsrv:Gh:=["_law_bench","_law_state","_law_due","_law_rows","_law_goal","_law_found"]
def rG:FnScope Nsrv ["_law_bench","_law_state","_law_due","_law_rows","_law_goal"] (aH jJ):=fnScOk (by decide +kernel)
def xP {f:Gj}{fd:Az}(F:Fun K "_law_serves" "_law_serves" jJ f fd)(cE:Cal P w K mg base CX0 7 "_law_end" ["_law_bench","_law_state","_law_rows"] spEnd):FnOk P w K mg base CX0 8 f fd ["_law_bench","_law_state","_law_due","_law_rows","_law_goal"] (spServes K):=by
 refine F.okA rG (λcdv A outer s H vs Q E hr h=>?_)
 ·obtain ⟨b,r,q,ph,rl,dl,rs,us,ps,rbs,ws,M,S,β,rws,rv,o,g,M0,S0,d0,rfl,wi,no,en,hw,hd0,m0,hg,k⟩:=h
  refine ⟨_,(aD (aJ (i:=5) rG.nd (aI cE hr (aA (pv 0) (aA (pv 1) (aA (pv 3) aC)))))
   (aD (bH (PW.pt (mB (aL xG (pv 5) dO) (iH (aL (aG7 hr.units) (aZ cY (aZ aX (pv 5) (pv 4) (λ_ _=>rfl)) aG (λ_ _=>rfl)) (aZ cY (aZ aX (pv 2) (pv 4) (λ_ _=>rfl)) aG (λ_ _=>rfl)))))) (aE (aM iD)) aQ)
   (aE (aM (dD (xJ hr.units) (eO (N':=["_law_name","_law_due","_law_goal"]) (λZ=>[none,some 2,some 4].map λt=>t.bind λj=>(Z[j]?).join) rfl rfl (by decide +kernel) (by decide +kernel)
     (kY (sc:=aH jJ) rfl (by decide +kernel)) (λ_ _ _=>eR (sc:=aH jJ) (N:=Nsrv) [none,some 2,some 4] rfl rfl rfl rfl (by decide +kernel))
     (gC (aZ cY (aZ aX (pv 5) (pv 4) (λ_ _=>rfl)) aG (λ_ _=>rfl))) (λ_ _ _ _ _ _=>aR (i:=0) aI6)
     (λ_ _ _ _ _ _=>mC (aL (xB (K:=K) rfl) (pv 0) (aZ (yP (K:=K) rfl) (aZ (sR (K:=K) rfl) (pv 1) (pv 2) (λ_ _=>rfl)) aG (λ_ _=>rfl)) rfl))
     (λ_ _ _ _ _ _=>pv 0)) (cV aC)))))),?_⟩
  refine ⟨_,rfl,_,rfl,_,rfl,b,r,q,ph,rl,rs,us,ps,rbs,ws,M,S,β,rws,rv,o,rfl,wi,no,en,?_,?_⟩
  rotate_left
  ·intro eo H1 s1
   subst eo;exact ⟨_,rfl,rfl,_,rfl,iteT (k false _ s1 ⟨(λh=>nomatch h),λh=>h.elim⟩)⟩
  intro M' S' eo l' H1 s1 st1 so1;subst eo;have gl:g<S'.length:=by rw [so1.sl];exact hg
  obtain ⟨d,hd⟩:∃ d,S'[g]?=some d:=⟨_,Ae gl⟩;obtain ⟨vs,v,hl,vl,hv,a,m,n,us1,ys1,rfl,ha,hm,pr1,mx1,hn⟩:=st1.get hd;obtain ⟨vd,v0,hdl,vdl,hv0,a0,m1,n1,us0,ys0,rfl,ha0,hm0,pr0,mx0,hn0⟩:=(hw.keep s1).get hd0;have it:atI vs ((g:Nat):Int)=some (.ref a):=aW hv;have it0:atI vd ((g:Nat):Int)=some (.ref a0):=aW hv0;have al:=oS so1.m0 m0 mx1 mx0;refine ⟨_,rfl,rfl,_,rfl,iteF ⟨_,rfl,_,rfl,l',vs,_,.ref a,rfl,rfl,Gw hl,it,a,_,_,.ref m,rfl,rfl,Gv ha,rfl,_,rfl,_,rfl,dl,vd,_,.ref a0,rfl,rfl,Gw hdl,it0,a0,_,_,.ref m1,rfl,rfl,Gv ha0,rfl,m,m1,us1,us0,ys1,ys0,rfl,rfl,Gv hm,Gv hm0,pr1,pr0,_,rfl,ite2 (λc=>?_) (λc=>?_)⟩⟩
  ·refine k false _ s1 ⟨(λh=>nomatch h),?_⟩
   rintro ⟨d',hd',h1,h2⟩
   rw [hd] at hd';cases hd';have e:=al.mpr h1;rw [decide_eq_true e] at c;exact (Bool.noConfusion c)
  ·have c0:ys1=ys0:=by
    by_cases e:ys1=ys0
    ·exact e
    ·rw [decide_eq_false e] at c
     exact absurd rfl c
   have c1:=al.mp c0;refine ⟨_,rfl,_,rfl,l',vs,_,.ref a,rfl,rfl,Gw hl,it,a,_,_,.ref n,rfl,rfl,Gv ha,rfl,n,rfl,⟨_,Gv hn⟩,λD hD=>?_⟩;refine kM (Ys.tup (Gv hn)) (λv=>!inV v (d0.2.map V.str)) (λx y _=>y=x) (λ_ _ _ _ h _=>h) hD (by rw [Af];have okd:=so1.ok d (Al hd);have:=AR ((eN okd.srt).length_le_of_subset okd.nin) wi.on.bs.ww.l;lia) (λi' x H' R1 R2 hx sm r1 r2=>?_) (λys H2 s2 hD2 yl hy=>?_)
   ·rw [Aq] at hx
    obtain ⟨nm,hnm,rfl⟩:=AZ.mp hx;refine ⟨(Keep.refl _).set rfl,_,rfl,_,rfl,_,rfl,dl,vd,_,.ref a0,rfl,rfl,Gw (sm _ _ hdl),it0,a0,_,_,.ref n1,rfl,rfl,Gv (sm _ _ ha0),rfl,n1,_,rfl,.inr (Gv (sm _ _ hn0)),rfl,eG _,_,rfl,ite2 (λh1=>?_) (λh1=>?_)⟩
    ·exact ⟨_,rfl,r1 h1 _ _ (Same.refl _) rfl⟩
    ·exact r2 (by simpa using h1) _ (Same.refl _)
   ·refine ⟨zLn0,λe ne=>?_⟩
    have s3:=Gu (o:=.lst []) ne;refine ⟨D,e,ys,rfl,rfl,Gw (s3 _ _ hD2),Gw aB,k _ _ ((s1.trans s2).trans s3) ?_⟩;have hin:∀ nm:Str,(inV (V.str nm) (d0.2.map V.str)=true)↔nm∈d0.2:=λnm=>dW;constructor
    ·intro h
     have y0:ys=[]:=List.isEmpty_iff.mp h;rw [y0] at yl;have f0:=DC yl.symm;refine ⟨d,hd,c1,λnm hn'=>?_⟩
     by_cases z:nm∈d0.2
     ·exact z
     ·have:V.str nm∈(d.2.map V.str).filter (λv=>!inV v (d0.2.map V.str)):=Fg.mpr ⟨Bq hn',by
       cases e:inV (V.str nm) (d0.2.map V.str) with
       |true=>exact absurd ((hin nm).mp e) z
       |false=>rfl⟩
      rw [f0] at this;cases this
    ·rintro ⟨d',hd',_,h2⟩
     rw [hd] at hd';cases hd';have f0:(d.2.map V.str).filter (λv=>!inV v (d0.2.map V.str))=[]:=by
      rw [List.filter_eq_nil_iff];intro x hx;obtain ⟨nm,hn',rfl⟩:=AE.mp hx;rw [(hin nm).mpr (h2 nm hn')];exact Bool.noConfusion
     rw [f0] at yl;rw [DC yl];rfl
end
end K51
namespace L2
open PySem PySem.Spec PyProof.Rows
def qL {K:Ab}{H:Hp}{n:Nat}{a b:Gj}{xs:Gq}(h1:SqL K H a xs)(h2:SqL K H b xs)(hs:∀ v∈xs,Sf v):DEq K H (n+1) (.ref a) (.ref b) true:=by
 by_cases ne:a=b
 ·subst ne
  exact .same
 ·have q:=DEq.lst (n:=n) (e:=λ_=>true) ne h1 h2 λj x y hx hy=>by
   rw [hx] at hy;cases hy;exact DEq.self (hs x (Al hx))
  rw [all_true _ _ rfl] at q;exact q
def tOrT (K:Ab)(ta tb:TE):TE:=λZ H Q=>ta Z H λx H1=>∃ k,TruV K x H1 k/\if k=true then Q x H1 else tb Z H1 Q
end L2
namespace L2
open PySem PySem.Spec PyProof.Rows PySem.W
end L2
namespace L2
open PySem PySem.Spec PyProof.Rows
structure PSX (X:Cx)(st:Stmt)(t:TS):Prop where
 h:PS X st t
structure PSB (X:Cx)(l:List Stmt)(t:TS):Prop where
 h:PSs X l t
def lB {X:Cx}{st:Stmt}{t:TS}(h:PS X st t):PSX X st t:=⟨h⟩
def bV {X:Cx}{st:Stmt}{t u:TS}{rest:List Stmt}(h1:PSX X st t)(h2:PSB X rest u):PSB X (st::rest) (tSeq t u):=⟨aD h1.h h2.h⟩
structure PEX (X:Cx)(e:Expr)(t:TE):Prop where
 h:PE X e t
structure PAX (X:Cx)(es:List Expr)(t:TA):Prop where
 h:PA X es t
section
variable {X:Cx}
def gI {i j pos}:PEX X (.Constant (.int i) j pos) (tC (.int i)):=⟨aG⟩
def kU {x j pos}:PEX X (.Constant (.str x) j pos) (tC (.str x)):=⟨aS⟩
def fK:PAX X [] tNil:=⟨aC⟩
def iX {x1}(h:PAX X es t):PEX X (.Tuple es x1 pos) (tTup t):=⟨aU h.h⟩
def aA2 {i:Nat}(hN:X.N.Nodup)(hi:X.N[i]?=some x)(hx:Loc X.env.scope x)(he:PEX X e te)(hs:Fd e (some (.Name x pos')) pos.line X.env=pure false:=by rfl)(hf:X.fn x=true\/X.env.scope.names.lookup x=some .local:=by first|exact .inl rfl|exact .inr rfl|assumption) :
  PSX X (.Assign [.Name x pos'] e pos) (tAsg te (gName i)):=⟨aCp hN hi hx he.h hs hf⟩
def dX {e:Expr}{te:TE}{pos:Pos}(he:PEX X e te):PSX X (.Return (some e) pos) (tRet te):=⟨aM he.h⟩
def eQ {st:Stmt}{t:TS}(h:PSX X st t):PSB X [st] t:=⟨aE h.h⟩
end
section
variable {X:Cx}
def x_of (h:PE X e t):PEX X e t:=⟨h⟩
def x_c (ha:PEX X e te)(hr:PAX X es t)(hf:lU e=true:=by rfl):PAX X (e::es) (vL te t):=⟨pa_c ha.h hr.h hf⟩
def oU (h:PAX X es t):PEX X (.List es pos) (tLst t):=⟨cV h.h⟩
def aIf {j pos}:PEX X (.Constant .none j pos) (tC .non):=⟨dO⟩
end
end L2
namespace L2
open PySem PySem.Spec PyProof.Rows PySem.W
def zT {lo:Int}{n:Nat}{D:Gj}{g:TG}{te:TE}{Z0:St}{QD:Hp->Prop}{H1:Hp}(Pv:Nat->Gq->Hp->Prop)(h0:Pv 0 [] (upd H1 D (.lst [])))(hD:∀ i ys H,i<=n->Pv i ys H->H D=some (.lst ys)/\ys.length<Au)
  (hs:∀ i ys H (R:VK),i<n->Pv i ys H->(∀ y H4,H4 D=some (.lst ys)->Pv (i+1) (ys++[y]) (upd H4 D (.lst (ys++[y])))->R y H4)->g (.int (lo+(i:Nat))) Z0 H λZ2 H2=>Keep Z0 Z2/\te Z2 H2 R)
  (hd:∀ ys H,Pv n ys H->QD H) :
  ∃ W:Nat->Nat->Gq->Hp->Prop,(∃ m,W 0 m [] (upd H1 D (.lst [])))/\∀ i m ys H,W i m ys H->H D=some (.lst ys)/\ys.length<Au /\
   (((Itr lo n).stop i H/\QD H)\/((Itr lo n).go i H/\∀ x H',(Itr lo n).yld i H x H'->g x Z0 H' λZ2 H2=>Keep Z0 Z2/\vK Z2 H2 λb H3=>
    if b=true then te Z2 H3 λy H4=>H4 D=some (.lst ys)/\∃ m',m'<m/\W (i+1) m' (ys++[y]) (upd H4 D (.lst (ys++[y]))) else ∃ m',m'<m/\W (i+1) m' ys H3)):=by
 refine ⟨λi m ys H=>m=n-i/\i<=n/\Pv i ys H,⟨_,rfl,Bu _,h0⟩,?_⟩
 rintro i m ys H ⟨rfl,hi,pv⟩
 obtain ⟨h1,h2⟩:=hD i ys H hi pv;refine ⟨h1,h2,?_⟩
 by_cases hlt:i<n
 ·refine .inr ⟨hlt,λx H' y=>?_⟩
  obtain ⟨rfl,rfl⟩:=y;exact hs i ys H' _ hlt pv λy H4 a b=>⟨a,n-(i+1),by lia,rfl,hlt,b⟩
 ·have e:i=n:=by lia
  subst e;exact .inl ⟨Aj _,hd ys H pv⟩
end L2
namespace K51
open PySem PySem.Spec PyProof.Rows L2 GM TM TR
section
variable {X:Cx}
def x_ix {a b:Expr}{ta tb:TE}{r:R2}{pos:Pos}(hr:IxR X r)(ha:PEX X a ta)(hb:PEX X b tb)(hs:aAf b):PEX X (.Subscript a b pos) (tOp r ta tb):=⟨aZ hr ha.h hb.h hs⟩
def x_op {a b:Expr}{op:Operator}{r:R2}{ta tb:TE}{pos:Pos}(ho:OpR X (Eg op) r)(ha:PEX X a ta)(hb:PEX X b tb):PEX X (.BinOp a op b pos) (tOp r ta tb):=⟨aP ho ha.h hb.h⟩
def gO {c:Expr}{a b:List Stmt}{tc:TT}{t u:TS}{pos:Pos}(hc:PT X c tc)(ha:PSB X a t)(hb:PSB X b u):PSX X (.If c a b pos) (tIfS tc t u):=⟨bH hc ha.h hb.h⟩
def aFl {l:List Stmt}{R:TS->Prop}(h:∃ t,PSB X l t/\R t):∃ t,PSs X l t/\R t:=by
 obtain ⟨t,a,b⟩:=h;exact ⟨t,a.h,b⟩
def fB:PSB X [] aDo:=⟨aQ⟩
end
def PrV (H:Hp)(L:List (V×Option Rw)):Prop:=∀ p∈L,RowV H p.1 p.2
def RwsV.pr {H:Hp}{l:Gj}{rws:List (Option Rw)}{rv:Gq}(h:RwsV H l rws rv):∃ L:List (V×Option Rw),rv=L.map (·.1)/\rws=L.map (·.2)/\PrV H L:=by
 refine ⟨rv.zip rws,(List.map_fst_zip (by rw [h.ln];lia)).symm,(List.map_snd_zip (by rw [h.ln];lia)).symm,λp hp=>?_⟩;obtain ⟨i,hi⟩:=Co hp;obtain ⟨h1,h2⟩:=Eb.mp hi;exact h.at' i _ _ h1 h2
def PrV.rws {H:Hp}{l:Gj}{L:List (V×Option Rw)}(h:PrV H L)(hl:H l=some (.lst (L.map (·.1)))):RwsV H l (L.map (·.2)) (L.map (·.1)):=by
 refine ⟨hl,by rw [Af,Af],λi v o hv ho=>?_⟩;rw [Aq] at hv ho;obtain ⟨p,hp,rfl⟩:=AZ.mp hv;rw [hp] at ho;cases ho;exact h p (Al hp)
theorem aH8 {xs:Gq}{j:Nat}(h:j<=xs.length):cutV xs none (some (j:Int))=xs.take j:=by
 unfold cutV;rw [HT.sIx_nat,HT.sIx_none,Nat.min_eq_left h];rfl
theorem picks {L:List (V×Option Rw)}:∀ {ys:Gq},(∀ y∈ys,∃ p∈L,y=p.1)->∃ L':List (V×Option Rw),ys=L'.map (·.1)/\∀ p∈L',p∈L
 |[],_=>⟨[],rfl,(λ_ h=>nomatch h)⟩
 |y::ys,h=>by
  obtain ⟨p,hp,e⟩:=h y (Ar ..);obtain ⟨L',e',hL⟩:=picks λz hz=>h z (Ah _ hz);refine ⟨p::L',by rw [e,e'];rfl,λq hq=>?_⟩
  rcases Ay.mp hq with rfl|hq
  ·exact hp
  ·exact hL q hq
theorem cT {L:List (V×Option Rw)}{j:Nat}(h:j<=L.length):cutV (L.map (·.1)) none (some (j:Int))=(L.take j).map (·.1):=by rw [aH8 (by rw [Af];exact h),List.map_take]
theorem cD {L:List (V×Option Rw)}{j:Nat}(h:j<=L.length):cutV (L.map (·.1)) (some (j:Int)) none=(L.drop j).map (·.1):=by rw [tH (by rw [Af];exact h),List.map_drop]
structure NwR (nb:Nat)(ws:Gh)(od:Prop)(H:Hp)(p:V×Option Rw):Prop where
 rv:RowV H p.1 p.2
 gd:∀ r,p.2=some r->GoodR nb ws r/\rwb r<=100
 no:od->p.2≠none
def iQ {a p:Gj}{H H':Hp}(sb:SmB a H H')(l:Lf H' a)(n:H' p=none):H p=none:=SmB.none sb n (l.there n)
def am_b {t b:Int}(h:1<=t)(h2:t<1267650600228229401496703205376)(b1:1<=b)(b2:b<1000)(g:G t b=1):RwA t b:=⟨⟨by lia,b1,g⟩,bR 200 (c:=1267650600228229401496703205376) (by lia) h2,bR 200 (c:=1000) (by lia) b2⟩
def Lf.there' {H:Hp}{a b:Gj}{xs:Gq}(h:Lf H a)(n:H b=some (.lst (xs)))(k:∀ i,xs≠[.int i]):b≠a:=λz=>by
 obtain ⟨n',h1,_⟩:=h;rw [z,h1] at n;cases n;exact k _ rfl
abbrev jK:Stmt:=top 72
def ndC1:(["_law_k","_law_rows","_law_at","_law_to"]:Gh).Nodup:=by decide +kernel
def ndC2:(["_law_k","_law_bench","_law_wares_here","_law_left"]:Gh).Nodup:=by decide +kernel
inductive spOther (vs:Gq)(H:Hp)(Q:VK)(E0:XK):Prop
 |mk (b r q wl rl lf:_) (rs us:Gq) (ps:Gf) (rbs:Gg) (wa ws:Gh) (rws:List (Option Rw)) (rv:Gq) (wy:Nat) (n:Int) (e0:vs=[.ref b,.ref wl,.ref rl,.int ((wy:Nat):Int),.ref lf]) (bs:BS H b r q rs us ps rbs ws) (wv:WsV H wl wa) (sub:∀ x∈wa,x∈ws) (salt:("salt":Str)∈ws) (rw':RwsV H rl rws rv) (no:uZ rws) (gr:GRs rbs.length ws rws) (l20:rws.length<=20) (hl:Lf H lf) (nlf:rl≠lf) (kk:∀ z xs xv H',SmB lf H H'->H z=none->RwsV H' z xs xv->xs.length<=21->GRs rbs.length ws xs->((wy≠6\/rws=[])->uZ xs)->(wy=6->rws≠[]->none∈xs)->Lf H' lf->Q (.ref z) H'):spOther vs H Q E0
section
variable {P:Aw}{w:World}{K:Ab}{mg:Gb}{base:Heap}
abbrev Noth:Gh:=["_law_bench","_law_wares_here","_law_rows","_law_way","_law_left","_law_at","_law_to","_law_other_here","_law_odd"]
def jC:FnScope Noth ["_law_bench","_law_wares_here","_law_rows","_law_way","_law_left"] (aH jK):=fnScOk (by decide +kernel)
def aBd {f:Gj}{fd:Az}(F:Fun K "_law_other" "_law_other" jK f fd)(T:Txt mg)(cDi:Cal P w K mg base CX0 2 "_law_digit" ["_law_left","_law_many"] hZ)(cF:Cal P w K mg base CX0 2 "_law_free_row" ["_law_bench","_law_wares_here","_law_left"] spFreeRow):FnOk P w K mg base CX0 3 f fd ["_law_bench","_law_wares_here","_law_rows","_law_way","_law_left"] spOther:=by
 refine F.okA jC (λcdv A outer s H vs Q E hr h=>?_)
 ·obtain ⟨b,r,q,wl,rl,lf,rs,us,ps,rbs,wa,ws,rws,rv,wy,n,rfl,bs,wv,sub,salt,rw',no,gr,l20,hl,nlf,k⟩:=h
  refine aFl ⟨_,(bV (gO (aL (xJ hr.units) (pv 2) (cV aC)) (eQ (dX (x_ix aX (oU (x_c (oU fK) (x_c (oU (x_c (iX (x_c kU (x_c gI (x_c kU (x_c (iX (x_c gI (x_c gI fK))) fK))))) fK)) fK))) (x_of (aI cDi hr (aA (pv 4) (aA aG aC)))) (λ_ _=>rfl)))) fB)
   (bV (lB (aJ (i:=5) jC.nd (aI cDi hr (aA (pv 4) (aA (aT aY rfl T.len BA (aA (pv 2) aC)) aC)))))
   (bV (lB (aJ (i:=6) jC.nd (aI cDi hr (aA (pv 4) (aA (aT aY rfl T.len BA (aA (pv 2) aC)) aC)))))
   (bV (gO (aL bW (pv 3) aG) (eQ (dX (x_of (aP fT (dJ eP (pv 2) eC (eB (pv 5))) (dJ eP (pv 2) (eB (aP bJ (pv 5) aG)) eC))))) fB)
   (bV (gO (aL bW (pv 3) aG) (eQ (dX (x_of (eO (N':=["_law_k","_law_rows","_law_at","_law_to"]) (λZ=>[none,some 2,some 5,some 6].map λt=>t.bind λj=>(Z[j]?).join) rfl rfl (by decide +kernel) (by decide +kernel)
       (kY (sc:=aH jK) rfl (by decide +kernel)) (λ_ _ _=>eR (sc:=aH jK) (N:=Noth) [none,some 2,some 5,some 6] rfl rfl rfl rfl (by decide +kernel))
       (cQ rfl T.range (aA (aT aY rfl T.len BA (aA (pv 2) aC)) aC)) (λ_ _ _ _ _ _=>aR (i:=0) ndC1) (λ_ _ _ _ _ _=>mC (PW.pt (jQ (aL mE (pv 0) (pv 2)) (gD (aL mE (pv 0) (pv 3))))))
       (λ_ _ _ _ _ _=>aZ (sR (K:=K) rfl) (pv 1) (pv 0) (λ_ _=>rfl)))))) fB)
   (bV (gO (aL bW (pv 3) aG) (eQ (dX (x_of (aP fT (aP fT (dJ eP (pv 2) eC (eB (pv 5))) (cV (aA (aZ aX (pv 2) (pv 5) (λ_ _=>rfl)) aC))) (dJ eP (pv 2) (eB (pv 5)) eC))))) fB)
   (bV (gO (aL bW (pv 3) aG) (bV (lB (aJ (i:=7) jC.nd (aV bA rfl T.list' dN (aA (pv 2) aC))))
   (bV (lB (fQ (aZ aX (pv 2) (pv 6) (λ_ _=>rfl)) (jU (pv 7) (pv 5) set_list)))
   (bV (lB (fQ (aZ aX (pv 2) (pv 5) (λ_ _=>rfl)) (jU (pv 7) (pv 6) set_list)))
   (eQ (lB (aM (pv 7))))))) fB)
   (bV (gO (aL bW (pv 3) aG) (eQ (dX (x_op fT (x_op fT (x_of (dJ eP (pv 2) eC (eB (pv 5)))) (oU (x_c (iX (x_c kU (x_c gI (x_c kU (x_c (iX (x_c (x_of (aP pX aG aG)) (x_c gI fK))) fK))))) fK))) (x_of (dJ eP (pv 2) (eB (pv 5)) eC))))) fB)
   (bV (gO (aL bW (pv 3) aG) (eQ (dX (x_op fT (x_op fT (x_of (dJ eP (pv 2) eC (eB (pv 5)))) (oU (x_c (iX (x_c kU (x_c gI fK))) fK))) (x_of (dJ eP (pv 2) (eB (pv 5)) eC))))) fB)
   (bV (gO (aL bW (pv 3) aG) (bV (aA2 (i:=8) jC.nd rfl (Or.inl rfl) (oU (x_c aIf (x_c (iX (x_c kU fK)) (x_c (iX (x_c kU (x_c gI (x_c kU (x_c (iX (x_c gI (x_c gI fK))) fK))))) (x_c (iX (x_c kU (x_c gI (x_c gI (x_c (iX (x_c gI (x_c gI fK))) fK))))) (x_c (iX (x_c kU (x_c gI fK))) fK)))))))
   (eQ (dX (x_op fT (x_op fT (x_of (dJ eP (pv 2) eC (eB (pv 5)))) (oU (x_c (x_of (aZ aX (pv 8) (aI cDi hr (aA (pv 4) (aA aG aC))) (λ_ _=>rfl))) fK))) (x_of (dJ eP (pv 2) (eB (pv 5)) eC)))))) fB)
   (bV (gO (aL bW (pv 3) aG) (eQ (dX (x_of (eO (N':=["_law_k","_law_bench","_law_wares_here","_law_left"]) (λZ=>[none,some 0,some 1,some 4].map λt=>t.bind λj=>(Z[j]?).join) rfl rfl (by decide +kernel) (by decide +kernel)
       (kY (sc:=aH jK) rfl (by decide +kernel)) (λ_ _ _=>eR (sc:=aH jK) (N:=Noth) [none,some 0,some 1,some 4] rfl rfl rfl rfl (by decide +kernel))
       (cQ rfl T.range (aA (aI cDi hr (aA (pv 4) (aA aG aC))) aC)) (λ_ _ _ _ _ _=>aR (i:=0) ndC2) (λ_ _ _ _ _ _=>dY)
       (λ_ _ _ _ _ _=>aI cF hr (aA (pv 1) (aA (pv 2) (aA (pv 3) aC)))))))) fB)
   (eQ (dX (x_of (aV bA rfl T.list' dN (aA (pv 2) aC)))))))))))))))),?_⟩
  obtain ⟨L,rfl,rfl,pL⟩:=rw'.pr;rw [Af] at l20;have hL:=rw'.hl;have l1:=bs.bn.l1;have rsl:=bs.rm.1;have l16:=bs.bn.l16;have fin:∀ (z:Gj) (L':List (V×Option Rw)) (H':Hp),SmB lf H H'->H z=none->H' z=some (.lst (L'.map (·.1)))->(∀ p∈L',p∈L\/NwR rbs.length ws (wy≠6\/L.map (·.2)=[]) H' p)->L'.length<=21->Lf H' lf->(wy≠6\/L=[]\/∃ p∈L',p.2=Option.none)->Q (.ref z) H':=λz L' H' sb nz hz hp ln lf' w6=>by
   have tk:=lfTk sb hl;refine k z (L'.map (·.2)) (L'.map (·.1)) H' sb nz (PrV.rws (λp h=>?_) hz) (by rw [Af];exact ln) (λr hr=>?_) (λc o ho=>?_) (λe6 ne=>?_) lf'
   ·rcases hp p h with h|h
    ·exact (pL p h).tk tk
    ·exact h.rv
   ·obtain ⟨p,h,e⟩:=AE.mp hr
    rcases hp p h with h|h
    ·exact gr r (e▸Bq h)
    ·exact h.gd r e
   ·obtain ⟨p,h,e⟩:=AE.mp ho
    rcases hp p h with h|h
    ·exact no o (e▸Bq h)
    ·rw [<- e]
     exact h.no c
   ·rcases w6 with w6|w6|⟨p,hp,e⟩
    ·exact absurd e6 w6
    ·rw [w6] at ne
     exact absurd rfl ne
    ·exact AE.mpr ⟨p,hp,e⟩
  refine aJh ?_
  intros
  refine ⟨_,rfl,zLn0,λe ne=>?_⟩;have s1:=Gu (o:=.lst []) ne;refine ⟨rl,e,_,rfl,rfl,Gw (s1 _ _ hL),Gw aB,_,rfl,?_⟩;have lf1:=hl.keep s1;generalize upd H e (.lst [])=H1 at s1 lf1 ⊢;refine ite2 (λc=>?_) (λc=>?_)
  ·have L0:L=[]:=Fh.mp (List.isEmpty_iff.mp c)
   subst L0;refine ⟨zLn0,λp1 n1=>?_⟩;have u1:=Gu (o:=.lst []) n1;have g1:upd H1 p1 (.lst []) p1=_:=aB;generalize upd H1 p1 (.lst [])=J1 at u1 g1 ⊢;refine ⟨zLn2,λp2 n2=>?_⟩;have u2:=Gu (o:=.tup [.int 1,.int 100]) n2;have g2:upd J1 p2 (.tup [.int 1,.int 100]) p2=_:=aB;generalize upd J1 p2 (.tup [.int 1,.int 100])=J2 at u2 g2 ⊢;refine ⟨zLn4,λp3 n3=>?_⟩;have u3:=Gu (o:=.tup [.str "draw",.int 0,.str "salt",.ref p2]) n3;have g3:upd J2 p3 (.tup [.str "draw",.int 0,.str "salt",.ref p2]) p3=_:=aB;generalize upd J2 p3 (.tup [.str "draw",.int 0,.str "salt",.ref p2])=J3 at u3 g3 ⊢;refine ⟨zLn1,λp4 n4=>?_⟩;have u4:=Gu (o:=.lst [.ref p3]) n4;have g4:upd J3 p4 (.lst [.ref p3]) p4=_:=aB;generalize upd J3 p4 (.lst [.ref p3])=J4 at u4 g4 ⊢;refine ⟨zLn2,λp5 n5=>?_⟩;have u5:=Gu (o:=.lst [.ref p1,.ref p4]) n5;have g5:upd J4 p5 (.lst [.ref p1,.ref p4]) p5=_:=aB;generalize upd J4 p5 (.lst [.ref p1,.ref p4])=J5 at u5 g5 ⊢;have s25:=((u2.trans u3).trans u4).trans u5;have lf5:=lf1.keep (u1.trans s25);refine ⟨_,rfl,lf,2,rfl,lf5,by decide,bR 9000 (c:=3) (by decide) (by decide),λd H6 d0 d2 sb6 lf6=>?_⟩;have tk6:=lfTk sb6 lf5;have sb5:SmB lf H J5:=SmB.of ((s1.trans u1).trans s25);have m1:=lf1.there n1;have m4:=lf5.there' (u5 _ _ g4) (λi e=>by cases e);have m5:=lf5.there' g5 (λi e=>by cases e)
   rcases (by lia:d=0\/d=1) with rfl|rfl
   ·exact ⟨p5,_,_,_,rfl,rfl,Gw (sb6 _ _ m5 g5),aW (j:=0) rfl,fin p1 [] H6 (sb5.trans sb6) (sm0 s1 n1) (sb6 _ _ m1 (s25 _ _ g1)) (λ_ h=>nomatch h) (Bu _) lf6 (.inr (.inl rfl))⟩
   ·exact ⟨p5,_,_,_,rfl,rfl,Gw (sb6 _ _ m5 g5),aW (j:=1) rfl,fin p4 [(.ref p3,some (.draw 0 "salt" 1 100))] H6 (sb5.trans sb6) (sm0 (((s1.trans u1).trans u2).trans u3) n4) (sb6 _ _ m4 (u5 _ _ g4)) (λq hq=>.inr (by
     rw [AA.mp hq];exact ⟨⟨p3,rfl,p2,tk6 _ _ ((u4.trans u5) _ _ g3),tk6 _ _ (((u3.trans u4).trans u5) _ _ g2)⟩,λr e=>by cases e;exact ⟨⟨by lia,salt,am_b (by decide) (by decide) (by decide) (by decide) (by decide +kernel),by decide⟩,by decide⟩,λ_ e=>nomatch e⟩)) (Nat.le_add_left 1 20) lf6 (.inr (.inl rfl))⟩
  have L1:1<=L.length:=by
   cases L with
   |nil=>exact absurd rfl c
   |cons _ _=>exact Nat.le_add_left 1 _
  have sb1:SmB lf H H1:=SmB.of s1;have at':∀ {H2:Hp},SmB lf H H2->H2 rl=some (.lst (L.map (·.1))):=λsb=>sb _ _ nlf hL;have lm:(((L.map (·.1)).length:Nat):Int)=((L.length:Nat):Int):=by rw [Af]
  refine ⟨_,rfl,_,rfl,rl,_,rfl,.inl (Gw (at' sb1)),lf,_,rfl,lf1,by lia,bR 9000 (c:=1000) (by lia) (by lia),λj' H2 j0 jl sb2 lf2=>?_⟩;obtain ⟨j,rfl⟩:=AN j0;replace sb2:=sb1.trans sb2;refine ⟨_,rfl,_,rfl,rl,_,rfl,.inl (Gw (at' sb2)),lf,_,rfl,lf2,by lia,bR 9000 (c:=1000) (by lia) (by lia),λt' H3 t0 tl sb3 lf3=>?_⟩;obtain ⟨t,rfl⟩:=AN t0;replace sb3:=sb2.trans sb3;have jL:j<L.length:=by lia
  have tL:t<L.length:=by lia
  obtain ⟨xj,hj⟩:∃ x,L[j]?=some x:=⟨_,Ae jL⟩;obtain ⟨xt',ht⟩:∃ x,L[t]?=some x:=⟨_,Ae tL⟩;have vj:(L.map (·.1))[j]?=some xj.1:=by rw [Aq,hj];rfl
  have vt:(L.map (·.1))[t]?=some xt'.1:=by rw [Aq,ht];rfl
  have mj:=Al hj;have mt:=Al ht;have hR:=at' sb3;clear sb1 lf1 s1 lm sb2 lf2;have one:∀ {H4:Hp} {p:Gj} {L':List (V×Option Rw)},SmB lf H H4->Lf H4 lf->H4 p=none->(∀ q∈L',q∈L\/NwR rbs.length ws (wy≠6\/L.map (·.2)=[]) H4 q)->L'.length<=21->(wy≠6\/L=[]\/∃ p∈L',p.2=Option.none)->Q (.ref p) (upd H4 p (.lst (L'.map (·.1)))):=λ{H4 p L'} sb l4 np hp ll w6=>fin p L' _ (sb.trans (SmB.of (Gu np))) (iQ sb l4 np) aB (λq hq=>(hp q hq).imp id λh=>⟨h.rv.keep (Gu np),h.gd,h.no⟩) ll (l4.keep (Gu np)) w6;have ins:∀ {Z:L2.St} {H4 H5:Hp} {p2 p1:Gj} {q:V×Option Rw},Z[2]?=some (some (.ref rl))->Z[5]?=some (some (.int (j:Int)))->SmB lf H H4->Lf H4 lf->SmB lf H4 H5->Lf H5 lf->H4 p1=some (.lst ((L.take j).map (·.1)))->p1≠lf->H5 p2=some (.lst [q.1])->(q∈L\/NwR rbs.length ws (wy≠6\/L.map (·.2)=[]) H5 q)->(wy≠6\/q.2=Option.none)->rCat (.ref p1) (.ref p2) H5 λx H6=>tSl (rSlL K) (tVar 2) (aF4 (tVar 5)) vJ Z H6 λy H7=>rCat x y H7 Q:=λ{Z H4 H5 p2 p1 q} e2 e5 sb4 l4 s45 l5 h1 n1 h2 hq w6=>by
   refine ⟨p1,p2,_,_,rfl,rfl,s45 _ _ n1 h1,h2,cJ (by rw [Af,Ca];exact (by lia:min j L.length+1<=1000)),λp3 n3=>?_⟩;have s56:=Gu (o:=.lst ((L.take j).map (·.1)++[q.1])) n3;have h6:upd H5 p3 (.lst ((L.take j).map (·.1)++[q.1])) p3=_:=aB;generalize upd H5 p3 (.lst ((L.take j).map (·.1)++[q.1]))=H6 at s56 h6 ⊢;have sb6:=(sb4.trans s45).trans (SmB.of s56);refine ⟨_,e2,_,e5,_,rfl,rl,_,rfl,Gw (at' sb6),λp4 n4=>?_⟩;rw [cD (by lia)];have s67:=Gu (o:=.lst ((L.drop j).map (·.1))) n4;have h7:upd H6 p4 (.lst ((L.drop j).map (·.1))) p4=_:=aB;generalize upd H6 p4 (.lst ((L.drop j).map (·.1)))=H7 at s67 h7 ⊢;refine ⟨p3,p4,_,_,rfl,rfl,s67 _ _ h6,h7,cJ (by rw [Av,Af,Af,Ca,Dz];exact (by lia:min j L.length+1+(L.length-j)<=1000)),λp5 n5=>?_⟩;have e:(L.take j).map (·.1)++[q.1]++(L.drop j).map (·.1)=(L.take j++q::L.drop j).map (·.1):=by rw [Be,Ak,List.append_assoc];rfl
   rw [e];have s57:=s56.trans s67;refine one (sb6.trans (SmB.of s67)) (l5.keep s57) n5 (λz hz=>?_) (by rw [Av,AX,Ca,Dz];lia) (w6.imp id λe=>.inr ⟨q,AI _ (Ar ..),e⟩)
   rcases AS.mp hz with h|h
   ·exact .inl (List.mem_of_mem_take h)
   ·rcases Ay.mp h with rfl|h
    ·exact hq.imp id λh=>⟨h.rv.keep s57,h.gd,h.no⟩
    ·exact .inl (List.mem_of_mem_drop h)
  refine ⟨_,rfl,rfl,_,rfl,ite2 (λc0=>?_) (λc0=>?_)⟩
  ·have w6:wy≠6:=by have:=V.int.inj (of_decide_eq_true c0);lia
   refine ⟨_,rfl,_,rfl,_,rfl,rl,_,rfl,Gw hR,λp1 n1=>?_⟩;rw [cT (by lia)];have u1:=Gu (o:=.lst ((L.take j).map (·.1))) n1;have g1:upd H3 p1 (.lst ((L.take j).map (·.1))) p1=_:=aB;generalize upd H3 p1 (.lst ((L.take j).map (·.1)))=J1 at u1 g1 ⊢;have l1':=lf3.keep u1;have b1:=sb3.trans (SmB.of u1);have m1:=lf3.there n1;refine ⟨_,rfl,_,rfl,_,_,rfl,rfl,_,rfl,rl,_,rfl,Gw (at' b1),λp2 n2=>?_⟩;rw [show ((j:Nat):Int)+1=((j+1:Nat):Int) from rfl,cD (by lia)];have u2:=Gu (o:=.lst ((L.drop (j+1)).map (·.1))) n2;have g2:upd J1 p2 (.lst ((L.drop (j+1)).map (·.1))) p2=_:=aB;generalize upd J1 p2 (.lst ((L.drop (j+1)).map (·.1)))=J2 at u2 g2 ⊢;refine ⟨p1,p2,_,_,rfl,rfl,u2 _ _ g1,g2,cJ (by rw [Af,Af,Ca,Dz];lia),λp3 n3=>?_⟩;rw [<- Be];exact one (b1.trans (SmB.of u2)) (l1'.keep u2) n3 (λz hz=>.inl ((AS.mp hz).elim List.mem_of_mem_take List.mem_of_mem_drop)) (by rw [Av,Ca,Dz];lia) (.inl w6)
  clear c0;refine ⟨_,rfl,rfl,_,rfl,ite2 (λc0=>?_) (λc0=>?_)⟩
  ·have w6:wy≠6:=by have:=V.int.inj (of_decide_eq_true c0);lia
   refine ⟨_,rfl,rl,_,rfl,.inl (Gw hR),_,rfl,by rw [Af];lia,by rw [Af];lia,λD nD=>?_⟩;rw [Af,Ci];refine kM Ys.rng (λv=>!decide (v=V.int (j:Int))&&!decide (v=V.int (t:Int))) (λ_ y _=>∃ p∈L,y=p.1) (λ_ _ _ _ h _=>h) nD (by rw [fA];lia) (λi v H' R1 R2 hv sm q1 q2=>?_) (λys H4 s4 hD4 yl hy=>?_)
   ·obtain ⟨hi,rfl⟩:=rK hv
    obtain ⟨z,hz⟩:∃ z,L[i]?=some z:=⟨_,Ae hi⟩;have e0:(0:Int)+((i:Nat):Int)=((i:Nat):Int):=Int.zero_add _;rw [e0] at q1 q2 ⊢;refine ⟨(Keep.refl _).set rfl,_,rfl,_,rfl,rfl,_,rfl,ite2 (λh1=>⟨_,rfl,_,rfl,rfl,_,rfl,ite2 (λh2=>?_) (λh2=>?_)⟩) (λh1=>?_)⟩
    ·exact ⟨_,rfl,_,rfl,rl,_,_,_,rfl,rfl,Gw (sm _ _ hR),aW (by rw [Aq,hz];rfl),q1 (by rw [BG];exact ⟨h1,h2⟩) _ _ (Same.refl _) ⟨z,Al hz,rfl⟩⟩
    ·exact q2 (by rw [EL];exact .inr (by simpa using h2)) _ (Same.refl _)
    ·exact q2 (by rw [EL];exact .inl (by simpa using h1)) _ (Same.refl _)
   ·obtain ⟨L',rfl,hL'⟩:=picks λy hy'=>by
     obtain ⟨a,ha⟩:=Co hy';have al:a<ys.length:=(Ad.mp ha).1;rw [yl] at al;exact hy a _ _ (Ae al) ha
    refine fin D L' H4 (sb3.trans (SmB.of s4)) (iQ sb3 lf3 nD) hD4 (λp h=>.inl (hL' p h)) ?_ (lf3.keep s4) (.inl w6);have:=List.length_filter_le (λv=>!decide (v=V.int (j:Int))&&!decide (v=V.int (t:Int))) (rngV 0 L.length);rw [fA,<- yl,Af] at this;lia
  clear c0;refine ⟨_,rfl,rfl,_,rfl,ite2 (λc0=>?_) (λc0=>?_)⟩
  ·have w6:wy≠6:=by have:=V.int.inj (of_decide_eq_true c0);lia
   refine ⟨_,rfl,_,rfl,_,rfl,rl,_,rfl,Gw hR,λp1 n1=>?_⟩;rw [cT (by lia)];have u1:=Gu (o:=.lst ((L.take j).map (·.1))) n1;have g1:upd H3 p1 (.lst ((L.take j).map (·.1))) p1=_:=aB;generalize upd H3 p1 (.lst ((L.take j).map (·.1)))=J1 at u1 g1 ⊢;have l1':=lf3.keep u1;have b1:=sb3.trans (SmB.of u1);have m1:=lf3.there n1;refine ⟨_,rfl,_,rfl,rl,_,_,_,rfl,rfl,Gw (at' b1),aW vj,?_⟩;refine ⟨zLn1,λp2 n2=>?_⟩;have u2:=Gu (o:=.lst [xj.1]) n2;have g2:upd J1 p2 (.lst [xj.1]) p2=_:=aB;generalize upd J1 p2 (.lst [xj.1])=J2 at u2 g2 ⊢;exact ins rfl rfl b1 l1' (SmB.of u2) (l1'.keep u2) g1 m1 g2 (.inl mj) (.inl w6)
  clear c0;refine ⟨_,rfl,rfl,_,rfl,ite2 (λc0=>?_) (λc0=>?_)⟩
  ·have w6:wy≠6:=by have:=V.int.inj (of_decide_eq_true c0);lia
   refine ⟨_,rfl,rl,_,rfl,.inl (Gw hR),λp1 n1=>?_⟩;have u1:=Gu (o:=.lst (L.map (·.1))) n1;have g1:upd H3 p1 (.lst (L.map (·.1))) p1=_:=aB;generalize upd H3 p1 (.lst (L.map (·.1)))=J1 at u1 g1 ⊢;have b1:=sb3.trans (SmB.of u1);have l1':=lf3.keep u1;have m1:=lf3.there n1;have n0:=iQ sb3 lf3 n1;refine ⟨_,rfl,_,rfl,rl,_,_,_,rfl,rfl,Gw (at' b1),aW vt,_,rfl,_,rfl,p1,_,_,_,rfl,rfl,g1,gH (by rw [Af];lia),?_⟩;have b2:SmB lf H (upd J1 p1 (.lst ((L.map (·.1)).set j xt'.1))):=b1.own n0;refine ⟨_,rfl,_,rfl,rl,_,_,_,rfl,rfl,Gw (at' b2),aW vj,_,rfl,_,rfl,p1,_,_,_,rfl,rfl,aB,gH (by rw [BM,Af];lia),?_⟩;refine ⟨_,rfl,fin p1 ((L.set j xt').set t xj) _ (b2.own n0) n0 (by rw [aB,List.map_set,List.map_set]) (λq hq=>.inl ?_) (by rw [BM,BM];lia) ((l1'.own m1).own m1) (.inl w6)⟩
   rcases Dh hq with h|rfl
   ·rcases Dh h with h|rfl
    ·exact h
    ·exact mt
   ·exact mj
  clear c0;refine ⟨_,rfl,rfl,_,rfl,ite2 (λc0=>?_) (λc0=>?_)⟩
  ·have w6:wy≠6:=by have:=V.int.inj (of_decide_eq_true c0);lia
   refine ⟨_,rfl,_,rfl,_,rfl,rl,_,rfl,Gw hR,λp1 n1=>?_⟩;rw [cT (by lia)];have u1:=Gu (o:=.lst ((L.take j).map (·.1))) n1;have g1:upd H3 p1 (.lst ((L.take j).map (·.1))) p1=_:=aB;generalize upd H3 p1 (.lst ((L.take j).map (·.1)))=J1 at u1 g1 ⊢;have l1':=lf3.keep u1;have b1:=sb3.trans (SmB.of u1);have m1:=lf3.there n1;refine ⟨_,_,rfl,rfl,⟨by decide,by decide,bR 1000 (c:=11) (by decide) (by decide)⟩,?_⟩;refine ⟨zLn2,λp2 n2=>?_⟩;have u2:=Gu (o:=.tup [.int (10^(20:Int).toNat),.int 1]) n2;have g2:upd J1 p2 (.tup [.int (10^(20:Int).toNat),.int 1]) p2=_:=aB;generalize upd J1 p2 (.tup [.int (10^(20:Int).toNat),.int 1])=J2 at u2 g2 ⊢;refine ⟨zLn4,λp3 n3=>?_⟩;have u3:=Gu (o:=.tup [.str "draw",.int 0,.str "salt",.ref p2]) n3;have g3:upd J2 p3 (.tup [.str "draw",.int 0,.str "salt",.ref p2]) p3=_:=aB;generalize upd J2 p3 (.tup [.str "draw",.int 0,.str "salt",.ref p2])=J3 at u3 g3 ⊢;refine ⟨zLn1,λp4 n4=>?_⟩;have u4:=Gu (o:=.lst [.ref p3]) n4;have g4:upd J3 p4 (.lst [.ref p3]) p4=_:=aB;generalize upd J3 p4 (.lst [.ref p3])=J4 at u4 g4 ⊢;exact ins (q:=(.ref p3,some (.draw 0 "salt" 100000000000000000000 1))) rfl rfl b1 l1' (SmB.of ((u2.trans u3).trans u4)) (l1'.keep ((u2.trans u3).trans u4)) g1 m1 g4 (.inr ⟨⟨p3,rfl,p2,u4 _ _ g3,(u3.trans u4) _ _ g2⟩,λr e=>by cases e;exact ⟨⟨by lia,salt,am_b (by decide) (by decide) (by decide) (by decide) (by decide +kernel),by decide⟩,by decide⟩,λ_ e=>nomatch e⟩) (.inl w6)
  clear c0;refine ⟨_,rfl,rfl,_,rfl,ite2 (λc0=>?_) (λc0=>?_)⟩
  ·have w6:wy≠6:=by have:=V.int.inj (of_decide_eq_true c0);lia
   refine ⟨_,rfl,_,rfl,_,rfl,rl,_,rfl,Gw hR,λp1 n1=>?_⟩;rw [cT (by lia)];have u1:=Gu (o:=.lst ((L.take j).map (·.1))) n1;have g1:upd H3 p1 (.lst ((L.take j).map (·.1))) p1=_:=aB;generalize upd H3 p1 (.lst ((L.take j).map (·.1)))=J1 at u1 g1 ⊢;have l1':=lf3.keep u1;have b1:=sb3.trans (SmB.of u1);have m1:=lf3.there n1;refine ⟨zLn2,λp3 n3=>?_⟩;have u3:=Gu (o:=.tup [.str "empty",.int 0]) n3;have g3:upd J1 p3 (.tup [.str "empty",.int 0]) p3=_:=aB;generalize upd J1 p3 (.tup [.str "empty",.int 0])=J3 at u3 g3 ⊢;refine ⟨zLn1,λp4 n4=>?_⟩;have u4:=Gu (o:=.lst [.ref p3]) n4;have g4:upd J3 p4 (.lst [.ref p3]) p4=_:=aB;generalize upd J3 p4 (.lst [.ref p3])=J4 at u4 g4 ⊢;exact ins (q:=(.ref p3,some (.empty 0))) rfl rfl b1 l1' (SmB.of (u3.trans u4)) (l1'.keep (u3.trans u4)) g1 m1 g4 (.inr ⟨⟨p3,rfl,u4 _ _ g3⟩,λr e=>by cases e;exact ⟨(by show 0<rbs.length;lia),by decide⟩,λ_ e=>nomatch e⟩) (.inl w6)
  clear c0;refine ⟨_,rfl,rfl,_,rfl,ite2 (λc0=>?_) (λc0=>?_)⟩
  ·refine ⟨zLn1,λp1 n1=>?_⟩
   have u1:=Gu (o:=.tup [.str "rinse"]) n1;have g1:upd H3 p1 (.tup [.str "rinse"]) p1=_:=aB;generalize upd H3 p1 (.tup [.str "rinse"])=A1 at u1 g1 ⊢;refine ⟨zLn2,λp2 n2=>?_⟩;have u2:=Gu (o:=.tup [.int 0,.int 1]) n2;have g2:upd A1 p2 (.tup [.int 0,.int 1]) p2=_:=aB;generalize upd A1 p2 (.tup [.int 0,.int 1])=A2 at u2 g2 ⊢;refine ⟨zLn4,λp3 n3=>?_⟩;have u3:=Gu (o:=.tup [.str "draw",.int 0,.str "salt",.ref p2]) n3;have g3:upd A2 p3 (.tup [.str "draw",.int 0,.str "salt",.ref p2]) p3=_:=aB;generalize upd A2 p3 (.tup [.str "draw",.int 0,.str "salt",.ref p2])=A3 at u3 g3 ⊢;refine ⟨zLn2,λp4 n4=>?_⟩;have u4:=Gu (o:=.tup [.int 1,.int 1]) n4;have g4:upd A3 p4 (.tup [.int 1,.int 1]) p4=_:=aB;generalize upd A3 p4 (.tup [.int 1,.int 1])=A4 at u4 g4 ⊢;refine ⟨zLn4,λp5 n5=>?_⟩;have u5:=Gu (o:=.tup [.str "pour",.int 0,.int 0,.ref p4]) n5;have g5:upd A4 p5 (.tup [.str "pour",.int 0,.int 0,.ref p4]) p5=_:=aB;generalize upd A4 p5 (.tup [.str "pour",.int 0,.int 0,.ref p4])=A5 at u5 g5 ⊢;refine ⟨zLn2,λp6 n6=>?_⟩;have u6:=Gu (o:=.tup [.str "empty",.int 99]) n6;have g6:upd A5 p6 (.tup [.str "empty",.int 99]) p6=_:=aB;generalize upd A5 p6 (.tup [.str "empty",.int 99])=A6 at u6 g6 ⊢;refine ⟨zLn5,λp7 n7=>?_⟩;have u7:=Gu (o:=.lst [.non,.ref p1,.ref p3,.ref p5,.ref p6]) n7;have g7:upd A6 p7 (.lst [.non,.ref p1,.ref p3,.ref p5,.ref p6]) p7=_:=aB;generalize upd A6 p7 (.lst [.non,.ref p1,.ref p3,.ref p5,.ref p6])=A7 at u7 g7 ⊢;have u67:=u6.trans u7;have u57:=u5.trans u67;have u47:=u4.trans u57;have u37:=u3.trans u47;have u27:=u2.trans u37;have b7:=sb3.trans (SmB.of (u1.trans u27));have lf7:=lf3.keep (u1.trans u27);refine ⟨_,rfl,_,rfl,_,rfl,rl,_,rfl,Gw (at' b7),λp8 n8=>?_⟩;rw [cT (by lia)];have u8:=Gu (o:=.lst ((L.take j).map (·.1))) n8;have g8:upd A7 p8 (.lst ((L.take j).map (·.1))) p8=_:=aB;generalize upd A7 p8 (.lst ((L.take j).map (·.1)))=A8 at u8 g8 ⊢;have lf8:=lf7.keep u8;have b8:=b7.trans (SmB.of u8);have m8:=lf7.there n8;have m7:=lf7.there' g7 (λi e=>by cases e);refine ⟨_,rfl,_,rfl,lf,_,rfl,lf8,by decide,bR 9000 (c:=6) (by decide) (by decide),λd A9 d0 d5 sb9 lf9=>?_⟩;have tk9:Tk A7 A9:=λb xs e=>lfTk sb9 lf8 b xs (u8 _ _ e);obtain ⟨v,av,ov⟩:∃ v,atI [.non,.ref p1,.ref p3,.ref p5,.ref p6] d=some v/\OddV A9 v:=by
    rcases (by lia:d=0\/d=1\/d=2\/d=3\/d=4) with rfl|rfl|rfl|rfl|rfl
    ·exact ⟨_,aW (j:=0) rfl,.non⟩
    ·exact ⟨_,aW (j:=1) rfl,.rin (tk9 _ _ (u27 _ _ g1))⟩
    ·exact ⟨_,aW (j:=2) rfl,.nou (tk9 _ _ (u47 _ _ g3)) (tk9 _ _ (u37 _ _ g2))⟩
    ·exact ⟨_,aW (j:=3) rfl,.slf (tk9 _ _ (u67 _ _ g5)) (tk9 _ _ (u57 _ _ g4))⟩
    ·exact ⟨_,aW (j:=4) rfl,.far (tk9 _ _ (u7 _ _ g6))⟩
   refine ⟨p7,_,_,v,rfl,rfl,Gw (sb9 _ _ m7 (u8 _ _ g7)),av,?_⟩;refine ⟨zLn1,λp9 n9=>?_⟩;have u9:=Gu (o:=.lst [v]) n9;have g9:upd A9 p9 (.lst [v]) p9=_:=aB;generalize upd A9 p9 (.lst [v])=B9 at u9 g9 ⊢;exact ins (q:=(v,none)) rfl rfl b8 lf8 (sb9.trans (SmB.of u9)) (lf9.keep u9) g8 m8 g9 (.inr ⟨OddV.keep u9 ov,(λ_ e=>nomatch e),λh=>absurd h λh=>h.elim (λh=>h (by have:=V.int.inj (of_decide_eq_true c0);lia)) λh=>by rw [Fh.mp h] at L1;exact absurd L1 (by decide)⟩) (.inr rfl)
  have w6:wy≠6:=λe=>c0 (decide_eq_true (by rw [e];rfl));clear c0;refine ⟨_,rfl,rfl,_,rfl,ite2 (λc0=>?_) (λc0=>?_)⟩
  ·refine ⟨_,rfl,lf,_,rfl,lf3,by decide,bR 9000 (c:=10) (by decide) (by decide),λd H4 d0 d9 sb4 lf4=>⟨d,rfl,by lia,by lia,λD nD=>?_⟩⟩
   have b4:=sb3.trans sb4;have Dl:=lf4.there nD;have n0:=iQ b4 lf4 nD;refine zT (λi ys H'=>∃ L':List (V×Option Rw),ys=L'.map (·.1)/\L'.length=i/\(∀ p∈L',NwR rbs.length ws (wy≠6\/L.map (·.2)=[]) H' p)/\SmB lf H H'/\Lf H' lf/\H' D=some (.lst ys)) ⟨[],rfl,rfl,(λ_ h=>nomatch h),b4.own n0,lf4.own Dl,aB⟩ (λi ys H' hi hh=>?_) (λi ys H' R hi hh hR'=>?_) (λys H' hh=>?_)
   ·obtain ⟨L',rfl,ll,_,_,_,hD'⟩:=hh
    exact ⟨hD',bP (by rw [Af];lia)⟩
   ·obtain ⟨L',rfl,ll,hn,sb,lf5,hD1⟩:=hh
    have tk:=lfTk sb hl;refine ⟨(Keep.refl _).set rfl,_,rfl,_,rfl,_,rfl,b,wl,lf,rs.length,wa,rfl,⟨r,_,rs,tk _ _ bs.bn.hp,tk _ _ bs.bn.hr,rfl⟩,l1,l16,⟨sb _ _ (aFu wv hl) wv.1,wv.2⟩,lf5,λz H6 sb6 lf6 gr6=>hR' _ _ (sb6 _ _ Dl hD1) ?_⟩;obtain ⟨rz,rvz,gd,l100⟩:=gr6.good;have tk1:=lfTk sb6 lf5;have tk2:Tk H6 (upd H6 D (.lst (L'.map (·.1)++[.ref z]))):=Tk.lst (sb6 _ _ Dl hD1);refine ⟨L'++[(.ref z,some rz)],by rw [Be];rfl,by rw [Av,ll];rfl,λp hp=>?_,(sb.trans sb6).own n0,lf6.own Dl,aB⟩
    rcases AS.mp hp with h|h
    ·have:=hn p h
     exact ⟨(this.rv.tk tk1).tk tk2,this.gd,this.no⟩
    ·rw [AA.mp h]
     exact ⟨⟨z,rfl,rvz.tk tk2⟩,λr e=>by cases e;exact ⟨by rw [<- rsl];exact gd.mono sub,l100⟩,λ_ e=>nomatch e⟩
   ·obtain ⟨L',rfl,ll,hn,sb,lf5,hD1⟩:=hh
    exact fin D L' _ sb n0 hD1 (λp h=>.inr (hn p h)) (by lia) lf5 (.inl w6)
  clear c0;exact ⟨_,rfl,rl,_,rfl,.inl (Gw hR),λp n=>one sb3 lf3 n (λq hq=>.inl hq) (by lia) (.inl w6)⟩
end
def spLaw (K:Ab):Sp:=λvs H Q _=>∃ (a:Gj) (ns:List Int),vs=[.ref a]/\SqL K H a (ns.map V.int)/\ns.length<=63/\∀ H',Q (.bl true) H'
def StV.copy {H H':Hp}{l l':Gj}{M:Int}{S:List PF}{vs:Gq}(h:StV H l M S)(hl:H l=some (.lst vs))(s:Same H H')(hl':H' l'=some (.lst vs)):StV H' l' M S:=by
 obtain ⟨vs',h1,h2,h3⟩:=h;rw [hl] at h1;cases h1;exact ⟨vs,hl',h2,λi v d hv hd=>(h3 i v d hv hd).keep s⟩
def aGe {H:Hp}{ph:Gj}{rs ys:Gq}{n:Nat}(rl:rs.length=n)(hph:H ph=some (.lst ys))(yl:ys.length=rs.length)(hy:∀ (i:Nat) x y,rs[i]?=some x->ys[i]?=some y->PhA H 1 y (λ_=>0,[])):StV H ph 1 (Cm n (λ_=>0,[])):=⟨ys,hph,by rw [List.length_replicate];lia,λi v d hv hd=>by
 obtain ⟨x,hx⟩:∃ x,rs[i]?=some x:=⟨_,Ae (by have:=(Ad.mp hv).1;lia)⟩;rw [(List.mem_replicate.mp (Al hd)).2];exact hy i x v hx hv⟩
def aHo:(["_law_room"]:Gh).Nodup:=by decide +kernel
inductive rTL (K:Ab)(x y:V)(H:Hp)(Q:VK):Prop
 |mk (a b p1 p2 p3 q1 q2 q3:Gj) (xs ys zs:Gq) (e1:x=.ref a) (e2:y=.ref b) (h1:SqT K H a [.ref p1,.ref p2,.ref p3]) (h2:SqT K H b [.ref q1,.ref q2,.ref q3]) (g1:SqL K H p1 xs) (g2:SqL K H q1 xs) (g3:SqL K H p2 ys) (g4:SqL K H q2 ys) (g5:SqL K H p3 zs) (g6:SqL K H q3 zs) (f1:∀ v∈xs,Sf v) (f2:∀ v∈ys,Sf v) (f3:∀ v∈zs,Sf v) (q:Q (.bl false) H):rTL K x y H Q
def aEr {X:Cx}(hu:X.A.units+64<cLine):OpR X (BB .NotEq) (rTL X.K):=by
 intro U s Z H x y v u Q I rx ry h;obtain ⟨a,b,p1,p2,p3,q1,q2,q3,xs,ys,zs,rfl,rfl,h1,h2,g1,g2,g3,g4,g5,g6,f1,f2,f3,q⟩:=h;refine xD hu U s Z H _ _ v u Q I rx ry ⟨a,b,_,_,λ_=>true,rfl,rfl,h1,h2,λj x y hx hy=>?_,?_⟩
 ·match j,hx,hy with
  |0,hx,hy=>cases hx;cases hy;exact qL (n:=39) g1 g2 f1
  |1,hx,hy=>cases hx;cases hy;exact qL (n:=39) g3 g4 f2
  |2,hx,hy=>cases hx;cases hy;exact qL (n:=39) g5 g6 f3
  |j+3,hx,_=>simp at hx
 ·exact q
def StV.sf {H:Hp}{l:Gj}{M:Int}{S:List PF}{vs:Gq}(h:StV H l M S)(hl:H l=some (.lst vs)):∀ v∈vs,Sf v:=λv hv=>by
 obtain ⟨vs',h1,h2,h3⟩:=h;rw [hl] at h1;cases h1;obtain ⟨i,hi⟩:=Co hv;have li:=(Ad.mp hi).1;obtain ⟨a,_,_,_,_,e,_⟩:=h3 i v _ hi (Ae (by lia));exact .inr ⟨a,e⟩
def RwsV.sf {H:Hp}{l:Gj}{rws:List (Option Rw)}{rv:Gq}(h:RwsV H l rws rv):∀ v∈rv,Sf v:=λv hv=>by
 obtain ⟨i,hi⟩:=Co hv;obtain ⟨o,_,r⟩:=h.get hi;cases o with
 |some r'=>
  obtain ⟨a,e,_⟩:=r;exact .inr ⟨a,e⟩
 |none=>
  cases r with
  |non=>exact .inl rfl
  |_=>exact .inr ⟨_,rfl⟩
def RwsV.copy {H H':Hp}{l l':Gj}{rws:List (Option Rw)}{rv:Gq}(h:RwsV H l rws rv)(s:Same H H')(hl:H' l'=some (.lst rv)):RwsV H' l' rws rv:=⟨hl,h.ln,(h.keep s).at'⟩
theorem Ends.odd' {us:Gq}{ps:Gf}{rbs:Gg}{ws:Gh}{M:Int}{S:List PF}{rws:List (Option Rw)}{o}(h:Ends us ps rbs ws M S rws o):none∈rws->o=none:=by
 induction h with
 |nil=>intro h;cases h
 |odd=>intro _;rfl
 |bad _=>intro _;rfl
 |step _ _ ih=>
  intro h
  rcases Ay.mp h with h|h
  ·cases h
  ·exact ih h
def nG (wa:Gh):Gh:=if ("salt":Str)∈wa then wa else "salt" :: wa
def vX {wa:Gh}(h6:wa.length=6)(nd:wa.Nodup)(wr:∀ x∈wa,Wr x):Wss (nG wa)/\("salt":Str)∈nG wa/\∀ x∈wa,x∈nG wa:=by
 unfold nG
 by_cases h:("salt":Str)∈wa
 ·rw [if_pos h]
  exact ⟨⟨nd,by lia,wr⟩,h,λ_ h=>h⟩
 ·rw [if_neg h]
  refine ⟨⟨BF.mpr ⟨h,nd⟩,by rw [AX];lia,λx hx=>?_⟩,Ar ..,λx hx=>Ah _ hx⟩
  rcases Ay.mp hx with rfl|hx
  ·decide +kernel
  ·exact wr x hx
section
variable {us:Gq}{ps:Gf}{rbs:Gg}{ws:Gh}
def aDt (rp:∀ (i:Nat) rb,rbs[i]?=some rb->0<=rb.1):Sok ws rbs 1 (Cm rbs.length (λ_=>0,[])) 1:=by
 refine ⟨by decide,bR 1 (c:=2) (by decide) (by decide),List.length_replicate ..,λd hd=>?_,λi d rb hd hr=>?_⟩
 ·rw [(List.mem_replicate.mp hd).2]
  exact ⟨λ_=>Dy _,(λy hy=>by cases hy),.nil,λy hy=>absurd rfl hy⟩
 ·rw [(List.mem_replicate.mp (Al hd)).2]
  show tot ws (λ_=>0)*rb.2<=rb.1*1;rw [qY,Bo,Int.mul_one];exact rp i rb hr
end
section
variable {P:Aw}{w:World}{K:Ab}{mg:Gb}{base:Heap}
abbrev Nlaw:Gh:=["_law_script","_law_wares_here","_law_bench","_law_state","_law_rows","_law_due","_law_k","_law_left","_law_goal","_law_way","_law_other_here","_law_handed","_law_found","_law_well"]
def gA:FnScope Nlaw ["_law_script"] (aH sLaw):=fnScOk (by decide +kernel)
def aHf {f:Gj}{fd:Az}(F:Fun K "law" "law" sLaw f fd)(T:Txt mg)
  (cC:Cal P w K mg base CX0 11 "_law_cell_at" ["_law_script","_law_k"] (mX K)) (cM:Cal P w K mg base CX0 11 "_law_mixed" ["_law_cell","_law_k"] jA) (cDi:Cal P w K mg base CX0 11 "_law_digit" ["_law_left","_law_many"] hZ) (cWs:Cal P w K mg base CX0 11 "_law_wares" ["_law_cell"] vQ) (cB:Cal P w K mg base CX0 11 "_law_small" ["_law_script","_law_wares_here"] (spBench K)) (cG:Cal P w K mg base CX0 11 "_law_goes_on" ["_law_script","_law_bench","_law_wares_here","_law_state","_law_start","_law_last","_law_most"] (spGoes K)) (cO:Cal P w K mg base CX0 11 "_law_other" ["_law_bench","_law_wares_here","_law_rows","_law_way","_law_left"] spOther) (cSe:Cal P w K mg base CX0 11 "serves" ["bench","phials","rows","other","goal"] spServ) (cSv:Cal P w K mg base CX0 11 "_law_serves" ["_law_bench","_law_state","_law_due","_law_rows","_law_goal"] (spServes K)):FnOk P w K mg base CX0 12 f fd ["_law_script"] (spLaw K):=by
 refine F.okA gA (λcdv A outer s H vs Q E hr h=>?_)
 ·obtain ⟨sc,ns,rfl,hS,hlen,k⟩:=h
  refine ⟨_,(aD (aJ (i:=1) gA.nd (aI cWs hr (aA (aI cC hr (aA (pv 0) (aA aG aC))) aC)))
   (aD (aJ (i:=2) gA.nd (aI cB hr (aA (pv 0) (aA (pv 1) aC))))
   (aD (aJ (i:=3) gA.nd (aZ cY (aI cG hr (aA (pv 0) (aA (pv 2) (aA (pv 1) (aA (pV (N':=["_law_room"]) (cl:=[]) (g:=L2.gName 0) (λ_=>[none]) rfl rfl (by decide +kernel) (by decide +kernel) (lM (by decide +kernel)) (λ_ _=>oM) (gC (pit 2 0)) (λ_ _ _ _ _=>gE (i:=0) aHo rfl (Or.inl rfl) (Or.inr rfl)) (λ_ _ _ _ _=>dY) (λ_ _ _ _ _=>aU (aA (aU aC) (aA (aU aC) aC)))) (aA aG (aA aG (aA aG aC)))))))) aG (λ_ _=>rfl)))
   (aD (fQ (aI cG hr (aA (pv 0) (aA (pv 2) (aA (pv 1) (aA (pv 3) (aA aG (aA aG (aA aG aC)))))))) (fR rfl (bE (aR (i:=4) gA.nd) (bE (aR (i:=5) gA.nd) eD))))
   (aD (dA AO rfl (cQ rfl T.range (aA (aT (zY rfl) rfl T.max' boot_max (aA aG (aA (aT (oG rfl) rfl T.min' boot_min (aA (aT aY rfl T.len BA (aA (pv 0) aC)) (aA aG aC))) aC))) aC)) (aR (i:=6) gA.nd) (aD (aJ (i:=7) gA.nd (cV (aA (aI cM hr (aA (aI cC hr (aA (pv 0) (aA (pv 6) aC))) (aA (aP bJ aG (pv 6)) aC))) aC)))
   (aD (bH (aL bW (aP bQ (aI cC hr (aA (pv 0) (aA aG aC))) aG) aG) (aE (aJ (i:=7) gA.nd (cV (aA (aT gZ rfl T.abs' oJ (aA (aI cC hr (aA (pv 0) (aA (aP bJ aG (pv 6)) aC))) aC)) aC)))) aQ)
   (aD (aJ (i:=8) gA.nd (aI cDi hr (aA (pv 7) (aA (aT aY rfl T.len BA (aA (pit 2 0) aC)) aC))))
   (aD (aJ (i:=9) gA.nd (aI cDi hr (aA (pv 7) (aA aG aC))))
   (aD (aJ (i:=10) gA.nd (aI cO hr (aA (pv 2) (aA (pv 1) (aA (pv 4) (aA (pv 9) (aA (pv 7) aC)))))))
   (aD (aJ (i:=11) gA.nd (aU (aA (aV bA rfl T.list' dN (aA (pv 3) aC)) (aA (aV bA rfl T.list' dN (aA (pv 4) aC)) (aA (aV bA rfl T.list' dN (aA (pv 10) aC)) aC)))))
   (aD (aJ (i:=12) gA.nd (aI cSe hr (aA (pv 2) (aA (pit 11 0) (aA (pit 11 1) (aA (pit 11 2) (aA (pv 8) aC)))))))
   (aD (aJ (i:=13) gA.nd (iI (dD mE (pv 9) aG) (gQ (aI cSv hr (aA (pv 2) (aA (pv 3) (aA (pv 5) (aA (pv 10) (aA (pv 8) aC)))))))))
   (aD (bH (aL (xJ hr.units) (pv 4) (cV aC)) (aE (aJ (i:=13) gA.nd (aI cSv hr (aA (pv 2) (aA (pv 3) (aA (pv 5) (aA (pv 10) (aA (pv 8) aC)))))))) aQ)
   (aD (bH (PW.pt (mB (fJ (eA (aT fG rfl T.isi DZ (aA (pv 12) (aA (gF (v:=.ty "bool") rfl T.bool' aAc rfl) aC))))) (iH (aL mE (pv 12) (pv 13))))) (aE (aM iD)) aQ)
   (aE (bH (aL (aEr hr.units) (pv 11) (aU (aA (pv 3) (aA (pv 4) (aA (pv 10) aC))))) (aE (aM iD)) aQ)))))))))))))
   (aE (aM iD))))))),?_⟩
  refine ⟨_,rfl,sc,ns,0,rfl,hS,by decide,λc00=>⟨c00,rfl,λwa wl H1 wlen wnd wwr s1 nwl hwl=>?_⟩⟩;obtain ⟨wss,salt,sub⟩:=vX wlen wnd wwr;generalize nG wa=ws at wss salt sub;refine ⟨_,rfl,_,rfl,sc,ns,wl,wa,rfl,s1.seq hS,Gw hwl,⟨wlen,wnd,wwr⟩,λb r q rs us ps H2 s2 bn2=>?_⟩;obtain ⟨rbs,rml⟩:=bn2.rm.list;have bs2:BS H2 b r q rs us ps rbs ws:=⟨bn2,rml,wss⟩;have s02:=s1.trans s2;have n16:=bn2.l16;have n1:=bn2.l1;have rsl:=bs2.rm.1;have rp:=bs2.rp;have wv2:WsV H2 wl wa:=⟨s2 _ _ hwl,wlen,wwr⟩;refine ⟨_,rfl,_,rfl,_,rfl,b,_,_,rfl,Gv bs2.bn.hp,rfl,r,rfl,⟨_,Gv bs2.bn.hr⟩,λph nph=>?_⟩;refine fZ (Ys.tup (Gv bs2.bn.hr)) (λ_ _ y H'=>PhA H' 1 y (λ_=>0,[])) (λ_ _ _ _ _ h t=>by obtain ⟨a,m,n,us,ys,e,h1,h2,h3,h4,h5⟩:=h;exact ⟨a,m,n,us,ys,e,t _ _ h1,t _ _ h2,h3.keep t,h4,t _ _ h5⟩) nph (by lia) (λi x H' R hx sm hR=>?_) (λys H3 s3 hph yl hy=>?_)
  ·refine ⟨(Keep.refl _).set rfl,zLn0,λe1 ne1=>⟨zLn0,λe2 ne2=>⟨zLn2,λz nz=>?_⟩⟩⟩
   have t1:=Gu (o:=.tup []) ne1;have t2:=Gu (o:=.tup []) ne2;have t3:=Gu (o:=.tup [.ref e1,.ref e2]) nz;exact hR _ _ ((t1.trans t2).trans t3) ⟨z,e1,e2,[],[],rfl,aB,(t2.trans t3) _ _ aB,.nil,lH,t3 _ _ aB⟩
  have st3:StV H3 ph 1 (Cm rbs.length (λ_=>0,[])):=aGe bs2.rm.1 hph yl hy;have o3:OnIn H3 b r q ph rs us ps rbs ws 1 (Cm rbs.length (λ_=>0,[])) 1:=⟨bs2.keep s3,st3,aDt rp.1,by decide⟩;have s03:=s02.trans s3;refine ⟨sc,b,wl,ph,r,q,rs,us,ps,rbs,wa,ws,1,_,1,ns,3,9,6,rfl,s03.seq hS,hlen,o3,⟨s3 _ _ wv2.1,wv2.2⟩,sub,by decide,by decide,by decide,by decide,λt0 rl0 l1 rws0 rv0 M1 S1 H4 s4 _ ht0 _ m6 _ _ _ st4 _ so4=>?_⟩;refine ⟨t0,_,_,.ref l1,rfl,rfl,Gv ht0,rfl,?_⟩;have s24:=s3.trans s4;have b1l:1+14*rws0.length<=85:=by lia
  generalize 1+14*rws0.length=β at so4 b1l;have o4:OnIn H4 b r q l1 rs us ps rbs ws M1 S1 β:=⟨bs2.keep s24,st4,so4,by lia⟩;have s04:=s02.trans s24;refine ⟨_,rfl,_,rfl,_,rfl,_,rfl,sc,b,wl,l1,r,q,rs,us,ps,rbs,wa,ws,M1,S1,β,ns,9,51,20,rfl,s04.seq hS,hlen,o4,⟨s24 _ _ wv2.1,wv2.2⟩,sub,by decide,by decide,by decide,by lia,λt1 rl l2 rws rv M2 S2 H5 s5 nrl ht1 rw5 r20 noo grs en st5 _ so5=>?_⟩;refine ⟨t1,_,rfl,Gv ht1,rfl,_,_,rfl,_,_,rfl,rfl,?_⟩;have s25:=s24.trans s5;have s05:=s02.trans s25;have o5:=o4.keep s5;have wi5:WIn H5 b r q l1 rl rs us ps rbs ws M1 S1 β rws rv:=⟨o5,rw5,grs,by lia,by lia⟩;have rln:=rw5.ln;have nbp:(0:Int)<((rs.length:Nat):Int):=by lia
  have wv5:WsV H5 wl wa:=⟨s25 _ _ wv2.1,wv2.2⟩;have hrl:=rw5.hl;obtain ⟨vs1,hl1,_⟩:=o5.st.ex;have sf1:=o5.st.sf hl1;have sf2:=rw5.sf;have m02:=so5.m0;refine ⟨_,rfl,sc,_,rfl,.inl (s05.seq hS),_,_,rfl,_,_,rfl,_,rfl,by (repeat' split)<;>lia,by (repeat' split)<;>lia,?_⟩;refine eV (λi Z H'=>∃ v6 v7 v8 v9 v10 v11 v12 v13:Gr,Z=[some (.ref sc),some (.ref wl),some (.ref b),some (.ref l1),some (.ref rl),some (.ref l2),v6,v7,v8,v9,v10,v11,v12,v13]/\Same H5 H') ⟨none,none,none,none,none,none,none,none,rfl,Same.refl _⟩ ?_ ?_
  ·intro i Z HE D' hN hi hh
   obtain ⟨v6,v7,v8,v9,v10,v11,v12,v13,rfl,sE⟩:=hh;have i10:i<10:=by
    have h2:i<(if (if (10:Int)<(((ns.map V.int).length:Nat):Int) then (10:Int) else (((ns.map V.int).length:Nat):Int)) > 1 then (if (10:Int)<(((ns.map V.int).length:Nat):Int) then (10:Int) else (((ns.map V.int).length:Nat):Int)) else 1).toNat:=hi
    revert h2
    (repeat' split)<;>lia
   have s0E:=s05.trans sE;have bsE:=o5.bs.keep sE;dsimp only [gName];refine ⟨_,rfl,_,rfl,sc,ns,_,rfl,s0E.seq hS,by lia,λc1=>⟨_,rfl,_,_,rfl,rfl,c1,_,rfl,by lia,by lia,λnm nm0 _=>⟨zLn1,λq1 nq1=>?_⟩⟩⟩;dsimp only [gName];refine aCg (λZ' H'=>∃ lf,Z'=[some (.ref sc),some (.ref wl),some (.ref b),some (.ref l1),some (.ref rl),some (.ref l2),some (.int (0+((i:Nat):Int))),some (.ref lf),v8,v9,v10,v11,v12,v13]/\Same HE H'/\Lf H' lf/\HE lf=none) ?_ (λN hN2=>?_)
   rotate_left
   ·have sq:=Gu (o:=.lst [.int nm]) nq1
    refine ⟨_,rfl,sc,ns,0,rfl,(s0E.trans sq).seq hS,by decide,λc01=>⟨_,_,rfl,rfl,(by show (0:Int)<2;decide),rfl,_,rfl,ite2 (λ_=>?_) (λ_=>?_)⟩⟩
    ·refine ⟨_,rfl,_,rfl,_,_,rfl,rfl,sc,ns,_,rfl,(s0E.trans sq).seq hS,by lia,λc3=>⟨c3,rfl,zLn1,λq2 nq2=>hN2 _ _ ⟨q2,rfl,sq.trans (Gu nq2),⟨_,aB,abs_nonneg c3⟩,sm0 sq nq2⟩⟩⟩
    ·exact hN2 _ _ ⟨q1,rfl,sq,⟨nm,aB,nm0⟩,nq1⟩
   intro Z' HF hh;obtain ⟨lf,rfl,sF,lfF,nlf⟩:=hh;have bsF:=bsE.keep sF;refine ⟨_,rfl,b,_,_,rfl,Gv bsF.bn.hp,rfl,r,_,rfl,.inr (Gv bsF.bn.hr),lf,_,rfl,lfF,by lia,bR 9000 (c:=1000) (by lia) (by lia),λg' HG g0 gl sbG lfG=>?_⟩;obtain ⟨g,rfl⟩:=AN g0;refine ⟨_,rfl,lf,_,rfl,lfG,by decide,bR 9000 (c:=10) (by decide) (by decide),λwy' HH w0 w9 sbH lfH=>?_⟩;obtain ⟨wy,rfl⟩:=AN w0;have sbH0:=((SmB.of sF).trans sbG).trans sbH;have sH:=sbH0.same nlf;have s5H:=sE.trans sH;refine ⟨_,rfl,_,rfl,_,rfl,_,rfl,_,rfl,b,r,q,wl,rl,lf,rs,us,ps,rbs,wa,ws,rws,rv,wy,0,rfl,o5.bs.keep s5H,⟨s5H _ _ wv5.1,wv5.2⟩,sub,salt,rw5.keep s5H,noo,grs,r20,lfH,(λe=>by rw [<- e,sE _ _ hrl] at nlf;cases nlf),λz xs xv HI sbI nz rwz l21 grx no6 od6 lfI=>?_⟩;have sI:=(sbH0.trans sbI).same nlf;have s5I:=sE.trans sI;obtain ⟨d2,hd2⟩:∃ d,S2[g]?=some d:=⟨_,Ae (by rw [so5.sl];lia)⟩;obtain ⟨o,eo⟩:=Ends.ex o5.bs.bn.pt rp.2 so4 grx;have sf3:=rwz.sf;clear lfF lfG lfH lfI sbG sbH sbH0 sbI;refine ⟨_,rfl,l1,_,rfl,.inl (Gw (s5I _ _ hl1)),λh1 nh1=>?_⟩;obtain ⟨H6,eH6,t6,hh1⟩:=updX (o:=.lst vs1) nh1;rw [eH6];refine ⟨_,rfl,rl,_,rfl,.inl (Gw ((s5I.trans t6) _ _ hrl)),λh2 nh2=>?_⟩;obtain ⟨H7,eH7,t7,hh2⟩:=updX (o:=.lst rv) nh2;rw [eH7];refine ⟨_,rfl,z,_,rfl,.inl (Gw ((t6.trans t7) _ _ rwz.hl)),λh3 nh3=>?_⟩;obtain ⟨H8,eH8,t8,hh3⟩:=updX (o:=.lst xv) nh3;rw [eH8];refine ⟨zLn3,λth nth=>?_⟩;obtain ⟨H9,eH9,t9,hth⟩:=updX (o:=.tup [.ref h1,.ref h2,.ref h3]) nth;rw [eH9];have hh1:=((t7.trans t8).trans t9) _ _ hh1;have hh2:=(t8.trans t9) _ _ hh2;have hh3:=t9 _ _ hh3;have s9:=((t6.trans t7).trans t8).trans t9;have s59:=s5I.trans s9;have on9:OnIn H9 b r q h1 rs us ps rbs ws M1 S1 β:=⟨o5.bs.keep s59,o5.st.copy hl1 s59 hh1,o5.so,o5.b24⟩;refine ⟨_,rfl,th,_,_,rfl,Gv hth,rfl,th,_,_,rfl,Gv hth,rfl,th,_,_,rfl,Gv hth,rfl,_,rfl,b,r,q,h1,h2,h3,rs,us,ps,rbs,ws,M1,S1,β,rws,rv,xs,xv,o,g,M2,S2,d2,rfl,⟨on9,rw5.copy s59 hh2,grs,by lia,by lia⟩,en,hd2,m02,⟨on9,rwz.copy s9 hh3,grx,by lia,by lia⟩,eo,λx HA sA hx=>?_⟩;have s5A:=s59.trans sA;have sIA:=s9.trans sA;have srv:∀ {HJ:Hp} {R:VK},Same HA HJ->(wy≠6\/rws=[])->(∀ H',Same HJ H'->R (.bl x) H')->spServes K [.ref b,.ref l1,.ref l2,.ref z,.int ((g:Nat):Int)] HJ R E0:=λ{HJ R} s c kk=>⟨b,r,q,l1,z,l2,rs,us,ps,rbs,ws,M1,S1,β,xs,xv,o,g,M2,S2,d2,rfl,⟨o5.keep (s5A.trans s),rwz.keep (sIA.trans s),grx,by lia,by lia⟩,no6 c,eo,st5.keep (s5A.trans s),hd2,m02,by lia,λx' H' s' hx'=>by
    have e:x'=x:=Cy.mpr (hx'.trans hx.symm);rw [e];exact kk H' s'⟩
   dsimp only [gName];refine aDw (λZ' H'=>Z'=[some (.ref sc),some (.ref wl),some (.ref b),some (.ref l1),some (.ref rl),some (.ref l2),some (.int (0+((i:Nat):Int))),some (.ref lf),some (.int ((g:Nat):Int)),some (.int ((wy:Nat):Int)),some (.ref z),some (.ref th),some (.bl x),some (.bl x)]/\Same HA H') ?_ (λN hN2=>?_)
   rotate_left
   ·have emp:∀ {Z:L2.St} {HJ:Hp} {t:TS} {D:L2.Ends},Z[4]?=some (some (.ref rl))->Same HA HJ->(rws=[]->∀ e,HJ e=none->t D Z (upd HJ e (.lst [])))->(rws≠[]->∀ e,HJ e=none->D.nx Z (upd HJ e (.lst [])))->tIfS (aF3 (tOp (λx y H Q=>∃ a b xs,x=.ref a/\y=.ref b/\SqL K H a xs/\SqL K H b []/\Q (.bl xs.isEmpty) H) (tVar 4) (tLst tNil))) t aDo D Z HJ:=λ{Z HJ t D} e4 s k1 k2=>by
     refine ⟨_,e4,zLn0,λe ne=>?_⟩;have se:=Gu (o:=.lst []) ne;refine ⟨rl,e,rv,rfl,rfl,Gw ((s.trans se) _ _ (s5A _ _ hrl)),Gw aB,_,rfl,ite2 (λc=>k1 ?_ e ne) (λc=>k2 ?_ e ne)⟩
     ·have:=rln
      rw [List.isEmpty_iff.mp c] at this;exact DC this.symm
     ·intro z
      rw [z] at rln;exact c (List.isEmpty_iff.mpr (DC rln))
    have fin:rws=[]->∀ {HJ:Hp} {R:VK},Same HA HJ->(∀ H',Same HA H'->R (.bl x) H')->spServes K [.ref b,.ref l1,.ref l2,.ref z,.int ((g:Nat):Int)] HJ R E0:=λz _ _ s kk=>srv s (.inr z) λH' s'=>kk H' (s.trans s')
    by_cases w6:wy=6
    ·have e6:(!decide (V.int ((wy:Nat):Int)=V.int 6))=false:=by rw [w6];rfl
     refine ⟨_,rfl,rfl,?_⟩;rw [e6];refine ⟨_,rfl,iteF ?_⟩;refine emp rfl (Same.refl _) (λz e ne=>?_) (λz e ne=>?_)
     ·exact ⟨_,rfl,_,rfl,_,rfl,_,rfl,_,rfl,fin z (Gu ne) λH' s'=>hN2 _ _ ⟨rfl,s'⟩⟩
     ·have x0:x=false:=by
       cases x with
       |false=>rfl
       |true=>
        have:=hx.mp rfl;rw [eo.odd' (od6 w6 z)] at this;exact this.elim
      rw [x0] at hN2 ⊢;exact hN2 _ _ ⟨rfl,Gu ne⟩
    ·have e6:(!decide (V.int ((wy:Nat):Int)=V.int 6))=true:=by rw [decide_eq_false λe=>w6 (by have:=V.int.inj e;lia)];rfl
     refine ⟨_,rfl,rfl,?_⟩;rw [e6];refine ⟨_,rfl,iteT ⟨_,rfl,_,rfl,_,rfl,_,rfl,_,rfl,srv (Same.refl _) (.inl w6) λH' s'=>emp rfl s' (λz e ne=>?_) (λz e ne=>?_)⟩⟩
     ·exact ⟨_,rfl,_,rfl,_,rfl,_,rfl,_,rfl,fin z (s'.trans (Gu ne)) λH' s'=>hN2 _ _ ⟨rfl,s'⟩⟩
     ·exact hN2 _ _ ⟨rfl,s'.trans (Gu ne)⟩
   intro Z' HB hh;obtain ⟨rfl,sB⟩:=hh;refine ⟨_,rfl,_,"bool",true,rfl,.bl_bool,_,rfl,iteF ⟨_,rfl,_,rfl,rfl,_,rfl,iteN (by rw [decide_eq_true rfl];rfl) ?_⟩⟩;refine ⟨_,rfl,_,rfl,_,rfl,_,rfl,zLn3,λu nu=>?_⟩;have s9u:=(sA.trans sB).trans (Gu (o:=.tup [.ref l1,.ref rl,.ref z]) nu);have s5u:=s59.trans s9u;exact ⟨th,u,h1,h2,h3,l1,rl,z,vs1,rv,xv,rfl,rfl,Gv (s9u _ _ hth),Gv aB,Gw (s9u _ _ hh1),Gw (s5u _ _ hl1),Gw (s9u _ _ hh2),Gw (s5u _ _ hrl),Gw (s9u _ _ hh3),Gw ((s9.trans s9u) _ _ rwz.hl),sf1,sf2,sf3,_,rfl,iteF (hN _ _ ⟨_,_,_,_,_,_,_,_,rfl,s5u⟩)⟩
  ·intro Z HE hh
   obtain ⟨v6,v7,v8,v9,v10,v11,v12,v13,rfl,sE⟩:=hh;exact k _
end
end K51
namespace L2
open PySem PySem.Spec PyProof.Rows
def AllN:Nat->(Gi->Prop)->Prop
 |0,p=>p []
 |n+1,p=>∀ a,AllN n λus=>p (a::us)
theorem allN:∀ {n:Nat} {p:Gi->Prop},AllN n p->∀ us:Gi,us.length=n->p us
 |0,_,h,[],_=>h
 |_+1,_,h,a::us,e=>allN (h a) us (Nat.succ.inj e)
def allS {x:Str}{xs:Gh}{p:Gi->Prop}(h:∀ a,AllN xs.length λus=>p (a::us)):AllN (x::xs).length p:=h
def allZ {p:Gi->Prop}(h:p []):AllN ([]:Gh).length p:=h
def noMem {α:Type}{p:α->Prop}:∀ x∈([]:List α),p x:=λ_ h=>nomatch h
section
variable {P:Aw}{w:World}{K:Ab}{mg:Gb}{base h:Heap}{CX:CXT}{k:Nat}{C f:Gj}{x q:Str}{st:Stmt}{ps:Gh}{sp:Sp}{oc kV doc pm cdv ct:Gk}{od an:Option Gj}{osl:Array (Option Gk)}
structure FnB (K:Ab)(x q:Str)(st:Stmt)(ps:Gh)(f:Gj):Prop where
 ex:∃ fd:Az,Fun K x q st f fd/\∀ us:Gi,us.length=ps.length->bindArgs fd ⟨us,[]⟩=pure (ps.zip us)
def fnB (l:K.lookup f=some ⟨oc,od,.func (CV x q (fE st) (dR st) (aH st) .none kV doc pm an cdv ct),osl⟩)(c:EB K cdv q=true)(k:CK K (.ref f)=true)
  (hb:AllN ps.length λus=>bindArgs (CV x q (fE st) (dR st) (aH st) .none kV doc pm an cdv ct) ⟨us,[]⟩=pure (ps.zip us)):FnB K x q st ps f:=
 ⟨_,aH0 (st:=st) l c k,allN hb⟩
def FnB.ok (D:FnB K x q st ps f):∃ fd:Az,Fun K x q st f fd/\Binds K fd ps []:=by
 obtain ⟨fd,F,b⟩:=D.ex;exact ⟨fd,F,.all b⟩
structure Dn (K:Ab)(x:Str)(st:Stmt)(ps:Gh):Prop where
 ex:∃ f:Gj,AJ K AD x=some (some (.ref f))/\FnB K x x st ps f
def dnB (a:AJ K AD x=some (some (.ref f)))(l:K.lookup f=some ⟨oc,od,.func (CV x x (fE st) (dR st) (aH st) .none kV doc pm an cdv ct),osl⟩)(c:EB K cdv x=true)(k:CK K (.ref f)=true)
  (hb:AllN ps.length λus=>bindArgs (CV x x (fE st) (dR st) (aH st) .none kV doc pm an cdv ct) ⟨us,[]⟩=pure (ps.zip us)):Dn K x st ps:=⟨f,a,fnB l c k hb⟩
def Dn.cal (D:Dn K x st ps)(X:K.In h)(G:h.Ns AD mg)(ok:∀ {f:Gj} {fd:Az},Fun K x x st f fd->FnOk P w K mg base CX k f fd ps sp):Cal P w K mg base CX k x ps sp:=by
 obtain ⟨f,a,D⟩:=D.ex;obtain ⟨fd,F,b⟩:=D.ok;exact ⟨f,fd,Bb X G a,F.kp,b,ok F⟩
structure MDn (K:Ab)(C:Gj)(m q:Str)(st:Stmt)(ps:Gh):Prop where
 ex:∃ f:Gj,Meth K C m f/\FnB K m q st ps f
def mdnB (a:BL K (.ref C) x=some (some (.ref f)))(i:PySem.W.isFn K (.ref f)=true)(l:K.lookup f=some ⟨oc,od,.func (CV x q (fE st) (dR st) (aH st) .none kV doc pm an cdv ct),osl⟩)(c:EB K cdv q=true)(k:CK K (.ref f)=true)
  (hb:AllN ps.length λus=>bindArgs (CV x q (fE st) (dR st) (aH st) .none kV doc pm an cdv ct) ⟨us,[]⟩=pure (ps.zip us)):MDn K C x q st ps:=⟨f,⟨a,i,k⟩,fnB l c k hb⟩
def MDn.cal (D:MDn K C x q st ps)(ok:∀ {f:Gj} {fd:Az},Fun K x q st f fd->FnOk P w K mg base CX k f fd ps sp):MCal P w K mg base CX k C x ps sp:=by
 obtain ⟨f,hm,D⟩:=D.ex;obtain ⟨fd,F,b⟩:=D.ok;exact ⟨f,fd,hm,b,ok F⟩
def TopT (K:Ab)(x:Str)(i j:Int)(a:Gj):Prop:=AJ K AD x=some (some (.ref a))/\∀ H:Hp,SqT K H a [.int i,.int j]
def aI7 {fa:Gj}(X:K.In h)(G:h.Ns AD mg)(hfa:mg x=some (.ref fa))(D:Dn K x st ["_law_script"])(ok:∀ {f:Gj} {fd:Az} {base:Heap},Fun K x x st f fd->FnOk P w K mg base CX k f fd ["_law_script"] sp) :
  ∃ fd:Az,(∀ (s:Gm) (v:Gk),BindsTo s fd ⟨[v],[]⟩ [("_law_script",v)])/\∀ base:Heap,K.In base->base.Ns AD mg->FnOk P w K mg base CX k fa fd ["_law_script"] sp:=by
 obtain ⟨f,a,fd,F,b⟩:=D.ex;have e:=hfa.symm.trans (Bb X G a);cases e;exact ⟨fd,λs v=>.of_eq (b [v] rfl),λbase _ _=>ok F⟩
def topS {a:Gj}{its:Array Gk}{n:Nat}{xs:Gq}(l:K.lookup a=some ⟨.type "tuple",od,.seq its n,osl⟩)(hl:its.size<=9/\Vals xs its.toList):∀ H:Hp,SqT K H a xs:=
 λ_=>.inr ⟨_,_,_,l,rfl,rfl,AR hl.1 (by decide),hl.2⟩
def ClsB (K:Ab)(nm:Str)(fs:Gh)(qI qO:Str)(sI sO:Stmt)(ps:Gh)(C:Gj):Prop:=
 AJ K AD nm=some (some (.ref C))/\(∀ f∈fs,NoAttr K C f)/\Cls K C/\PySem.W.makesIn K C=true/\CK K (.ref C)=true/\MDn K C "__init__" qI sI ps/\MDn K C "onto_at" qO sO ["self","bench","phials","place"]
def ErC (K:Ab)(cP c f:Gj)(nm q:Str)(st:Stmt)(fs:Gh):Prop:=
 AJ K AD nm=some (some (.ref c))/\(∃ (od:Option Gj) (cd:ClassData) (sl:Array (Option Gk)),K.lookup c=some ⟨.type "type",od,.cls cd,sl⟩/\AJ K cd.ns "__init__" = some (some (.ref f))) /\
  (∀ x∈fs,ExF K c cP f x)/\PySem.W.subIn K (.ref c) (.ref cP)=some true/\FnB K "__init__" q st ("self" :: fs) f
def exC {c f:Gj}{sl:Array (Option Gk)}{cd:ClassData}(l:K.lookup c=some ⟨.type "type",od,.cls cd,sl⟩)(n:AJ K cd.ns "__init__" = some (some (.ref f))) :
  ∃ (od:Option Gj) (cd:ClassData) (sl:Array (Option Gk)),K.lookup c=some ⟨.type "type",od,.cls cd,sl⟩/\AJ K cd.ns "__init__" = some (some (.ref f)):=⟨_,_,_,l,n⟩
def refOf:Gk->Option Gj
 |.ref a=>some a
 |_=>none
def aI8 {a:Gj}{es:Array DictEntry}{n:Nat}(lo:(a==Dx)=false)(l:K.lookup a=some ⟨.type "dict",none,.dict es n,#[]⟩)(k:PySem.W.KeysLit w.params es.toList)(r:∀ e∈es.toList,(refOf e.val).isSome=true) :
  KDict w K a λx=>(findBy EX es x).bind refOf:=by
 refine ⟨lo,es,n,l,k,λx=>?_⟩;cases e:findBy EX es x with
 |none=>rfl
 |some v=>
  unfold findBy at e;obtain ⟨d,hd,rfl⟩:=AZ.mp e;have:=r d (Array.mem_toList_iff.mpr (Array.mem_of_find?_eq_some hd));show some d.val=(refOf d.val).map AC;cases hv:d.val<;>rw [hv] at this<;>first|rfl|exact absurd this (by simp [refOf])
end
end L2
namespace K51
open PySem PySem.Spec PyProof.Rows L2 GM TM
inductive AllD (w:World)(K:Ab)(aN aO cP c0 c1 c2 c3 c4 c5 f0 f1 f2 f3 f4 f5 aF a0 a1 a2 a3 a4 CD CF CP CE CR:Gj)(h0 h1 h2 h3 h4:Int)(t0 t1 t2 t3 t4 tM tL:Tok)(sz:Nat):Prop
 |mk (d:Dn K "law" sLaw ["_law_script"])
  (d0:Dn K "common_divisor" sGcd ["one","other"])
  (d1:Dn K "_law_cell_at" aEc ["_law_script","_law_k"])
  (d2:Dn K "_law_mixed" wD ["_law_cell","_law_k"])
  (d3:Dn K "_law_lowest" pN ["_law_top","_law_bottom"])
  (d4:Dn K "_law_digit" wI ["_law_left","_law_many"])
  (d5:Dn K "_law_few" aD6 ["_law_number"])
  (d6:Dn K "_law_names" wC ["_law_left"])
  (d7:Dn K "_law_wares" jH ["_law_cell"])
  (d8:Dn K "_law_free_bench" aEb ["_law_script","_law_wares_here"])
  (d9:Dn K "_law_small" wJ ["_law_script","_law_wares_here"])
  (d10:Dn K "is_ware" pO ["thing"])
  (d11:Dn K "lowest_terms" sLow ["top","bottom"])
  (d12:Dn K "plus" aD5 ["one","other"])
  (d13:Dn K "whole" pF ["one"])
  (d14:Dn K "mixture" gN ["pairs"])
  (d15:Dn K "times" vZ ["one","other"])
  (d16:Dn K "together" jI ["one","other"])
  (d17:Dn K "less" aD7 ["one","other"])
  (d18:Dn K "minus" wF ["one","other"])
  (d19:Dn K "_law_add" sAdd ["_law_one","_law_other_here"])
  (d20:Dn K "_law_take" aD3 ["_law_one","_law_other_here"])
  (d21:Dn K "_law_by" sBy ["_law_one","_law_other_here"])
  (d22:Dn K "_law_under" vY ["_law_one","_law_other_here"])
  (d23:Dn K "pair_in" pI ["bench","names"])
  (d24:Dn K "is_whole_number" aD8 ["thing"])
  (d25:Dn K "is_amount" aD9 ["thing"])
  (d26:Dn K "is_of_kind" pJ ["bench","kind","thing"])
  (d27:Dn K "is_row" nH ["bench","row"])
  (d28:Dn K "deed_at" pR ["bench","row","place"])
  (d29:Dn K "with_phial" pE ["phials","phial","holds","names"])
  (d30:Dn K "with_more" jG ["bench","phials","phial","comes","names","place"])
  (d31:Dn K "_law_sum" sSum ["_law_held"])
  (d32:Dn K "_law_into" aEa ["_law_bench","_law_state","_law_phial","_law_more","_law_names_here"])
  (d33:Dn K "_law_poured" pH ["_law_bench","_law_state","_law_row_here"])
  (d34:Dn K "_law_after" wK ["_law_bench","_law_state","_law_row_here"])
  (d35:Dn K "done_at" pQ ["bench","phials","row","place"])
  (d36:Dn K "_law_free_row" lY ["_law_bench","_law_wares_here","_law_left"])
  (d37:Dn K "_law_row" sRow ["_law_bench","_law_wares_here","_law_script","_law_k"])
  (d38:Dn K "walked" pG ["bench","phials","rows"])
  (d39:Dn K "leaves_as" jO ["bench","phials","rows","goal","wanted"])
  (d40:Dn K "serves" aD4 ["bench","phials","rows","other","goal"])
  (d41:Dn K "_law_goes_on" pP ["_law_script","_law_bench","_law_wares_here","_law_state","_law_start","_law_last","_law_most"])
  (d42:Dn K "_law_end" sEnd ["_law_bench","_law_state","_law_rows"])
  (d43:Dn K "_law_serves" jJ ["_law_bench","_law_state","_law_due","_law_rows","_law_goal"])
  (d44:Dn K "_law_other" jK ["_law_bench","_law_wares_here","_law_rows","_law_way","_law_left"])
  (d45:Dn K "law" sLaw ["_law_script"])
  (z0:AJ K AD "isinstance" = some none)
  (z1:AJ K AD "int" = some none)
  (z2:AJ K AD "bool" = some none)
  (z3:AJ K AD "tuple" = some none)
  (z4:AJ K AD "str" = some none)
  (z5:AJ K AD "len" = some none)
  (z6:AJ K AD "range" = some none)
  (z7:AJ K AD "min" = some none)
  (z8:AJ K AD "max" = some none)
  (z9:AJ K AD "abs" = some none)
  (z10:AJ K AD "list" = some none)
  (z11:AJ K AD "sorted" = some none)
  (z12:AJ K AD "zip" = some none)
  (z13:AJ K AD "set" = some none)
  (z14:AJ K AD "all" = some none)
  (z15:AJ K AD "enumerate" = some none)
  (z16:AJ K AD "ValueError" = some none)
  (z17:AJ K AD "dict" = some none)
  (z18:AJ K AD "reversed" = some none)
  (tN:TopT K "NOUGHT" 0 1 aN)
  (tO:TopT K "ONE" 1 1 aO)
  (nP:AJ K AD "PhialError" = some (some (.ref cP)))
  (ct:CtK K cP)
  (bi:BaseI K cP)
  (yn0:ErC K cP c0 f0 "Dry" "Dry.__init__" sE0 ["place","phial"])
  (yn1:ErC K cP c1 f1 "Low" "Low.__init__" sE1 ["place","phial"])
  (yn2:ErC K cP c2 f2 "Wet" "Wet.__init__" sE2 ["place","phial"])
  (yn3:ErC K cP c3 f3 "Spilt" "Spilt.__init__" sE3 ["place","phial","over"])
  (yn4:ErC K cP c4 f4 "Touch" "Touch.__init__" sE4 ["place","phial","pair"])
  (yn5:ErC K cP c5 f5 "NoDeed" "NoDeed.__init__" sE5 ["place"])
  (nF:AJ K AD "FORMS" = some (some (.ref aF)))
  (lF:(aF==Dx)=false)
  (dF:K.lookup aF=some ⟨.type "dict",none,.dict #[⟨h0,.str "draw" t0,.ref a0⟩,⟨h1,.str "fill" t1,.ref a1⟩,⟨h2,.str "pour" t2,.ref a2⟩,⟨h3,.str "empty" t3,.ref a3⟩,⟨h4,.str "rinse" t4,.ref a4⟩] sz,#[]⟩)
  (kF:PySem.W.KeysLit w.params ([⟨h0,.str "draw" t0,.ref a0⟩,⟨h1,.str "fill" t1,.ref a1⟩,⟨h2,.str "pour" t2,.ref a2⟩,⟨h3,.str "empty" t3,.ref a3⟩,⟨h4,.str "rinse" t4,.ref a4⟩]:List DictEntry))
  (sF0:∀ H:Hp,SqT K H a0 [.str "phial",.str "ware",.str "amount"])
  (sF1:∀ H:Hp,SqT K H a1 [.str "phial",.str "ware",.str "level"])
  (sF2:∀ H:Hp,SqT K H a2 [.str "phial",.str "phial",.str "part"])
  (sF3:∀ H:Hp,SqT K H a3 [.str "phial"])
  (sF4:∀ H:Hp,SqT K H a4 [.str "phial"])
  (ynCD:ClsB K "Draw" ["phial","ware","amount"] "Draw.__init__" "Draw.onto_at" aCk wB ["self","phial","ware","amount"] CD)
  (ynCF:ClsB K "Fill" ["phial","ware","level"] "Fill.__init__" "Fill.onto_at" aCj wA ["self","phial","ware","level"] CF)
  (ynCP:ClsB K "Pour" ["one","other","part"] "Pour.__init__" "Pour.onto_at" aCi jM ["self","one","other","part"] CP)
  (ynCE:ClsB K "Empty" ["phial"] "Empty.__init__" "Empty.onto_at" wH pM ["self","phial"] CE)
  (ynCR:ClsB K "Rinse" ["phial"] "Rinse.__init__" "Rinse.onto_at" wG pK ["self","phial"] CR)
  (mM:AJ K AD "MOST_LETTERS" = some (some (.int 8 tM)))
  (mL:AJ K AD "LETTERS" = some (some (.str LET tL))):AllD w K aN aO cP c0 c1 c2 c3 c4 c5 f0 f1 f2 f3 f4 f5 aF a0 a1 a2 a3 a4 CD CF CP CE CR h0 h1 h2 h3 h4 t0 t1 t2 t3 t4 tM tL sz
def aHv {P:Aw}{w:World}{K:Ab}{mg:Gb}{base h:Heap}{f:Gj}{fd:Az}{aN aO cP c0 c1 c2 c3 c4 c5 f0 f1 f2 f3 f4 f5 aF a0 a1 a2 a3 a4 CD CF CP CE CR:Gj}{h0 h1 h2 h3 h4:Int}{t0 t1 t2 t3 t4 tM tL:Tok}{sz:Nat}(X:K.In h)(G:h.Ns AD mg)(A:AllD w K aN aO cP c0 c1 c2 c3 c4 c5 f0 f1 f2 f3 f4 f5 aF a0 a1 a2 a3 a4 CD CF CP CE CR h0 h1 h2 h3 h4 t0 t1 t2 t3 t4 tM tL sz)(F:Fun K "law" "law" sLaw f fd):FnOk P w K mg base CX0 12 f fd ["_law_script"] (spLaw K):=by
 obtain ⟨_,d0,d1,d2,d3,d4,d5,d6,d7,d8,d9,d10,d11,d12,d13,d14,d15,d16,d17,d18,d19,d20,d21,d22,d23,d24,d25,d26,d27,d28,d29,d30,d31,d32,d33,d34,d35,d36,d37,d38,d39,d40,d41,d42,d43,d44,d45,z0,z1,z2,z3,z4,z5,z6,z7,z8,z9,z10,z11,z12,z13,z14,z15,z16,z17,z18,tN,tO,nP,ct,bi,⟨n0,_,x0,s0,g0⟩,⟨n1,_,x1,s1,g1⟩,⟨n2,_,x2,s2,g2⟩,⟨n3,_,x3,s3,g3⟩,⟨n4,_,x4,s4,g4⟩,⟨n5,_,x5,s5,g5⟩,nF,lF,dF,kF,sF0,sF1,sF2,sF3,sF4,⟨nCD,aCD,lCD,kCD,pCD,iCD,oCD⟩,⟨nCF,aCF,lCF,kCF,pCF,iCF,oCF⟩,⟨nCP,aCP,lCP,kCP,pCP,iCP,oCP⟩,⟨nCE,aCE,lCE,kCE,pCE,iCE,oCE⟩,⟨nCR,aCR,lCR,kCR,pCR,iCR,oCR⟩,mM,mL⟩:=A;have T:Txt mg:=⟨AK X G z0,AK X G z1,AK X G z2,AK X G z3,AK X G z4,AK X G z5,AK X G z6,AK X G z7,AK X G z8,AK X G z9,AK X G z10,AK X G z11,AK X G z12,AK X G z13,AK X G z14,AK X G z15,AK X G z16,AK X G z17,AK X G z18⟩;have R:ErB K mg cP c0 c1 c2 c3 c4 c5 f0 f1 f2 f3 f4 f5:=⟨ct,bi,(Bb X G nP),⟨x0,s0⟩,⟨x1,s1⟩,⟨x2,s2⟩,⟨x3,s3⟩,⟨x4,s4⟩,⟨x5,s5⟩,(Bb X G n0),(Bb X G n1),(Bb X G n2),(Bb X G n3),(Bb X G n4),(Bb X G n5)⟩;obtain ⟨fd0,F0,b0⟩:=g0.ok;have e0:=aI3 (P:=P) (w:=w) (base:=base) F0 R;obtain ⟨fd1,F1,b1⟩:=g1.ok;have e1:=aI2 (P:=P) (w:=w) (base:=base) F1 R;obtain ⟨fd2,F2,b2⟩:=g2.ok;have e2:=aI1 (P:=P) (w:=w) (base:=base) F2 R;obtain ⟨fd3,F3,b3⟩:=g3.ok;have e3:=aI0 (P:=P) (w:=w) (base:=base) F3 R;obtain ⟨fd4,F4,b4⟩:=g4.ok;have e4:=aIz (P:=P) (w:=w) (base:=base) F4 R;obtain ⟨fd5,F5,b5⟩:=g5.ok;have e5:=aIy (P:=P) (w:=w) (base:=base) F5 R;have FK:FormsK w K mg aF _:=⟨aI8 lF dF kF (by simp [refOf]),(Bb X G nF),Bw.mpr ⟨⟨a0,rfl,sF0⟩,Bw.mpr ⟨⟨a1,rfl,sF1⟩,Bw.mpr ⟨⟨a2,rfl,sF2⟩,Bw.mpr ⟨⟨a3,rfl,sF3⟩,Bw.mpr ⟨⟨a4,rfl,sF4⟩,λ_ h=>nomatch h⟩⟩⟩⟩⟩⟩;have C:∀ {CX:CXT} {k:Nat} {x:Str} {st:Stmt} {ps:Gh} {sp:Sp},Dn K x st ps->(∀ {f:Gj} {fd:Az},Fun K x x st f fd->FnOk P w K mg base CX k f fd ps sp)->Cal P w K mg base CX k x ps sp:=λD ok=>D.cal X G ok;have k0:=C d0 aHg;have k1:=C d1 λF=>aE6 F T;have k2:=C d2 aBi;have k3:=C d3 xV;have k4:=C d4 aBo;have k5:=C d5 λF=>aHh F k3;have k6:=C d6 λF=>aBh F T k4;have k7:=C d7 λF=>aA9 F T k6 (k2.mono (by decide));have k8:=C d8 λF=>aE5 F T k1 k4 k3;have k9:=C d9 λF=>aBc F T (k1.mono (by decide)) k8 (k2.mono (by decide));have k10:=C d10 λF=>xX F T (Bb X G mM) (Bb X G mL);have k11:=C d11 λF=>aHe F k0;have k12:=C d12 λF=>aEy F (Bb X G tN.1) tN.2 k11;have k13:=C d13 λF=>xN F (Bb X G tN.1) tN.2 k12;have k14:=C d14 λF=>uF F T (Bb X G tN.1) tN.2 k12;have k15:=C d15 λF=>aBb F k11;have k16:=C d16 λF=>pY F T k14;have k17:=C d17 aE0;have k18:=C d18 λF=>aBj F (k17.mono (by decide)) k11;have k19:=C d19 λF=>aHj F k3;have k20:=C d20 λF=>aEw F k3;have k21:=C d21 λF=>aI4 F k3;have k22:=C d22 aBa;have k23:=C d23 xR;have k24:=C d24 λF=>aE1 F T;have k25:=C d25 λF=>aE2 F T k24 k0;have k26:=C d26 λF=>xT F T (Bb X G tN.1) tN.2 (Bb X G tO.1) tO.2 (k24.mono (by decide)) (k10.mono (by decide)) k25 (k17.mono (by decide));have k27:=C d27 λF=>aBk F T FK k26;obtain ⟨fICD,mICD,DICD⟩:=iCD.ex;obtain ⟨dICD,FICD,bICD⟩:=DICD.ok;have MCD:MkD P w K mg base CD "Draw" ["self","phial","ware","amount"] (kW CD "phial" "ware" "amount"):=⟨_,_,⟨kCD,mICD.at_,mICD.fn,pCD⟩,(aBn FICD ⟨lCD,aCD⟩).mono (by decide),bICD,(Bb X G nCD)⟩;obtain ⟨fICF,mICF,DICF⟩:=iCF.ex;obtain ⟨dICF,FICF,bICF⟩:=DICF.ok;have MCF:MkD P w K mg base CF "Fill" ["self","phial","ware","level"] (kW CF "phial" "ware" "level"):=⟨_,_,⟨kCF,mICF.at_,mICF.fn,pCF⟩,(aBm FICF ⟨lCF,aCF⟩).mono (by decide),bICF,(Bb X G nCF)⟩;obtain ⟨fICP,mICP,DICP⟩:=iCP.ex;obtain ⟨dICP,FICP,bICP⟩:=DICP.ok;have MCP:MkD P w K mg base CP "Pour" ["self","one","other","part"] (kW CP "one" "other" "part"):=⟨_,_,⟨kCP,mICP.at_,mICP.fn,pCP⟩,(aBl FICP ⟨lCP,aCP⟩).mono (by decide),bICP,(Bb X G nCP)⟩;obtain ⟨fICE,mICE,DICE⟩:=iCE.ex;obtain ⟨dICE,FICE,bICE⟩:=DICE.ok;have MCE:MkD P w K mg base CE "Empty" ["self","phial"] (pA CE "phial"):=⟨_,_,⟨kCE,mICE.at_,mICE.fn,pCE⟩,(xZ FICE ⟨lCE,aCE⟩).mono (by decide),bICE,(Bb X G nCE)⟩;obtain ⟨fICR,mICR,DICR⟩:=iCR.ex;obtain ⟨dICR,FICR,bICR⟩:=DICR.ok;have MCR:MkD P w K mg base CR "Rinse" ["self","phial"] (pA CR "phial"):=⟨_,_,⟨kCR,mICR.at_,mICR.fn,pCR⟩,(xY FICR ⟨lCR,aCR⟩).mono (by decide),bICR,(Bb X G nCR)⟩;have k28:=C d28 λF=>yB F R e5 b5 (k27.mono (by decide)) MCD MCF MCP MCE MCR;have k29:=C d29 λF=>aEv F T;have k30:=C d30 λF=>aEz F T R e3 b3 e4 b4 k16 (k13.mono (by decide)) (k17.mono (by decide)) (k18.mono (by decide)) (k23.mono (by decide)) (k29.mono (by decide));have k31:=C d31 λF=>aHc F k19;have k32:=C d32 λF=>aE3 F T (k19.mono (by decide)) k31 (k22.mono (by decide)) (k20.mono (by decide));have k33:=C d33 λF=>xQ F T (k21.mono (by decide)) (k20.mono (by decide)) k32;have k34:=C d34 λF=>aBp F T (k32.mono (by decide)) k33 (k31.mono (by decide)) (k22.mono (by decide)) (k20.mono (by decide));have hT:∀ c∈aCv CD CF CP CE CR c0 c1 c2 c3 c4,Cls K c.1/\MCal P w K mg base (CXg P w) 7 c.1 "onto_at" Non c.2:=Bw.mpr ⟨⟨lCD,oCD.cal λF=>aBg F ⟨lCD,aCD⟩ k30⟩,Bw.mpr ⟨⟨lCF,oCF.cal λF=>aBf F ⟨lCF,aCF⟩ R e1 b1 (k13.mono (by decide)) (k17.mono (by decide)) (k18.mono (by decide)) k30⟩,Bw.mpr ⟨⟨lCP,oCP.cal λF=>aBe F T ⟨lCP,aCP⟩ (Bb X G tO.1) tO.2 R e0 b0 (k15.mono (by decide)) (k18.mono (by decide)) (k14.mono (by decide)) (k29.mono (by decide)) k30⟩,Bw.mpr ⟨⟨lCE,oCE.cal λF=>xU F ⟨lCE,aCE⟩ (k29.mono (by decide))⟩,Bw.mpr ⟨⟨lCR,oCR.cal λF=>xS F ⟨lCR,aCR⟩ R e2 b2 (k29.mono (by decide))⟩,λ_ h=>nomatch h⟩⟩⟩⟩⟩;have k35:=C d35 λF=>yA F (k28.mono (by decide)) hT;have k36:=C d36 λF=>uG F T k4 k3;have k37:=C d37 λF=>aHd F T (k1.mono (by decide)) (k2.mono (by decide)) k36 k5 (k3.mono (by decide));have k38:=C d38 λF=>xO F T k35;have k39:=C d39 λF=>xW F T R k38;have k40:=C d40 λF=>aEx F (k38.mono (by decide)) k39;have k41:=C d41 λF=>aE4 F T k34 (k37.mono (by decide));have k42:=C d42 λF=>aHi F k34;have k43:=C d43 λF=>xP F k42;have k44:=C d44 λF=>aBd F T (k4.mono (by decide)) k36;exact aHf F T (k1.mono (by decide)) (k2.mono (by decide)) (k4.mono (by decide)) (k7.mono (by decide)) (k9.mono (by decide)) (k41.mono (by decide)) (k44.mono (by decide)) k40 (k43.mono (by decide))
def all_mk {P:Aw}{w:World}{K:Ab}{mg:Gb}{h:Heap}{fa:Gj}{aN aO cP c0 c1 c2 c3 c4 c5 f0 f1 f2 f3 f4 f5 aF a0 a1 a2 a3 a4 CD CF CP CE CR:Gj}{h0 h1 h2 h3 h4:Int}{t0 t1 t2 t3 t4 tM tL:Tok}{sz:Nat}(X:K.In h)(G:h.Ns AD mg)(hfa:mg "law" = some (.ref fa))(A:AllD w K aN aO cP c0 c1 c2 c3 c4 c5 f0 f1 f2 f3 f4 f5 aF a0 a1 a2 a3 a4 CD CF CP CE CR h0 h1 h2 h3 h4 t0 t1 t2 t3 t4 tM tL sz) :
  ∃ fd:Az,(∀ (s:Gm) (v:Gk),BindsTo s fd ⟨[v],[]⟩ [("_law_script",v)])/\∀ base:Heap,K.In base->base.Ns AD mg->FnOk P w K mg base CX0 12 fa fd ["_law_script"] (spLaw K):=
 aI7 X G hfa (by cases A;assumption) λF=>aHv X G A F
end K51
namespace PySem.W.Fast
theorem tw7543596845998332588:0=0:=rfl
theorem tw6948893995295362563:0=0:=rfl
theorem tw9566541538698759760:0=0:=rfl
theorem tw16951259473257089951:0=0:=rfl
theorem tw11519959026057689581:0=0:=rfl
theorem tw1180711989466004967:0=0:=rfl
theorem tw15343620333045452158:0=0:=rfl
theorem tw314559582026047179:0=0:=rfl
theorem tw5917780905450302194:0=0:=rfl
theorem tw16062226935228008863:0=0:=rfl
theorem tw12405909238287036709:0=0:=rfl
theorem tw5463468016613878765:0=0:=rfl
theorem tw8267387991464851574:0=0:=rfl
theorem tw11228681093722934565:0=0:=rfl
theorem tw11472844250176131156:0=0:=rfl
theorem tw17123166225861273435:0=0:=rfl
theorem tw11113036356215782894:0=0:=rfl
theorem tw3603749487902539655:0=0:=rfl
theorem tw3903465452467692604:0=0:=rfl
theorem tw14495834131236588403:0=0:=rfl
theorem tw7058752902378545371:0=0:=rfl
theorem tw11808931714562316634:0=0:=rfl
theorem tw5846821023256449780:0=0:=rfl
theorem tw16002855005266234748:0=0:=rfl
theorem tw11293178880300482865:0=0:=rfl
theorem tw10055279302234195620:0=0:=rfl
theorem tw8701684210062855676:0=0:=rfl
theorem tw626792345911914979:0=0:=rfl
theorem tw13024834348007147564:0=0:=rfl
theorem tw15974848372046938785:0=0:=rfl
theorem tw16357430609384991549:0=0:=rfl
theorem tw12565045473809200552:0=0:=rfl
theorem tw5342736107405222032:0=0:=rfl
theorem tw312183979673776802:0=0:=rfl
theorem tw3321500787102073597:0=0:=rfl
theorem tw7946871415666912472:0=0:=rfl
theorem tw1747225497684342112:0=0:=rfl
theorem tw14601908566348102535:0=0:=rfl
theorem tw12604216254632322284:0=0:=rfl
theorem tw204607704438030948:0=0:=rfl
theorem tw7872306782920117343:0=0:=rfl
theorem tw16910003077719574484:0=0:=rfl
theorem tw2816160976948672878:0=0:=rfl
theorem tw2166463831769325169:0=0:=rfl
theorem tw12191808311833459431:0=0:=rfl
theorem tw18026585529662776123:0=0:=rfl
theorem tw11032392714035729463:0=0:=rfl
theorem tw12817954805300355017:0=0:=rfl
theorem tw4236572890751374259:0=0:=rfl
theorem tw7636532076627784789:0=0:=rfl
theorem tw10956481681914268985:0=0:=rfl
theorem tw2882607902457496582:0=0:=rfl
theorem tw9237770258848460826:0=0:=rfl
theorem tw17233345077275176385:0=0:=rfl
theorem tw17071786491729412413:0=0:=rfl
theorem tw3672608047732708627:0=0:=rfl
theorem tw10575244459737799305:0=0:=rfl
theorem tw10443046468877486394:0=0:=rfl
theorem tw15162197031520267656:0=0:=rfl
theorem tw17684558051350109145:0=0:=rfl
theorem tw8483875415565122490:0=0:=rfl
theorem tw5494051094821509500:0=0:=rfl
theorem tw5859226384672443861:0=0:=rfl
theorem tw557530864805133450:0=0:=rfl
theorem tw11118305184389406190:0=0:=rfl
theorem tw13967201203107662694:0=0:=rfl
theorem tw4422481150351192165:0=0:=rfl
theorem tw6075384964238349345:0=0:=rfl
theorem tw14973060166300511747:0=0:=rfl
theorem tw12275993396842101328:0=0:=rfl
theorem tw13427798677257263266:0=0:=rfl
theorem tw1220985767428422405:0=0:=rfl
theorem tw12051301963305700427:0=0:=rfl
theorem tw12925406919752785391:0=0:=rfl
theorem tw17122656207802402122:0=0:=rfl
theorem tw761229547868980149:0=0:=rfl
theorem tw13385117435427427926:0=0:=rfl
theorem tw3783468402147635054:0=0:=rfl
theorem tw2512323391469506187:0=0:=rfl
theorem tw14155048219503389587:0=0:=rfl
theorem tw790035371837955354:0=0:=rfl
theorem tw7644680373344314148:0=0:=rfl
theorem tw5075433506642176576:0=0:=rfl
theorem tw9136685098103402586:0=0:=rfl
theorem tw11584512287782112948:0=0:=rfl
theorem tw16682333676058851569:0=0:=rfl
theorem tw5346298735464671962:0=0:=rfl
theorem tw10017640300943587314:0=0:=rfl
theorem tw13362177483005167131:0=0:=rfl
theorem tw2937553033351391556:0=0:=rfl
theorem tw223251502664543913:0=0:=rfl
theorem tw15080869364787412366:0=0:=rfl
theorem tw14390950507590820016:0=0:=rfl
theorem tw4185323325039203287:0=0:=rfl
theorem tw10977030300740249277:0=0:=rfl
theorem tw5873221831327055798:0=0:=rfl
theorem tw9974073247130952892:0=0:=rfl
theorem tw2576470067519769611:0=0:=rfl
theorem tw492915645636276814:0=0:=rfl
theorem tw8181593714588365751:0=0:=rfl
theorem tw1917253803590147442:0=0:=rfl
theorem tw23166001955685387:0=0:=rfl
theorem tw14456891973915714758:0=0:=rfl
theorem tw14426561963430028113:0=0:=rfl
theorem tw15833202717808567737:0=0:=rfl
theorem tw15138378442153173790:0=0:=rfl
theorem tw3151005968016383955:0=0:=rfl
theorem tw4990517001426397551:0=0:=rfl
theorem tw7743986615424216843:0=0:=rfl
theorem tw2769104032773884995:0=0:=rfl
theorem tw13469625647768517526:0=0:=rfl
theorem tw597331426688118153:0=0:=rfl
theorem tw2380186835335276247:0=0:=rfl
theorem tw9624384781824162490:0=0:=rfl
theorem tw16204421625524216686:0=0:=rfl
theorem tw9907273308419235902:0=0:=rfl
theorem tw5816213924120020284:0=0:=rfl
theorem tw5797704807053536230:0=0:=rfl
theorem tw11417420266443752526:0=0:=rfl
theorem tw9707322707181883411:0=0:=rfl
theorem tw15898516575348533856:0=0:=rfl
theorem tw5892746499137434146:0=0:=rfl
theorem tw17470626048776382431:0=0:=rfl
theorem tw18039069420285968961:0=0:=rfl
theorem tw6527034069292495151:0=0:=rfl
theorem tw3170573408094691520:0=0:=rfl
theorem tw4384272964490744388:0=0:=rfl
theorem tw2453851114205194510:0=0:=rfl
theorem tw17647535471261109303:0=0:=rfl
theorem tw17902686481330534866:0=0:=rfl
theorem tw12973386884830538767:0=0:=rfl
theorem tw14583512538000124536:0=0:=rfl
theorem tw5506807437916370351:0=0:=rfl
theorem tw14832541938638117259:0=0:=rfl
theorem tw4064581121425473151:0=0:=rfl
theorem tw438051074438705283:0=0:=rfl
theorem tw3150813977525784035:0=0:=rfl
theorem tw14528204964418128424:0=0:=rfl
theorem tw10554940467165656250:0=0:=rfl
theorem tw14673340408011653155:0=0:=rfl
theorem tw11442017620684735462:0=0:=rfl
theorem tw7231977979610607115:0=0:=rfl
theorem tw18268708023474274921:0=0:=rfl
theorem tw1850752066413264474:0=0:=rfl
theorem tw5508920475887827758:0=0:=rfl
theorem tw5566333734048555066:0=0:=rfl
theorem tw8058685061312208529:0=0:=rfl
theorem tw12741056886498105544:0=0:=rfl
theorem tw17882972967603159130:0=0:=rfl
theorem tw17878018426664751651:0=0:=rfl
theorem tw7592319490554156952:0=0:=rfl
theorem tw13617223511972056991:0=0:=rfl
theorem tw1638759238885306198:0=0:=rfl
theorem tw7365073898664539033:0=0:=rfl
theorem tw3138850800144457396:0=0:=rfl
theorem tw11433971955180226196:0=0:=rfl
theorem tw3701875445452258421:0=0:=rfl
theorem tw9409510279176707304:0=0:=rfl
theorem tw4894048109583900047:0=0:=rfl
theorem tw9193611997919880435:0=0:=rfl
theorem tw17915384120888902821:0=0:=rfl
theorem tw2423556832305611485:0=0:=rfl
theorem tw13069073639855125105:0=0:=rfl
theorem tw6071138002171606945:0=0:=rfl
theorem tw9146360542954979938:0=0:=rfl
theorem tw7278603697323381318:0=0:=rfl
theorem tw8901002884453546892:0=0:=rfl
theorem tw7952966979892854800:0=0:=rfl
theorem tw16691107711742505568:0=0:=rfl
theorem tw16034101630210817565:0=0:=rfl
theorem tw15157388080026253987:0=0:=rfl
theorem tw13170461835576826606:0=0:=rfl
theorem tw2416594865391322395:0=0:=rfl
theorem tw6508103348799303386:0=0:=rfl
theorem tw7587655382171819879:0=0:=rfl
theorem tw1766076474452898160:0=0:=rfl
theorem tw6068514585548883346:0=0:=rfl
theorem tw6271587082487986837:0=0:=rfl
theorem tw17492923754322014929:0=0:=rfl
theorem tw12849044910192046799:0=0:=rfl
theorem tw15626025901496998606:0=0:=rfl
theorem tw3859991117026517887:0=0:=rfl
theorem tw16651768240878877027:0=0:=rfl
theorem tw12480382247626782150:0=0:=rfl
theorem tw3064839432076055064:0=0:=rfl
theorem tw14297222823369606634:0=0:=rfl
theorem tw2803131840164263329:0=0:=rfl
theorem tw9455094167499854373:0=0:=rfl
theorem tw1984606171144142038:0=0:=rfl
theorem tw11711466630038946313:0=0:=rfl
end PySem.W.Fast
open PySem PySem.W PyProof.Rows
set_option maxRecDepth 100000 in
set_option maxHeartbeats 0 in
theorem PySem.Challenge.cw_phialhouse_k51_serves_as_well_holds : PySem.Challenge.rw_phialhouse_k51_serves_as_well.Holds := by
  w_on;o_law;k_head;(case hw=>w_witness2)
  k_fill
  refine L2.walk_ofK (l:=PySem.Challenge.rw_phialhouse_k51_serves_as_well) (n:=63) (k:=12) (x:="_law_script") (CX:=L2.CX0) (sp:=λK=>K51.spLaw K) rfl (by decide) rfl ⟨rfl,by decide,by decide,rfl⟩ (λw h Y=>PySem.W.kIn_of Y) ?F (λ_ _ a ns hl _ hS=>⟨a,ns,rfl,hS,hl,λ_=>rfl⟩) λ_ _ _ _ z=>z
  case F=>
    intro w mg fa h KX G hmg
    refine' K51.all_mk KX G hmg ?A
    case A=>
      constructor
      repeat' first
        |refine And.intro ?_ ?_
        |refine Bw.mpr ⟨?_,?_⟩
        |exact L2.noMem
        |(refine' L2.dnB ?a ?l ?c ?k ?b;(case a=>k_is);(case l=>k_is);(case c=>k_is);(case k=>k_is);(case b=>repeat' first|refine L2.allS λ_=>?_|exact L2.allZ rfl))
        |(refine' L2.fnB ?l ?c ?k ?b;(case l=>k_is);(case c=>k_is);(case k=>k_is);(case b=>repeat' first|refine L2.allS λ_=>?_|exact L2.allZ rfl))
        |(refine' L2.mdnB ?a ?i ?l ?c ?k ?b;(case a=>k_is);(case i=>k_is);(case l=>k_is);(case c=>k_is);(case k=>k_is);(case b=>repeat' first|refine L2.allS λ_=>?_|exact L2.allZ rfl))
        |(refine' L2.topS ?l ?h;(case l=>k_is);(case h=>exact ⟨by decide,by repeat' first|exact .nil|refine .cons ⟨_,rfl⟩ ?_⟩))
        |(refine' L2.exC ?l ?n;(case l=>k_is);(case n=>k_is))
        |refine' L2.ExF.mk ?_ ?_ ?_|refine' L2.ExI.mk ?_ ?_ ?_ ?_|refine' L2.ExK.mk ?_ ?_ ?_ ?_ ?_ ?_|refine' L2.CtK.mk ?_ ?_ ?_|refine' L2.BaseI.mk ?_ ?_ ?_|refine' L2.Cls.mk ?_ ?_ ?_ ?_
        |k_is|kit_is|(show PySem.W.isClsIn _ _=true;k_is)|(show BL _ _ _=_;k_is)|exact ⟨_,_,rfl,rfl⟩|exact Dp|kernel_rfl|rfl|decide|decide +kernel
