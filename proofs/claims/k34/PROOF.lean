import PyProof.Rows.All
import Wide.All
import OpenK.AllK
import Wide.FinOn
import Lean
import PyProof.EqAt
import PyProof.EqKinds
import PyProof.TupleCall
import PySem.Challenge.RW_phialhouse_k34_pours
set_option Elab.async false
set_option linter.all false
set_option maxRecDepth 100000
set_option maxHeartbeats 4000000
open PySem.W renaming Frag→Aa, kitOne→Ao, nsIn→Ar, mg_none_of→AO, findIn→Bb, mg_of→BL, fnOf→Cm, emptyDict→Ct, keepIn→Cw, instObj→Dg, codeIn→DR, callWith_K→Eh
open PySem renaming wpAny_bind→Ab, wpAny_pure→Af, mainGlobals→An, sizeLine→Aw, Program→Ax, Spec→AA, Builtin→AF, starEach→AS, wpAny_newObj_type→AY, wpAny_loadPart_at→Bd, NameKind→Be, FuncData→Bf, wpAny_call_entry→Bq, wpAny_holding→Br, wpAny_callSpecial?_slot→Bs, boot_len→Bz, wpAny_field→BH, compareOp→BI, wpAny_mono→BV, SetTable→BW, bootBuiltins→Cb, PassesOwn→Ce, codeAny_mono→Ck, wpAny_setField_rec→Cq, codeAny_builtin→Cr, codeAny_call_builtin→Cv, mem_of_lookup→CO, wpAny_seqItems→CS, wpAny_rule→Di, wpAny_Call_Name_kw→Dk, wpAny_truthy_bool→Ds, wpAny_attempt→Dz, sysModules→DG, codeAny→DJ, wpAny_typeOf→DV, wpAny_passesOwn→DW, wpAny_setState_of→Ea, binaryOp→Eb, attributeBase→Ed, wpAny_askSetting→Em, wpAny_setEntries_of→Es, wpAny_of_eq→Et, wpAny_call→Ew, wpAny_pyIter_tuple→EB, scanBound→EC, plainId_quiet→ED, plainObj_wpAny_Assign_Attribute→EN, foldedSetIterable→EO, fits_of_scanBound→ER, Builtin→EU, wpAny_setField→EW, reprText→EX, wpAny_isInstance→Fc, wpAny_standAt→Fg, wpAny_execs_nil→Fo, letOwnedTupleGo→Fp, codeAny_of_tree→Fq
open PySem.Heap renaming get?_push_of_some→Ac, get?_push_size→Ah, lt_size→Aq, get?_update_other→AW, size_push→BE, get?_update_self→BK, SameBut→Ci, get?_push_ne→Ey
open List renaming getElem?_eq_some_iff→Ad, getElem?_eq_getElem→Ae, length_map→Ag, map_cons→Ai, size_toArray→Aj, mem_cons_of_mem→Al, getElem?_map→As, mem_cons_self→Au, mem_of_getElem?→Ay, length_append→AB, mem_cons→AD, mem_singleton→AE, length_cons→AG, sum_cons→AI, mem_map→AJ, mem_append_right→AK, range→Bc, mem_append→Bi, map_append→Bo, getElem?_eq_none→Bp, take_length→Bw, nodup_cons→BJ, length_eq_zero_iff→BQ, getElem?_set_ne→BR, zip_cons_cons→BX, getElem?_set_self→BY, append_nil→BZ, mem_map_of_mem→Cd, map_map→Cg, length_set→Cn, getElem?_append_right→Cu, pairwise_map→Cy, all_eq_true→CG, replicate→CL, take_add_one→CN, filterMap_cons→CQ, lookup_cons→CV, pairwise_iff_getElem→Da, mem_range→Dd, getElem?_append_left→De, find?_cons→Dl, lookup→Dr, getElem_mem→Dw, filter_append→DC, forall_mem_cons→DU, nodup_nil→DY, not_mem_nil→Ee, length_take→Ef, map_congr_left→Eg, of_mem_zip→En, getElem?_replicate→Eo, filter_cons_of_pos→Ep, filter_cons_of_neg→Er, take_of_length_le→Ex, length_singleton→EF, le_antisymm→EJ, getElem?_of_mem→EV, sum_append→EZ, foldl_cons→Fb, getD_eq_getElem?_getD→Ff, mem_or_eq_of_mem_set→Fk, getElem?_zip_eq_some→Fm
open Nat renaming le_refl→Ak, ne_of_lt→Av, lt_of_lt_of_le→AQ, le_trans→AX, zero_le→BM, lt_succ_of_lt→Cj, lt_succ_self→Co, lt_irrefl→CB, lt_trans→CC, le_succ→Dh, ne_of_gt→Dq, lt_of_le_of_lt→DF
open Bool renaming false_ne_true→Az, and_eq_true→Cc, false_eq_true→CY, eq_iff_iff→DI
open PySem.Value renaming ref→AC, none→BP, type→CT, builtin→CU, isStrOf_shape→Dm, isStrOf→ES
open Option.some renaming inj→AH
open Sum renaming inr→AL
open Ne renaming symm→AM
open Int renaming eq_ofNat_of_zero_le→AN, mul_right_comm→AR, mul_nonneg→BA, eq_of_mul_eq_mul_right→BC, ediv_le_self→BD, mul_assoc→BF, zero_mul→BN, mul_comm→BO, mul_pos→Cf, toNat_natCast→Cz, mul_le_mul_of_nonneg_left→CI, le_refl→Du, ediv_nonneg→DM, le_trans→Ej, mul_le_mul_of_nonneg_right→EH, mul_lt_mul_right→EY, mul_eq_zero→Fd, lt_of_le_of_lt→Fn
open PySem.PassesOwn renaming never→AU
open PySem.NameKind renaming free→AV, cell→CF
open PySem.F renaming type_list_append→AZ, slot_list_append→Ba, plainAttrs_list→Bg, called_set→Ca, kt_called_dict→CJ, slot_dict_get→DB, slot_tuple_iterator_next→DZ, attr_ValueError→Ei, typeOf_object_class→ET, args_tuple_add_2→Fh, plainAttrs_dict→Fs, entry_tuple_add→Ft, slot_tuple_getattribute→Fu
open Option renaming some→Bh, map_eq_some_iff→Bv, map_some→Dj
open PySem.SeqAt renaming EqAt→Bj
open PySem.Builtin.SmallTypes renaming nextOf→Bk, ownedTupleIsFree→CA, ownedTupleHandOut→Fe
open Decidable renaming byContradiction→Bl
open Array renaming getElem?_toList→Bm, length_toList→BB, getElem?_eq_some_iff→Cp, perm_iff_toList_perm→DQ, toArray_toList→EM, getElem?_eq_getElem→Fj
open PyProof.Rows renaming boot_isinstance→Bu, slot_tuple_getitem→BG, wpS_bind→BU, wpS_pure→CW, callWith_type1→Dp, StrsAre→EE
open False renaming elim→CD
open PySem.Around renaming under_plainId→CH
open PySem.Str renaming ofString→CM
open ForInStep renaming yield→CZ
open True renaming intro→Dx
open PySem.Calls renaming callWith_builtin→Dy, spliced_cons→El, evalArgs_plain→EL, call_function_entry→Fi
open PySem.Code renaming quiet_builtin→DD
open PySem.Builtin.Slice renaming slicePlaces→DE, sliceAdjust→EI
open PySem.Builtin.Tuple renaming tupleExact→DH
open PySem.SetTable renaming grown→DO, below→DP
open PySem.Obj renaming mapSeq→DS, mapFields→DT, data_mapFields→Eu, isFreed_of_fields→EG
open LawfulBEq renaming eq_of_beq→Ek
open PySem.Heap.SameBut renaming update→Ez
open PySem.Builtin.List renaming listExtendWith→EA
open PyProof.Rows.F renaming plain_set_update_loop→Fv
namespace L2
open PySem PySem.Spec PyProof.Rows
theorem zLn0:0<=Aw:=by decide
theorem zLn1:1<=Aw:=by decide
theorem zLn2:2<=Aw:=by decide
theorem zLn3:3<=Aw:=by decide
theorem zLn4:4<=Aw:=by decide
theorem zLn5:5<=Aw:=by decide
theorem zLn6:6<=Aw:=by decide
theorem zLn9:9<=Aw:=by decide
abbrev Key:=Sum Int Str
def sV:Key->Value->Bool
 | .inl k,v=>Value.isInt k v
 | .inr x,v=>ES x v
def keyH (w:World):Key->Int
 | .inl k=>hashInt k
 | .inr x=>hashStr w x
theorem bX : ∀ {k:Key} {v:Value},sV k v=true->(∃ i t,k=Sum.inl i/\v=Value.int i t)\/(∃ x t,k=AL x/\v=Value.str x t)
 | .inl i,v,h=>by
  obtain ⟨t,e⟩:=Value.isInt_shape (k:=i) (v:=v) h;exact .inl ⟨i,t,rfl,e⟩
 | .inr x,v,h=>by
  obtain ⟨t,e⟩:=Dm (x:=x) (v:=v) h;exact .inr ⟨x,t,rfl,e⟩
theorem wM (i:Int)(t:Tok):sV (.inl i) (.int i t)=true:=by simp [sV,Value.isInt]
theorem wL (x:Str)(t:Tok):sV (.inr x) (.str x t)=true:=by simp [sV,ES]
theorem aFs (a b:Int):decide ((Sum.inl a:Key)=Sum.inl b)=(a == b):=by
 by_cases e:a=b
 ·subst e; simp
 ·have h : ¬ (Sum.inl a:Key)=Sum.inl b:=fun q=>e (Sum.inl.inj q)
  rw [decide_eq_false h];exact (beq_eq_false_iff_ne.mpr e).symm
theorem aFp (a b:Str):decide ((AL a:Key)=AL b)=decide (a=b):=by
 by_cases e:a=b
 ·subst e; simp
 ·have h : ¬ (AL a:Key)=AL b:=fun q=>e (AL.inj q)
  rw [decide_eq_false h,decide_eq_false e]
theorem aFr (a:Int)(b:Str):decide ((Sum.inl a:Key)=AL b)=false:=decide_eq_false (fun q=>nomatch q)
theorem aFq (a:Str)(b:Int):decide ((AL a:Key)=Sum.inl b)=false:=decide_eq_false (fun q=>nomatch q)
def bF (prog:Ax)(w:World):PySem.KeyKind prog w Key where
 is:=sV
 hash:=keyH w
 inj:=fun v a b ha hb=>by
  rcases bX ha with ⟨i,t,rfl,rfl⟩ | ⟨x,t,rfl,rfl⟩
  ·rcases bX hb with ⟨j,u,rfl,e⟩ | ⟨y,u,rfl,e⟩
   ·injection e with e1 _; rw [e1]
   ·exact nomatch e
  ·rcases bX hb with ⟨j,u,rfl,e⟩ | ⟨y,u,rfl,e⟩
   ·exact nomatch e
   ·injection e with e1 _; rw [e1]
 byValue:=fun k v h=>by
  rcases bX h with ⟨i,t,rfl,rfl⟩ | ⟨x,t,rfl,rfl⟩ <;> rfl
 pyHash:=fun hv h=>by
  rcases bX hv with ⟨i,t,rfl,rfl⟩ | ⟨x,t,rfl,rfl⟩
  ·exact wpAny_pyHash_int h
  ·exact wpAny_pyHash_str h
 eqBool:=fun hu hv h=>by
  rcases bX hu with ⟨i,t,rfl,rfl⟩ | ⟨x,t,rfl,rfl⟩
  ·rcases bX hv with ⟨j,u,rfl,rfl⟩ | ⟨y,u,rfl,rfl⟩
   ·rw [aFs] at h; exact wpAny_eqBool_int h
   ·rw [aFr] at h; exact Bj.int_str i t y u _ _ _ _ h
  ·rcases bX hv with ⟨j,u,rfl,rfl⟩ | ⟨y,u,rfl,rfl⟩
   ·rw [aFq] at h; exact Bj.str_int x t j u _ _ _ _ h
   ·rw [aFp] at h; exact wpAny_eqBool_str h
 «strs» := fun k x t v h=>by
  rcases bX h with ⟨i,u,rfl,e⟩ | ⟨y,u,rfl,e⟩
  ·exact nomatch e
  ·injection e with e1 _
   subst e1;cases v <;> rfl
theorem oT (prog:Ax)(w:World)(i:Int)(t:Tok):(bF prog w).is (.inl i) (.int i t)=true:=wM i t
theorem oS (prog:Ax)(w:World)(x:Str)(t:Tok):(bF prog w).is (.inr x) (.str x t)=true:=wL x t
inductive V where
 | non | bl (b:Bool) | int (i:Int) | str (x:Str) | byt (b:Array UInt8) | flt (b:UInt64) | ref (a:Addr) | ty (n:String)
 deriving DecidableEq
def RelV:V->Value->Prop
 | .non,u=>u=BP
 | .bl b,u=>u=Value.bool b
 | .int i,u=>∃ t,u=Value.int i t
 | .str x,u=>∃ t,u=Value.str x t
 | .byt b,u=>∃ t,u=Value.bytes b t
 | .flt b,u=>∃ t,u=Value.float b t
 | .ref a,u=>u=AC a
 | .ty n,u=>u=CT n
abbrev Vals:List V->List Value->Prop:=Paired RelV
theorem Vals.length (r:Vals xs us):xs.length=us.length:=Paired.length r
theorem Vals.get : ∀ {xs:List V} {us:List Value} {i:Nat} {x:V},Vals xs us->xs[i]?=some x->∃ u,us[i]?=some u/\RelV x u
 | _,_,_,_,.nil,e=>by simp at e
 | _,_,0,_,.cons r _,e=>by simp at e; subst e; exact ⟨_,rfl,r⟩
 | _,_,i+1,x,.cons _ t,e=>by
  obtain ⟨u,h1,h2⟩:=Vals.get (i:=i) (x:=x) t (by simpa using e);exact ⟨u,by simpa using h1,h2⟩
theorem Vals.set (r:RelV x u) : ∀ {xs:List V} {us:List Value} (i:Nat),Vals xs us->Vals (xs.set i x) (us.set i u)
 | _,_,_,.nil=>.nil
 | _,_,0,.cons _ t=>.cons r t
 | _,_,i+1,.cons q t=>.cons q (Vals.set r i t)
theorem Vals.append : ∀ {xs ys:List V} {us ws:List Value},Vals xs us->Vals ys ws->Vals (xs ++ ys) (us ++ ws)
 | _,_,_,_,.nil,s=>s
 | _,_,_,_,.cons r t,s=>.cons r (Vals.append t s)
theorem Vals.take : ∀ {xs:List V} {us:List Value} (n:Nat),Vals xs us->Vals (xs.take n) (us.take n)
 | _,_,0,_=>.nil
 | _,_,_+1,.nil=>.nil
 | _,_,n+1,.cons r t=>.cons r (Vals.take n t)
theorem Vals.drop : ∀ {xs:List V} {us:List Value} (n:Nat),Vals xs us->Vals (xs.drop n) (us.drop n)
 | _,_,0,r=>r
 | _,_,_+1,.nil=>.nil
 | _,_,n+1,.cons _ t=>Vals.drop n t
def RelO:Option V->Option Value->Prop
 | some v,some u=>RelV v u
 | none,none=>True
 | _,_=>False
def KV {κ:Type}:List (κ × V)->List (κ × Value)->Prop:=Paired fun (p:κ × V) (q:κ × Value)=>p.1=q.1/\RelV p.2 q.2
def kV:Key->V
 | .inl i=>.int i
 | .inr x=>.str x
inductive HO where
 | lst (xs:List V)
 | tup (xs:List V)
 | dK (kvs:List (Key × V)) | dT (kvs:List (List Key × V))
 | set (S:Int->Bool) (n:Nat)
 | ins (C dx:Addr) (fs:List (Str × V))
 | own (x:Addr)
 | xd (fs:List (Str × V))
 | met (f x:Addr)
 | rng (lo hi:Int)
 | frz (o:Obj) (u:HO)
 | tbl (ps:Array Value)
 | ext (φ:Heap->Prop)
abbrev Hp:=Addr->Option HO
def upd (H:Hp)(a:Addr)(o:HO):Hp:=fun b=>if b=a then some o else H b
theorem aB :upd H a o a=some o:=by unfold upd; rw [if_pos rfl]
theorem aI (h:b ≠ a):upd H a o b=H b:=by unfold upd; rw [if_neg h]
theorem aG5 {H:Hp}{a b:Addr}{o u:HO}(h:H a=some o)(h':H b=some u)(d:o ≠ u):a ≠ b:=by
 intro e; subst e; rw [h] at h'; exact d (AH h')
theorem bE {H:Hp}{a b:Addr}{o:HO}(h:H a=some o)(h':H b=none):a ≠ b:=by
 intro e; subst e; rw [h] at h'; cases h'
def NoD (h:Heap)(a:Addr):Prop:=∃ o,h.get? a=some o/\o.dict=none
theorem NoD.at (n:NoD h a)(e:h.get? a=some o):o.dict=none:=by
 obtain ⟨u,e1,e2⟩:=n;rw [e] at e1;cases e1;exact e2
section
variable (P:Ax)(w:World)
def ObjOk (H:Hp)(h:Heap)(a:Addr):HO->Prop
 | .lst xs=>xs.length<=Aw/\∃ (its:List Value) (n:Nat),Vals xs its/\h.get? a=some { cls:=.type "list",data:=.seq its.toArray n }
 | .tup xs=>(xs.length<=Aw/\NoD h a)/\∃ its:List Value,Vals xs its/\IsTup h a its.toArray
 | .dK kvs=>kvs.length<=Aw/\(a == DG)=false/\∃ vs,KV kvs vs/\h.DictOf (bF P w) a vs
 | .dT kvs=>kvs.length<=Aw/\(a == DG)=false/\∃ xs:List (List Key × Addr × Value),
   Paired (fun (p:List Key × V) (q:List Key × Addr × Value)=>p.1=q.1/\H q.2.1=some (.tup (p.1.map kV))/\RelV p.2 q.2.2) kvs xs /\
   ∃ o es ep,h.get? a=some o/\o.ExactDict/\o.data = .dict es ep/\es.toList=xs.map (entryOfKey (tupleKind (bF P w)))/\(xs.map (·.1)).Nodup
 | .set S n=>h.SetOf (intKind P w) a S n
 | .ins C dx fs=>H dx=some (.own a)/\fs.length<=1000/\dx ≠ a/\h.get? a=some (Dg C dx) /\
   ∃ mA,h.Ns1 dx mA/\(∀ f,RelO (fs.lookup f) (mA f))/\PySem.Within mA (fs.map (·.1))
 | .own _=>∃ o,h.get? a=some o
 | .xd fs=>∃ mA,h.Ns1 a mA/\∀ f,RelO (fs.lookup f) (mA f)
 | .rng lo hi=>∃ t u v,h.get? a=some { cls:=.type "range",data:=.fields #[.int lo t,.int hi u,.int 1 v] }
 | .frz o u=>h.get? a=some o/\ObjOk H h a u
 | .tbl ps=>h.get? a=some { cls:=.none,data:=.fields ps }
 | .met f x=>h.get? a=some (PySem.W.methodObj (.ref f) (.ref x))
 | .ext φ=>φ h/\(∃ o,h.get? a=some o)/\∀ h1 h2:Heap,φ h1->(∀ o,h1.get? a=some o->h2.get? a=some o)->φ h2
def HOk (H:Hp)(h:Heap):Prop:=∀ a o,H a=some o->ObjOk P w H h a o
end
section
variable {P:Ax}{w:World}{H H':Hp}{h h':Heap}{a:Addr}{o:HO}
theorem ObjOk.lt (x:ObjOk P w H h a o):a < h.objs.size:=by
 cases o with
 | lst xs=>obtain ⟨_,_,_,_,e⟩:=x; exact Aq e
 | tup xs=>obtain ⟨_,_,_,p⟩:=x; exact p.lt
 | dK kvs=>obtain ⟨_,_,_,_,o,_,_,e,_⟩:=x; exact Aq e
 | dT kvs=>obtain ⟨_,_,_,_,o,_,_,e,_⟩:=x; exact Aq e
 | set S n=>obtain ⟨o,_,_,_,e,_⟩:=x; exact Aq e
 | ins C dx fs=>obtain ⟨_,_,_,e,_⟩:=x; exact Aq e
 | own y=>obtain ⟨_,e⟩:=x; exact Aq e
 | xd fs=>obtain ⟨_,⟨_,_,_,e,_⟩,_⟩:=x; exact Aq e
 | rng lo hi=>obtain ⟨_,_,_,e⟩:=x; exact Aq e
 | frz ob u=>obtain ⟨e,_⟩:=x; exact Aq e
 | tbl ps=>exact Aq (show h.get? a=some _ from x)
 | met f y=>exact Aq (show h.get? a=some _ from x)
 | ext φ=>obtain ⟨_,⟨_,e⟩,_⟩:=x; exact Aq e
theorem Paired.mapP {α β:Type}{F G:α->β->Prop} : ∀ {l₁:List α} {l₂:List β},Paired F l₁ l₂->(∀ a b,F a b->G a b)->Paired G l₁ l₂
 | _,_,.nil,_=>.nil
 | _,_,.cons r t,f=>.cons (f _ _ r) (Paired.mapP t f)
theorem ObjOk.stay (x:ObjOk P w H h a o)(k : ∀ b u,(b=a\/H b=some (.own a))->h.get? b=some u->h'.get? b=some u)
  (ho : ∀ b,H b=some (.own a)->H' b=some (.own a)) (ht : ∀ b xs,H b=some (.tup xs)->H' b=some (.tup xs)):ObjOk P w H' h' a o:=by
 induction o with
 | lst xs=>obtain ⟨z,its,n,r,e⟩:=x; exact ⟨z,its,n,r,k _ _ (.inl rfl) e⟩
 | tup xs=>obtain ⟨⟨z,o1,e1,d1⟩,its,r,ob,e,c⟩:=x; exact ⟨⟨z,o1,k _ _ (.inl rfl) e1,d1⟩,its,r,ob,k _ _ (.inl rfl) e,c⟩
 | dK kvs=>obtain ⟨z,y,vs,r,ob,es,ep,e,c⟩:=x; exact ⟨z,y,vs,r,ob,es,ep,k _ _ (.inl rfl) e,c⟩
 | dT kvs =>
  obtain ⟨z,y,xs,r,ob,es,ep,e,c⟩:=x;exact ⟨z,y,xs,Paired.mapP r fun p q z=>⟨z.1,ht _ _ z.2.1,z.2.2⟩,ob,es,ep,k _ _ (.inl rfl) e,c⟩
 | set S n=>obtain ⟨ob,es,ep,t,e,c⟩:=x; exact ⟨ob,es,ep,t,k _ _ (.inl rfl) e,c⟩
 | ins C dx fs =>
  obtain ⟨d,z,ne,e,mA,⟨od,es,ep,e2,c⟩,r⟩:=x;exact ⟨ho _ d,z,ne,k _ _ (.inl rfl) e,mA,⟨od,es,ep,k _ _ (.inr d) e2,c⟩,r⟩
 | own y=>obtain ⟨ob,e⟩:=x; exact ⟨ob,k _ _ (.inl rfl) e⟩
 | xd fs=>obtain ⟨mA,⟨od,es,ep,e,c⟩,r⟩:=x; exact ⟨mA,⟨od,es,ep,k _ _ (.inl rfl) e,c⟩,r⟩
 | rng lo hi=>obtain ⟨t,u,v,e⟩:=x; exact ⟨t,u,v,k _ _ (.inl rfl) e⟩
 | frz ob u ih=>obtain ⟨e,q⟩:=x; exact ⟨k _ _ (.inl rfl) e,ih q⟩
 | tbl ps =>
  have e:h.get? a=some { cls:=.none,data:=.fields ps }:=x;show h'.get? a=some { cls:=.none,data:=.fields ps };exact k a _ (.inl rfl) e
 | met f y =>
  have e:h.get? a=some (PySem.W.methodObj (.ref f) (.ref y)):=x;show h'.get? a=some (PySem.W.methodObj (.ref f) (.ref y));exact k a _ (.inl rfl) e
 | ext φ=>obtain ⟨p,⟨o,e⟩,st⟩:=x; exact ⟨st _ _ p fun o q=>k _ _ (.inl rfl) q,⟨o,k _ _ (.inl rfl) e⟩,st⟩
theorem HOk.lt (x:HOk P w H h)(e:H a=some o):a < h.objs.size:=(x a o e).lt
theorem HOk.fresh (x:HOk P w H h)(e:h.objs.size<=a):H a=none:=by
 cases q:H a with
 | none=>rfl
 | some u=>exact absurd (AQ (x.lt q) e) (CB _)
theorem HOk.kept (x:HOk P w H h)(k : ∀ b u,h.get? b=some u->h'.get? b=some u):HOk P w H h':=fun a o e =>
 (x a o e).stay (fun b u _ q=>k b u q) (fun _ q=>q) fun _ _ q=>q
theorem HOk.laid (x:HOk P w H h)(k : ∀ b u,h.get? b=some u->h'.get? b=some u)(hp:h.objs.size<=a)(new:ObjOk P w (upd H a o) h' a o):HOk P w (upd H a o) h':=fun b u e=>by
 have hn:=x.fresh hp
 by_cases hb:b=a
 ·subst hb; rw [aB] at e; cases e; exact new
 ·rw [aI hb] at e
  exact (x b u e).stay (fun c v _ q=>k c v q) (fun c q=>by rw [aI (bE q hn)]; exact q) fun c xs q=>by rw [aI (bE q hn)]; exact q
end
def Rd (H:Hp)(a:Addr)(u:HO):Prop:=H a=some u\/∃ o,H a=some (.frz o u)
theorem Rd.ok {w:World}(r:Rd H a u)(x:HOk P w H h):ObjOk P w H h a u:=by
 rcases r with r | ⟨o,r⟩
 ·exact x a u r
 ·obtain ⟨_,q⟩:=x a _ r
  exact q
def Mut:Option HO->Prop
 | some (.lst _)=>True
 | some (.dK _)=>True
 | some (.dT _)=>True
 | some (.set _ _)=>True
 | some (.ins _ _ _)=>True
 | some (.ext _)=>True
 | _=>False
section
variable {P:Ax}{w:World}{H:Hp}{h h':Heap}{x e:Addr}{o':HO}
theorem HOk.write (ok:HOk P w H h)(mu:Mut (H x))(he:e=x\/H e=some (.own x))(k : ∀ b u,b ≠ e->h.get? b=some u->h'.get? b=some u)(heo : ∃ u,h'.get? e=some u)
  (new:ObjOk P w (upd H x o') h' x o'):HOk P w (upd H x o') h':=fun b u q=>by
 have nown : ∀ c y,H c=some (.own y)->c ≠ x:=fun c y r z=>by subst z; rw [r] at mu; exact mu
 have ntup : ∀ c xs,H c=some (.tup xs)->c ≠ x:=fun c xs r z=>by subst z; rw [r] at mu; exact mu
 by_cases hb:b=x
 ·subst hb; rw [aB] at q; cases q; exact new
 ·rw [aI hb] at q
  by_cases hbe:b=e
  ·have q':H b=some (.own x):=by
    rcases he with z | z
    ·exact absurd (hbe.trans z) hb
    ·rw [hbe]; exact z
   rw [q] at q'; cases q';obtain ⟨v,hv⟩:=heo;exact ⟨v,by rw [hbe]; exact hv⟩
  ·refine (ok b u q).stay (fun c v hc r=>k c v ?_ r) (fun c r=>by rw [aI (nown c b r)]; exact r) fun c xs r=>by rw [aI (ntup c xs r)]; exact r
   rcases hc with rfl | hc
   ·exact hbe
   ·rintro rfl
    rcases he with z | z
    ·exact nown c b hc z
    ·rw [hc] at z; cases z; exact hb rfl
end
structure Un (fs ex:List Addr)(H H':Hp)(h h':Heap):Prop where
 keep : ∀ b o,h.get? b=some o->H b=none->b ∉ fs->b ∉ ex->h'.get? b=some o
 slot : ∀ b o,h.get? b=some o->H b=none->b ∈ fs->b ∉ ex->∃ sl,h'.get? b=some { o with slots:=sl }
 free : ∀ b o,h.get? b=some o->H b=none->b ∉ ex->H' b=none
 there : ∀ b o,h.get? b=some o->b ∉ ex->∃ o',h'.get? b=some o'
 tups : ∀ b xs,H b=some (.tup xs)->H' b=some (.tup xs)
 frzs : ∀ b o u,H b=some (.frz o u)->H' b=some (.frz o u)
 tbls : ∀ b ps,H b=some (.tbl ps)->∃ more,H' b=some (.tbl (ps ++ more))
section
variable {fs fs' ex ex':List Addr}{H H1 H2:Hp}{h h1 h2 h':Heap}{a x e:Addr}{o:HO}
theorem Un.any (u:Un fs ex H H1 h h1)(q:h.get? b=some ob)(n:H b=none)(hx:b ∉ ex) : ∃ sl,h1.get? b=some { ob with slots:=sl }:=by
 by_cases hb:b ∈ fs
 ·exact u.slot b ob q n hb hx
 ·exact ⟨ob.slots,u.keep b ob q n hb hx⟩
theorem Un.kept (k : ∀ b u,h.get? b=some u->h'.get? b=some u):Un fs ex H H h h' :=
 ⟨fun b ob q _ _ _=>k b ob q,fun b ob q _ _ _=>⟨ob.slots,k b ob q⟩,fun _ _ _ n _=>n,fun b ob q _=>⟨ob,k b ob q⟩,fun _ _ q=>q,fun _ _ _ q=>q,fun _ ps q=>⟨#[],by rw [q]; simp⟩⟩
theorem Un.refl:Un fs ex H H h h:=Un.kept fun _ _ q=>q
theorem Un.laid (k : ∀ b u,h.get? b=some u->h'.get? b=some u)(hp:h.objs.size<=a)(hn:H a=none):Un fs ex H (upd H a o) h h' where
 keep:=fun b u q _ _ _=>k b u q
 slot:=fun b u q _ _ _=>⟨u.slots,k b u q⟩
 free:=fun b u q n _=>by rw [aI (Av (AQ (Aq q) hp))]; exact n
 there:=fun b u q _=>⟨u,k b u q⟩
 tups:=fun b xs q=>by rw [aI (bE q hn)]; exact q
 frzs:=fun b u xs q=>by rw [aI (bE q hn)]; exact q
 tbls:=fun b ps q=>⟨#[],by rw [aI (bE q hn),q]; simp⟩
theorem Un.write (mu:Mut (H x))(he:e=x\/H e=some (.own x))(k : ∀ b u,b ≠ e->h.get? b=some u->h'.get? b=some u)(heo : ∃ u,h'.get? e=some u):Un fs ex H (upd H x o) h h':=by
 have hx : ∀ b,H b=none->b ≠ x:=fun b n z=>by subst z; rw [n] at mu; exact mu
 have hb : ∀ b,H b=none->b ≠ e:=fun b n z=>by
  subst z
  rcases he with r | r
  ·exact hx b n r
  ·rw [n] at r; cases r
 have hm : ∀ b u,H b=some u->¬ Mut (some u)->b ≠ x:=fun b u q nm z=>by subst z; rw [q] at mu; exact nm mu
 refine ⟨fun b u q n _ _=>k b u (hb b n) q,fun b u q n _ _=>⟨u.slots,k b u (hb b n) q⟩,fun b u q n _=>by rw [aI (hx b n)]; exact n,fun b u q _ => ?_,
  fun b xs q=>by rw [aI (hm b _ q fun z=>z)]; exact q,fun b u xs q=>by rw [aI (hm b _ q fun z=>z)]; exact q,fun b ps q=>⟨#[],by rw [aI (hm b _ q fun z=>z),q]; simp⟩⟩
 by_cases hbe:b=e
 ·subst hbe; exact heo
 ·exact ⟨u,k b u hbe q⟩
end
def trk (h:Heap)(H:Hp):List Addr:=(Bc h.objs.size).filter fun a=>(H a).isSome
def hidT (h:Heap)(H:Hp):Heap:=PySem.W.hideAll h (trk h H)
theorem wV (h:Heap)(H:Hp):(hidT h H).objs.size=h.objs.size:=PySem.W.hideAll_size _ _
theorem aAg (e:h.get? b=some o)(n:H b=none):(hidT h H).get? b=some o :=
 PySem.W.hideAll_get _ e fun hm=>by
  have q:(H b).isSome=true:=(List.mem_filter.mp hm).2;rw [n] at q; simp at q
theorem aDf (e:(hidT h H).get? b=some o):h.get? b=some o/\H b=none:=by
 have e':h.get? b=some o:=PySem.W.of_hideAll (trk h H) e;refine ⟨e',?_⟩;cases q:H b with
 | none=>rfl
 | some x =>
  have hm:b ∈ trk h H:=List.mem_filter.mpr ⟨Dd.mpr (Aq e'),by simp [q]⟩;have z:(hidT h H).get? b=none:=PySem.W.hideAll_none (trk h H) hm;rw [z] at e; cases e
def aDx (g h:Heap)(L:Addr):List (Addr × Obj):=(Bc h.objs.size).filterMap fun a=>if a=L\/(g.get? a).isSome=true then none else (h.get? a).map fun o=>(a,o)
def rest (g h:Heap)(L d:Addr):List (Addr × Obj):=(aDx g h L).filter fun p=>decide (p.1 ≠ d)
structure Mod (K:Aa)(mg:Str->Option Value)(base:Heap):Prop where
 kin:K.In base
 glob:base.Ns An mg
 blt : ∃ mb,base.Ns builtinsNs mb/\∀ x:Str,x ≠ "__name__" -> mb x=Cb x
 nolimit:base.NoLimit
structure Cx where
 prog:Ax
 w:World
 K:Aa
 mg:Str->Option Value
 base:Heap
 A:Around
 N:List Str
 s₀:Shared
 H₀:Hp
 env:Env
 outer:List Env
 stack:List Env
 ex:List Addr
 fn:Str->Bool
 calm:Bool
 pn:List (Addr × Obj)
 xe:Value->Shared->Prop
def frs (l:List Env):List Addr:=l.filterMap (·.frame)
abbrev Cx.fs (X:Cx):List Addr:=frs X.outer
def Vis (sc:Scope)(x:Str):Prop:=sc.names.lookup x=some .local\/sc.names.lookup x=some .cell\/sc.names.lookup x=some .free
def Loc (sc:Scope)(x:Str):Prop:=sc.names.lookup x=some .local\/sc.names.lookup x=some .cell
def Look (env:Env)(h:Heap)(m:Str->Option Value)(x:Str)(u:Value):Prop :=
 (env.kindOf x=some .local/\m x=some u)\/((env.kindOf x=some .cell\/env.kindOf x=some .free)/\∃ c,env.cells.lookup x=some c/\h.IsCell c (some u))
structure Cx.Ok (X:Cx):Prop where
 mod:Mod X.K X.mg X.base
 kind:X.env.scope.kind = .function
 glob:X.env.globals=An
 blt:X.env.builtins=builtinsNs
 above:X.s₀.heap.objs.size<=X.env.locals
 inj : ∀ x y c,X.env.cells.lookup x=some c->X.env.cells.lookup y=some c->x=y
 has : ∀ x,(X.env.kindOf x=some .cell\/X.env.kindOf x=some .free)->∃ c,X.env.cells.lookup x=some c
 cab : ∀ x c,X.fn x=true->X.env.cells.lookup x=some c->X.s₀.heap.objs.size<=c
 hd:X.calm=true->X.A.handled=none
 frames:X.A.frames=some X.stack
 stk:X.stack=X.outer\/(X.stack=X.env :: X.outer/\X.env.frame=some X.env.locals)
 exf : ∀ b ∈ X.ex,b ≠ X.env.locals/\∀ x c,X.env.cells.lookup x=some c->c ≠ b
 bs : ∀ b o,X.base.get? b=some o->X.s₀.heap.get? b=some o/\X.H₀ b=none
 bsz:X.base.objs.size<=X.s₀.heap.objs.size
 noex : ∀ b o,X.base.get? b=some o->b ∉ X.ex
 exfs : ∀ b ∈ X.ex,b ∉ X.fs
 funs:X.s₀.heap.FunFrames X.base X.outer
 frf : ∀ b ∈ X.fs,X.H₀ b=none
structure Inv (X:Cx)(pins:List (Addr × Obj))(σ:List (Option V))(H:Hp)(s:Shared):Prop where
 ok:X.Ok
 os:s.os=X.s₀.os
 bare:AllBare s.gens
 base:Un X.fs X.ex X.H₀ H X.s₀.heap s.heap
 loc : ∃ m,s.heap.Ns X.env.locals m/\∀ (i:Nat) (x:Str) (v:V),X.N[i]?=some x->σ[i]?=some (some v)->Vis X.env.scope x->∃ u,RelV v u/\Look X.env s.heap m x u
 cell : ∀ x c,X.env.cells.lookup x=some c->∃ v,s.heap.IsCell c v
 free:H X.env.locals=none
 freeC : ∀ x c,X.env.cells.lookup x=some c->H c=none
 pin : ∀ p ∈ X.pn ++ pins,s.heap.get? p.1=some p.2/\H p.1=none/\p.1 ≠ X.env.locals/\p.1 ∉ X.fs/\∀ v,p.2.data ≠ .cell v
 hok:HOk X.prog X.w H s.heap
 len:σ.length=X.N.length
section
variable {X:Cx}{pins:List (Addr × Obj)}{σ:List (Option V)}{H H':Hp}{s:Shared}{h':Heap}
theorem Cx.Ok.nofr (ok:X.Ok)(e:X.base.get? b=some o):b ∉ X.fs:=fun hb=>by
 have:=(ok.funs.mem hb).1;rw [e] at this; cases this
theorem Inv.bs (I:Inv X pins σ H s) : ∀ b o,X.base.get? b=some o->s.heap.get? b=some o/\H b=none:=fun b o e =>
 ⟨I.base.keep b o (I.ok.bs b o e).1 (I.ok.bs b o e).2 (I.ok.nofr e) (I.ok.noex b o e),I.base.free b o (I.ok.bs b o e).1 (I.ok.bs b o e).2 (I.ok.noex b o e)⟩
theorem Inv.bk (I:Inv X pins σ H s) : ∀ b o,X.base.get? b=some o->s.heap.get? b=some o:=fun b o e=>(I.bs b o e).1
theorem Inv.mod (I:Inv X pins σ H s):Mod X.K X.mg X.base:=I.ok.mod
theorem Inv.kIn (I:Inv X pins σ H s):X.K.In s.heap:=I.ok.mod.kin.keeps I.bk
theorem Inv.fr (I:Inv X pins σ H s) : ∃ m,Fr X.base X.env.locals s.heap m :=
 let ⟨m,hn,_⟩:=I.loc
 ⟨m,hn,I.bk,AX I.ok.bsz I.ok.above⟩
theorem Inv.lt (I:Inv X pins σ H s):X.env.locals < s.heap.objs.size:=let ⟨_,hn,_⟩:=I.loc; hn.lt
theorem Inv.sz (I:Inv X pins σ H s):X.s₀.heap.objs.size<=s.heap.objs.size:=AX I.ok.above (Nat.le_of_lt I.lt)
theorem Inv.nofs (I:Inv X pins σ H s)(h:s.heap.objs.size<=a):a ∉ X.fs:=fun hb=>by
 obtain ⟨_,o,ho,_⟩:=I.ok.funs.mem hb;exact absurd (AQ (Aq ho) (AX I.sz h)) (CB _)
theorem Inv.cne (I:Inv X pins σ H s) : ∀ x c,X.env.cells.lookup x=some c->c ≠ X.env.locals:=fun x c e z=>by
 obtain ⟨v,o,ho,hd⟩:=I.cell x c e;obtain ⟨m,⟨o',es,ep,ho',hd',_⟩,_⟩:=I.loc;rw [z,ho'] at ho; cases ho; rw [hd'] at hd; cases hd
theorem Inv.funs (I:Inv X pins σ H s):s.heap.FunFrames X.base X.outer:=by
 have all : ∀ (l:List Env),(∀ b ∈ frs l,b ∈ X.fs)->X.s₀.heap.FunFrames X.base l->s.heap.FunFrames X.base l:=by
  intro l
  induction l with
  | nil=>intro _ _; trivial
  | cons env r ih =>
   intro hs hl;obtain ⟨hk,⟨L,o,hf,hn,ho,hd⟩,hr⟩:=hl;have hL:L ∈ X.fs:=hs L (by unfold frs; rw [CQ,hf]; exact Au);obtain ⟨sl,e⟩:=I.base.slot L o ho (I.ok.frf L hL) hL fun z=>I.ok.exfs L z hL;exact ⟨hk,⟨L,_,hf,hn,e,hd⟩,ih (fun b hb=>hs b (by unfold frs; rw [CQ,hf]; exact Al _ hb)) hr⟩
 exact all X.outer (fun _ hb=>hb) I.ok.funs
theorem Inv.stack (I:Inv X pins σ H s):s.heap.FunFrames X.base X.stack:=by
 rcases I.ok.stk with e | ⟨e,hf⟩
 ·rw [e]; exact I.funs
 ·rw [e]
  obtain ⟨m,hn,_⟩:=I.loc;refine .cons (by rw [I.ok.kind]; decide) hf hn ?_ I.funs;exact Heap.get?_none_of_le (AX I.ok.bsz I.ok.above)
theorem Inv.stkSub (I:Inv X pins σ H s) : ∀ b ∈ frs X.stack,b ∈ X.env.locals :: X.fs:=fun b hb=>by
 rcases I.ok.stk with e | ⟨e,hf⟩
 ·rw [e] at hb; exact Al _ hb
 ·rw [e] at hb
  unfold frs at hb;rw [CQ,hf] at hb;exact hb
theorem Inv.stkFree (I:Inv X pins σ H s) : ∀ b ∈ frs X.stack,H b=none:=fun b hb=>by
 rcases AD.mp (I.stkSub b hb) with e | hb
 ·rw [e]; exact I.free
 ·obtain ⟨_,o,ho,_⟩:=I.ok.funs.mem hb
  exact I.base.free b o ho (I.ok.frf b hb) fun z=>I.ok.exfs b z hb
theorem Inv.step {g':Array GenState}{t':Nat}{d':Drawn}{ch:List Addr}(I:Inv X pins σ H s)
  (hch : ∀ b ∈ ch,(b ∈ X.ex\/X.s₀.heap.objs.size<=b)/\b ≠ X.env.locals/\(∀ x c,X.env.cells.lookup x=some c->c ≠ b)/\∀ p ∈ X.pn ++ pins,p.1 ≠ b)
  (keep : ∀ b o,b ≠ X.env.locals->b ∉ X.fs->b ∉ ch->s.heap.get? b=some o->H b=none->h'.get? b=some o)
  (slot : ∀ b o,b ≠ X.env.locals->b ∈ X.fs->b ∉ ch->s.heap.get? b=some o->H b=none->∃ sl,h'.get? b=some { o with slots:=sl }) (free : ∀ b o,b ∉ ch->s.heap.get? b=some o->H b=none->H' b=none)
  (there : ∀ b o,b ∉ ch->s.heap.get? b=some o->∃ o',h'.get? b=some o')
  (tups : ∀ b xs,H b=some (.tup xs)->H' b=some (.tup xs)) (frzs : ∀ b o u,H b=some (.frz o u)->H' b=some (.frz o u)) (tbls : ∀ b ps,H b=some (.tbl ps)->∃ more,H' b=some (.tbl (ps ++ more)))
  (ns : ∀ m,s.heap.Ns X.env.locals m->h'.Ns X.env.locals m) (hok:HOk X.prog X.w H' h') (hg:AllBare g') :
  Inv X pins σ H' { s with heap:=h',gens:=g',drawn:=d',toks:=t' }:=by
 have neL : ∀ b o,X.s₀.heap.get? b=some o->b ≠ X.env.locals:=fun b o e=>Av (AQ (Aq e) I.ok.above);have neC : ∀ b o,X.s₀.heap.get? b=some o->b ∉ X.ex->b ∉ ch:=fun b o e hx hb=>by
  rcases (hch b hb).1 with z | z
  ·exact hx z
  ·exact absurd (AQ (Aq e) z) (CB _)
 have cellK : ∀ x c,X.env.cells.lookup x=some c->∀ v,s.heap.IsCell c v->h'.IsCell c v:=fun x c e v ⟨o,ho,hd⟩=>by
  have nch:c ∉ ch:=fun z=>(hch c z).2.2.1 x c e rfl
  by_cases hc:c ∈ X.fs
  ·obtain ⟨sl,q⟩:=slot c o (I.cne x c e) hc nch ho (I.freeC x c e)
   exact ⟨_,q,hd⟩
  ·exact ⟨o,keep c o (I.cne x c e) hc nch ho (I.freeC x c e),hd⟩
 refine ⟨I.ok,I.os,hg,⟨fun b o e n hb hx => ?_,fun b o e n hb hx => ?_,fun b o e n hx => ?_,fun b o e hx => ?_,fun b xs e=>tups b xs (I.base.tups b xs e),fun b o xs e=>frzs b o xs (I.base.frzs b o xs e),fun b ps e => ?_⟩,?_,fun x c e => ?_,?_,fun x c e => ?_,fun p hp => ?_,hok,I.len⟩
 ·exact keep b o (neL b o e) hb (neC b o e hx) (I.base.keep b o e n hb hx) (I.base.free b o e n hx)
 ·obtain ⟨sl,e1⟩:=I.base.slot b o e n hb hx
  obtain ⟨sl',e2⟩:=slot b _ (neL b o e) hb (neC b o e hx) e1 (I.base.free b o e n hx);exact ⟨sl',e2⟩
 ·obtain ⟨o',e1⟩:=I.base.there b o e hx
  exact free b o' (neC b o e hx) e1 (I.base.free b o e n hx)
 ·obtain ⟨o',e1⟩:=I.base.there b o e hx
  exact there b o' (neC b o e hx) e1
 ·obtain ⟨m1,e1⟩:=I.base.tbls b ps e
  obtain ⟨m2,e2⟩:=tbls b _ e1;exact ⟨m1 ++ m2,by rw [e2,Array.append_assoc]⟩
 ·obtain ⟨m,hn,hl⟩:=I.loc
  refine ⟨m,ns m hn,fun i x v e1 e2 e3 => ?_⟩;obtain ⟨u,r,l⟩:=hl i x v e1 e2 e3;refine ⟨u,r,?_⟩
  rcases l with l | ⟨k,c,e,z⟩
  ·exact .inl l
  ·exact .inr ⟨k,c,e,cellK x c e _ z⟩
 ·obtain ⟨v,z⟩:=I.cell x c e
  exact ⟨v,cellK x c e v z⟩
 ·obtain ⟨m,⟨o,_,_,ho,_⟩,_⟩:=I.loc
  exact free _ o (fun z=>(hch _ z).2.1 rfl) ho I.free
 ·obtain ⟨v,o,ho,hd⟩:=I.cell x c e
  exact free c o (fun z=>(hch c z).2.2.1 x c e rfl) ho (I.freeC x c e)
 ·obtain ⟨e,n,ne,nf,d⟩:=I.pin p hp
  have nch:p.1 ∉ ch:=fun z=>(hch p.1 z).2.2.2 p hp rfl;exact ⟨keep p.1 p.2 ne nf nch e n,free p.1 p.2 nch e n,ne,nf,d⟩
theorem Inv.un {t':Nat}(I:Inv X pins σ H s)(u:Un X.fs [] H H' s.heap h')(hok:HOk X.prog X.w H' h'):Inv X pins σ H' { s with heap:=h',toks:=t' }:=by
 obtain ⟨m,⟨o,es,ep,ho,r⟩,_⟩:=id I.loc;obtain ⟨sl,hL⟩:=u.any ho I.free (by simp);exact I.step (g':=s.gens) (d':=s.drawn) (ch:=[]) (fun _ z=>nomatch z) (fun b o _ hb _ e n=>u.keep b o e n hb (by simp)) (fun b o _ hb _ e n=>u.slot b o e n hb (by simp)) (fun b o _ e n=>u.free b o e n (by simp)) (fun b o _ e=>u.there b o e (by simp)) u.tups u.frzs u.tbls (fun m' hm=>by
  obtain ⟨o',es',ep',ho',r'⟩:=hm;rw [ho] at ho'; cases ho';exact ⟨_,es',ep',hL,r'⟩) hok I.bare
theorem Inv.call {g':Array GenState}{t':Nat}{d':Drawn}{ch:List Addr}(I:Inv X pins σ H s)(u:Un (frs X.stack) ch H H' s.heap h')(hok:HOk X.prog X.w H' h')(hg:AllBare g')
  (hch : ∀ b ∈ ch,(b ∈ X.ex\/X.s₀.heap.objs.size<=b)/\b ≠ X.env.locals/\(∀ x c,X.env.cells.lookup x=some c->c ≠ b)/\∀ p ∈ X.pn ++ pins,p.1 ≠ b) :
  Inv X pins σ H' { s with heap:=h',gens:=g',drawn:=d',toks:=t' }:=by
 obtain ⟨m,⟨o,es,ep,ho,r⟩,_⟩:=id I.loc;obtain ⟨sl,hL⟩:=u.any ho I.free fun z=>(hch _ z).2.1 rfl;exact I.step (ch:=ch) hch (fun b o hL hb hc e n=>u.keep b o e n (fun z=>(AD.mp (I.stkSub b z)).elim hL hb) hc) (fun b o _ _ hc e n=>u.any e n hc) (fun b o hc e n=>u.free b o e n hc) (fun b o hc e=>u.there b o e hc) u.tups u.frzs u.tbls (fun m' hm=>by
  obtain ⟨o',es',ep',ho',r'⟩:=hm;rw [ho] at ho'; cases ho';exact ⟨_,es',ep',hL,r'⟩) hok hg
theorem Inv.turned {t':Nat}{it:Addr}(I:Inv X pins σ H s)(k : ∀ b o,b ≠ it->s.heap.get? b=some o->h'.get? b=some o)(hn:H it=none)(hL:it ≠ X.env.locals)
  (h1:it ∈ X.ex\/X.s₀.heap.objs.size<=it) (h2 : ∀ x c,X.env.cells.lookup x=some c->c ≠ it) (h3 : ∀ p ∈ X.pn ++ pins,p.1 ≠ it):Inv X pins σ H { s with heap:=h',toks:=t' }:=by
 have nit : ∀ b u,H b=some u->b ≠ it:=fun b u e z=>by rw [z,hn] at e; cases e
 refine I.step (g':=s.gens) (d':=s.drawn) (ch:=[it]) (fun b hb => ?_) (fun b o _ _ hc e _=>k b o (fun z=>hc (by simp [z])) e) (fun b o _ _ hc e _=>⟨o.slots,k b o (fun z=>hc (by simp [z])) e⟩) (fun _ _ _ _ n=>n)
  (fun b o hc e=>⟨o,k b o (fun z=>hc (by simp [z])) e⟩) (fun _ _ e=>e) (fun _ _ _ e=>e) (fun b ps e=>⟨#[],by rw [e]; simp⟩) (fun m hm => ?_) (fun b u e => ?_) I.bare
 ·have e:b=it:=by simpa using hb
  subst e;exact ⟨h1,hL,h2,h3⟩
 ·obtain ⟨o,es,ep,ho,r⟩:=hm
  exact ⟨o,es,ep,k _ o (AM hL) ho,r⟩
 ·refine (I.hok b u e).stay (fun c v hc q=>k c v ?_ q) (fun _ q=>q) fun _ _ q=>q
  rcases hc with z | z
  ·rw [z]; exact nit b u e
  ·exact nit c _ z
theorem Inv.tok (I:Inv X pins σ H s)(t:Nat):Inv X pins σ H { s with toks:=t }:=I.un (h':=s.heap) (t':=t) Un.refl I.hok
theorem Inv.kept {t':Nat}(I:Inv X pins σ H s)(k : ∀ b u,s.heap.get? b=some u->h'.get? b=some u):Inv X pins σ H { s with heap:=h',toks:=t' }:=I.un (Un.kept k) (I.hok.kept k)
theorem Inv.laid {t':Nat}(I:Inv X pins σ H s)(k : ∀ b u,s.heap.get? b=some u->h'.get? b=some u)(hp:s.heap.objs.size<=a)(new:ObjOk X.prog X.w (upd H a o) h' a o) :
  Inv X pins σ (upd H a o) { s with heap:=h',toks:=t' }:=I.un (Un.laid k hp (I.hok.fresh hp)) (I.hok.laid k hp new)
theorem Inv.write {t':Nat}(I:Inv X pins σ H s)(mu:Mut (H x))(he:e=x\/H e=some (.own x))(k : ∀ b u,b ≠ e->s.heap.get? b=some u->h'.get? b=some u)(heo : ∃ u,h'.get? e=some u)(new:ObjOk X.prog X.w (upd H x o) h' x o):Inv X pins σ (upd H x o) { s with heap:=h',toks:=t' }:=I.un (Un.write mu he k heo) (I.hok.write mu he k heo new)
theorem Inv.weak {σ':List (Option V)}(I:Inv X pins σ H s)(hl:σ'.length=σ.length)(w : ∀ (i:Nat) v,σ'[i]?=some (some v)->σ[i]?=some (some v)):Inv X pins σ' H s :=
 ⟨I.ok,I.os,I.bare,I.base,let ⟨m,hn,hl'⟩:=I.loc; ⟨m,hn,fun i x v e1 e2 e3=>hl' i x v e1 (w i v e2) e3⟩,I.cell,I.free,I.freeC,I.pin,I.hok,hl.trans I.len⟩
theorem Inv.pins_of (I:Inv X pins σ H s)(h : ∀ p ∈ pins',s.heap.get? p.1=some p.2/\H p.1=none/\p.1 ≠ X.env.locals/\p.1 ∉ X.fs/\∀ v,p.2.data ≠ .cell v):Inv X pins' σ H s :=
 ⟨I.ok,I.os,I.bare,I.base,I.loc,I.cell,I.free,I.freeC,fun p hp=>(Bi.mp hp).elim (fun z=>I.pin p (List.mem_append_left _ z)) (h p),I.hok,I.len⟩
theorem lC {N:List Str}(hN:N.Nodup){i j:Nat}{x:Str}(a:N[i]?=some x)(b:N[j]?=some x):i=j:=by
 obtain ⟨h1,e1⟩:=Ad.mp a;obtain ⟨h2,e2⟩:=Ad.mp b;exact (List.getElem_inj hN).mp (e1.trans e2.symm)
theorem tX {M:Model}{A:Around}{E:Value->Shared->Prop}{i:Nat}{x:Str}{v:V}{u:Value}{Q:Unit->Shared->Prop}(I:Inv X pins σ H s)(hN:X.N.Nodup)(hi:X.N[i]?=some x)(hx:Loc X.env.scope x)(r:RelV v u)
  (h : ∀ s',Inv X pins (σ.set i (some v)) H s'->(∃ a,Ci a s.heap s'.heap/\(a=X.env.locals\/X.env.cells.lookup x=some a))->Q () s') (hf:X.fn x=true\/X.env.scope.names.lookup x=some .local:=by first | exact .inl rfl | exact .inr rfl | assumption):wpAny M A (storeName X.env x u) Q E s:=by
 obtain ⟨m,hn,hl⟩:=id I.loc;have hcls:(X.env.scope.kind == .class || (X.env.scope.kind == .module && X.env.locals != X.env.globals))=false:=by rw [I.ok.kind]; rfl
 have hiσ:i < σ.length:=by rw [I.len]; exact (Ad.mp hi).1
 have cne:=I.cne;have tracked : ∀ {a:Addr} {h':Heap},(∃ o,s.heap.get? a=some o/\H a=none)->Ci a s.heap h'->HOk X.prog X.w H h':=fun {a h'} ha hs b ob e=>by
  obtain ⟨_,_,hfree⟩:=ha;refine (I.hok b ob e).stay (fun c w' hc q=>(hs.2 c ?_).trans q) (fun _ q=>q) fun _ _ q=>q
  rintro rfl
  rcases hc with rfl | hc
  ·rw [hfree] at e; cases e
  ·rw [hfree] at hc; cases hc
 rcases hx with hk | hk
 ·refine wpAny_storeName_local hk hn (fun h' hn' hs => ?_) hcls
  obtain ⟨oL,_,_,hoL,_⟩:=id hn;refine h _ ⟨I.ok,I.os,I.bare,⟨fun b o e n hb hx => ?_,fun b o e n hb hx => ?_,I.base.free,fun b o e hx => ?_,I.base.tups,I.base.frzs,I.base.tbls⟩,⟨_,hn',fun j y v' e1 e2 e3 => ?_⟩,fun y c e => ?_,I.free,I.freeC,fun p hp => ?_,tracked ⟨oL,hoL,I.free⟩ hs,by simpa using I.len⟩ ⟨_,hs,.inl rfl⟩
  ·exact (hs.2 b (Av (AQ (Aq e) I.ok.above))).trans (I.base.keep b o e n hb hx)
  ·obtain ⟨sl,e1⟩:=I.base.slot b o e n hb hx
   exact ⟨sl,(hs.2 b (Av (AQ (Aq e) I.ok.above))).trans e1⟩
  ·obtain ⟨o',e1⟩:=I.base.there b o e hx
   exact ⟨o',(hs.2 b (Av (AQ (Aq e) I.ok.above))).trans e1⟩
  ·by_cases hj:j=i
   ·subst hj
    rw [hi] at e1; cases e1;rw [BY hiσ] at e2;cases e2;exact ⟨u,r,.inl ⟨hk,by simp⟩⟩
   ·rw [BR (AM hj)] at e2
    obtain ⟨u',r',q⟩:=hl j y v' e1 e2 e3;refine ⟨u',r',?_⟩
    rcases q with ⟨k,e⟩ | ⟨k,c,e,z⟩
    ·refine .inl ⟨k,?_⟩
     have:y ≠ x:=fun e=>hj (lC hN e1 (e ▸ hi));simp [this,e]
    ·exact .inr ⟨k,c,e,z.sameBut hs (cne y c e)⟩
  ·obtain ⟨w',z⟩:=I.cell y c e
   exact ⟨w',z.sameBut hs (cne y c e)⟩
  ·obtain ⟨e,n,ne,nf,d⟩:=I.pin p hp
   exact ⟨(hs.2 p.1 ne).trans e,n,ne,nf,d⟩
 ·have hfn:X.fn x=true:=by
   rcases hf with z | z
   ·exact z
   ·rw [z] at hk; cases hk
  obtain ⟨c,hc⟩:=I.ok.has x (.inl hk);obtain ⟨w',z⟩:=I.cell x c hc;refine wpAny_storeName_cell I.ok.kind hk hc z (fun h' hc' hs => ?_);obtain ⟨oc,hoc,hocd⟩:=id z;refine h { s with heap:=h' } ⟨I.ok,I.os,I.bare,⟨fun b o e n hb hx => ?_,fun b o e n hb hx => ?_,I.base.free,fun b o e hx => ?_,I.base.tups,I.base.frzs,I.base.tbls⟩,⟨m,hn.sameBut hs (AM (cne x c hc)),fun j y v' e1 e2 e3 => ?_⟩,fun y c' e => ?_,I.free,I.freeC,fun p hp => ?_,tracked ⟨oc,hoc,I.freeC x c hc⟩ hs,by simpa using I.len⟩ ⟨c,hs,.inr hc⟩
  ·exact (hs.2 b (Av (AQ (Aq e) (I.ok.cab x c hfn hc)))).trans (I.base.keep b o e n hb hx)
  ·obtain ⟨sl,e1⟩:=I.base.slot b o e n hb hx
   exact ⟨sl,(hs.2 b (Av (AQ (Aq e) (I.ok.cab x c hfn hc)))).trans e1⟩
  ·obtain ⟨o',e1⟩:=I.base.there b o e hx
   exact ⟨o',(hs.2 b (Av (AQ (Aq e) (I.ok.cab x c hfn hc)))).trans e1⟩
  ·by_cases hj:j=i
   ·subst hj
    rw [hi] at e1; cases e1;rw [BY hiσ] at e2;cases e2;exact ⟨u,r,.inr ⟨.inl hk,c,hc,hc'⟩⟩
   ·rw [BR (AM hj)] at e2
    obtain ⟨u',r',q⟩:=hl j y v' e1 e2 e3;refine ⟨u',r',?_⟩
    rcases q with q | ⟨k,c',e,z'⟩
    ·exact .inl q
    ·refine .inr ⟨k,c',e,z'.sameBut hs ?_⟩
     rintro rfl
     exact hj (lC hN e1 (I.ok.inj _ _ _ e hc ▸ hi))
  ·by_cases hcc:c'=c
   ·subst hcc; exact ⟨_,hc'⟩
   ·obtain ⟨w2,z2⟩:=I.cell y c' e
    exact ⟨w2,z2.sameBut hs hcc⟩
  ·obtain ⟨e,n,ne,nf,d⟩:=I.pin p hp
   refine ⟨(hs.2 p.1 ?_).trans e,n,ne,nf,d⟩;intro q;rw [q,hoc] at e;have q':oc=p.2:=AH e;exact d w' (by rw [<- q']; exact hocd)
theorem fJ {i:Nat}(I:Inv X pins σ H s)(hN:X.N.Nodup)(hi:X.N[i]?=some x)(hx:Loc X.env.scope x)(r:RelV v u)(h : ∀ s',Inv X pins (σ.set i (some v)) H s'->Q () s')(hf:X.fn x=true\/X.env.scope.names.lookup x=some .local:=by first | exact .inl rfl | exact .inr rfl | assumption):wpAny M A (storeName X.env x u) Q E s :=
 tX I hN hi hx r (fun s' I' _=>h s' I') hf
theorem Inv.call' (I:Inv X pins σ H s)(ho:s'.os=s.os)(u:Un (frs X.stack) ch H H' s.heap s'.heap)(hok:HOk X.prog X.w H' s'.heap)(hg:AllBare s'.gens)(hch : ∀ b ∈ ch,(b ∈ X.ex\/X.s₀.heap.objs.size<=b)/\b ≠ X.env.locals/\(∀ x c,X.env.cells.lookup x=some c->c ≠ b)/\∀ p ∈ X.pn ++ pins,p.1 ≠ b):Inv X pins σ H' s':=by
 obtain ⟨h',g',d',t',o'⟩:=s';have e:o'=s.os:=ho;subst e;exact I.call (g':=g') (t':=t') (d':=d') u hok hg hch
end
abbrev XK:=Value->Option Addr->Hp->Prop
abbrev St:=List (Option V)
abbrev VK:=V->Hp->Prop
abbrev TE:=St->Hp->VK->Prop
abbrev TT:=St->Hp->(Bool->Hp->Prop)->Prop
abbrev TA:=St->Hp->(List V->Hp->Prop)->Prop
structure Ends where
 nx:St->Hp->Prop
 rt:VK
 bk:St->Hp->Prop:=fun _ _=>False
 ct:St->Hp->Prop:=fun _ _=>False
abbrev TS:=Ends->St->Hp->Prop
def EP (X:Cx)(pins:List (Addr × Obj))(σ:St)(Q:VK)(u:Value)(s':Shared):Prop:=∃ v H',Inv X pins σ H' s'/\RelV v u/\Q v H'
def TP (X:Cx)(pins:List (Addr × Obj))(σ:St)(Q:Bool->Hp->Prop)(b:Bool)(s':Shared):Prop:=∃ H',Inv X pins σ H' s'/\Q b H'
def AP (X:Cx)(pins:List (Addr × Obj))(σ:St)(Q:List V->Hp->Prop)(us:List Value)(s':Shared):Prop:=∃ vs H',Inv X pins σ H' s'/\Vals vs us/\Q vs H'
def SP (X:Cx)(pins:List (Addr × Obj))(D:Ends)(f:Flow)(s':Shared):Prop :=
 match f with
 | .next=>∃ σ' H',Inv X pins σ' H' s'/\D.nx σ' H'
 | .brk=>∃ σ' H',Inv X pins σ' H' s'/\D.bk σ' H'
 | .cont=>∃ σ' H',Inv X pins σ' H' s'/\D.ct σ' H'
 | .ret u=>∃ v σ' H',Inv X pins σ' H' s'/\RelV v u/\D.rt v H'
def PE (X:Cx)(e:Expr)(t:TE):Prop :=
 ∀ (pins:List (Addr × Obj)) (s:Shared) (σ:St) (H:Hp) (Q:VK),Inv X pins σ H s->t σ H Q->wpAny (model X.prog X.w) X.A (eval e X.env) (EP X pins σ Q) X.xe s
def PT (X:Cx)(e:Expr)(t:TT):Prop :=
 ∀ (pins:List (Addr × Obj)) (s:Shared) (σ:St) (H:Hp) (Q:Bool->Hp->Prop),Inv X pins σ H s->t σ H Q->wpAny (model X.prog X.w) X.A (isTrue e X.env (eval e X.env)) (TP X pins σ Q) X.xe s
def PW (X:Cx)(e:Expr)(t:TT):Prop :=
 ∀ (whole:Sem Value) (pins:List (Addr × Obj)) (s:Shared) (σ:St) (H:Hp) (Q:Bool->Hp->Prop),Inv X pins σ H s->t σ H Q->wpAny (model X.prog X.w) X.A (isTrue e X.env whole) (TP X pins σ Q) X.xe s
theorem PW.pt (h:PW X e t):PT X e t:=h _
def PA (X:Cx)(es:List Expr)(t:TA):Prop :=
 ∀ (pos:Pos) (pins:List (Addr × Obj)) (s:Shared) (σ:St) (H:Hp) (Q:List V->Hp->Prop),Inv X pins σ H s->t σ H Q->wpAny (model X.prog X.w) X.A (spliced (backTo pos (AS es X.env))) (AP X pins σ Q) X.xe s
def PS (X:Cx)(st:Stmt)(t:TS):Prop :=
 ∀ (pins:List (Addr × Obj)) (s:Shared) (σ:St) (H:Hp) (D:Ends),Inv X pins σ H s->t D σ H->wpAny (model X.prog X.w) X.A (exec st X.env) (SP X pins D) X.xe s
def PSs (X:Cx)(st:List Stmt)(t:TS):Prop :=
 ∀ (pins:List (Addr × Obj)) (s:Shared) (σ:St) (H:Hp) (D:Ends),Inv X pins σ H s->t D σ H->wpAny (model X.prog X.w) X.A (execs st X.env) (SP X pins D) X.xe s
theorem thn {α:Type}{t:Sem α}{Q Q':α->Shared->Prop}{M:Model}{A:Around}{E:Value->Shared->Prop}{s:Shared}(h:wpAny M A t Q E s)(hQ : ∀ a s,Q a s->Q' a s):wpAny M A t Q' E s:=BV h hQ fun _ _ x=>x
section
variable {X:Cx}
theorem bin {a b:Expr}{ta tb:TE}(ha:PE X a ta)(hb:PE X b tb){pins:List (Addr × Obj)}{s:Shared}{σ:St}{H:Hp}{R:V->V->Hp->Prop}(I:Inv X pins σ H s)(h:ta σ H fun x H1=>tb σ H1 fun y H2=>R x y H2)
  {α:Type} {Q:α->Shared->Prop} {f:Value->Value->Sem α}
  (hf : ∀ v u s2 x y H2,Inv X pins σ H2 s2->RelV x v->RelV y u->R x y H2->wpAny (model X.prog X.w) X.A (f v u) Q X.xe s2) :
  wpAny (model X.prog X.w) X.A (eval a X.env) (fun v s₁=>wpAny (model X.prog X.w) X.A (eval b X.env) (fun u s₂=>wpAny (model X.prog X.w) X.A (f v u) Q X.xe s₂) X.xe s₁) X.xe s:=by
 refine thn (ha pins s σ H _ I h) fun v s1 ⟨x,H1,I1,r1,q1⟩ => ?_;refine thn (hb pins s1 σ H1 _ I1 q1) fun u s2 ⟨y,H2,I2,r2,q2⟩ => ?_;exact hf v u s2 x y H2 I2 r1 r2 q2
def tVar (i:Nat):TE:=fun σ H Q=>∃ v,σ[i]?=some (some v)/\Q v H
def tC (v:V):TE:=fun _ H Q=>Q v H
theorem vC {i:Nat}(hN:X.N[i]?=some x)(hv:Vis X.env.scope x)(hd:(x == ("__debug__" : Str))=false:=by decide)(hcd:(x == ("__classdict__" : Str))=false:=by decide):PE X (.Name x pos) (tVar i):=by
 intro pins s σ H Q I h;obtain ⟨v,e,h⟩:=h;obtain ⟨m,hn,hl⟩:=I.loc;obtain ⟨u,r,l⟩:=hl i x v hN e hv;have fin:EP X pins σ Q u s:=⟨v,H,I,r,h⟩
 rcases l with ⟨hk,hm⟩ | ⟨hk,c,hc,hcell⟩
 ·exact wpAny_Name (wpAny_loadName_local I.ok.kind hk hn hm fin) hd
 ·rcases hk with hk | hk
  ·exact wpAny_Name (wpAny_loadName_cell I.ok.kind hk hc hcell fin) hd
  ·exact wpAny_Name (wpAny_loadName_free I.ok.kind hk hc hcell fin hcd) hd
theorem aG {i j pos}:PE X (.Constant (.int i) j pos) (tC (.int i)):=fun _ _ _ H _ I h=>wpAny_Constant_int ⟨.int i,H,I.tok _,⟨_,rfl⟩,h⟩
theorem eZ {b j pos}:PE X (.Constant (.bool b) j pos) (tC (.bl b)):=fun _ _ _ H _ I h=>Constant_bool ⟨.bl b,H,I,rfl,h⟩
theorem dP {j pos}:PE X (.Constant .none j pos) (tC .non):=fun _ _ _ H _ I h=>Constant_none ⟨.non,H,I,rfl,h⟩
theorem aS {x j pos}:PE X (.Constant (.str x) j pos) (tC (.str x)):=fun _ _ _ H _ I h=>Calls.Constant_str ⟨.str x,H,I.tok _,⟨_,rfl⟩,h⟩
def Gl (X:Cx)(x:Str):Prop:=X.env.kindOf x=some .globalImplicit
theorem eU {σ:St}(I:Inv X pins σ H s)(hg:Gl X x)(hm:X.mg x=some u)(h:Q u s)(hd:(x == ("__debug__" : Str))=false:=by decide):wpAny (model X.prog X.w) X.A (eval (.Name x pos) X.env) Q E s :=
 Calls.Name_function_global I.ok.kind hg (Calls.loadGlobal_global (by rw [I.ok.glob]; exact I.mod.glob.keeps I.bk) hm h) hd
theorem iZ {σ:St}(I:Inv X pins σ H s)(hg:Gl X x)(hm:X.mg x=none)(hv:Cb x=some u)(h:Q u s)(hn:x ≠ "__name__" := by decide)(hd:(x == ("__debug__" : Str))=false:=by decide):wpAny (model X.prog X.w) X.A (eval (.Name x pos) X.env) Q E s:=by
 obtain ⟨mb,h1,h2⟩:=I.mod.blt;exact Calls.Name_function_global I.ok.kind hg (Calls.loadGlobal_builtin (by rw [I.ok.glob]; exact I.mod.glob.keeps I.bk) hm (by rw [I.ok.blt]; exact h1.keeps I.bk) ((h2 x hn).trans hv) h) hd
theorem dA (hg:Gl X x)(hm:X.mg x=some u)(r:RelV v u)(hd:(x == ("__debug__" : Str))=false:=by decide):PE X (.Name x pos) (tC v) :=
 fun _ _ _ H _ I h=>eU I hg hm ⟨v,H,I,r,h⟩ hd
theorem eE (hg:Gl X x)(hm:X.mg x=none)(hv:Cb x=some u)(r:RelV v u)(hn:x ≠ "__name__" := by decide)(hd:(x == ("__debug__" : Str))=false:=by decide):PE X (.Name x pos) (tC v) :=
 fun _ _ _ H _ I h=>iZ I hg hm hv ⟨v,H,I,r,h⟩ hn hd
def t2I (ta tb:TE)(k:Int->Int->Hp->Prop):St->Hp->Prop:=fun σ H=>ta σ H fun x H1=>tb σ H1 fun y H2=>∃ i j,x = .int i/\y = .int j/\k i j H2
def tAdd (ta tb:TE):TE:=fun σ H Q=>t2I ta tb (fun i j H2=>Q (.int (i+j)) H2) σ H
def tSub (ta tb:TE):TE:=fun σ H Q=>t2I ta tb (fun i j H2=>Q (.int (i - j)) H2) σ H
def tMul (ta tb:TE):TE:=fun σ H Q=>t2I ta tb (fun i j H2=>(-(2 ^ 64) < i/\i < 2 ^ 64)/\Q (.int (i*j)) H2) σ H
variable {a b:Expr}{ta tb:TE}{pos:Pos}
def PC (X:Cx)(op:CmpOp)(a b:Expr)(t:TE):Prop :=
 ∀ (pins:List (Addr × Obj)) (s:Shared) (σ:St) (H:Hp) (Q:VK),Inv X pins σ H s->t σ H Q ->
  wpAny (model X.prog X.w) X.A (eval a X.env) (fun v s₁=>wpAny (model X.prog X.w) X.A (eval b X.env) (fun u s₂=>wpAny (model X.prog X.w) X.A (BI op v u) (EP X pins σ Q) X.xe s₂) X.xe s₁) X.xe s
def tCmp (p:Int->Int->Bool)(ta tb:TE):TE:=fun σ H Q=>t2I ta tb (fun i j H2=>Q (.bl (p i j)) H2) σ H
abbrev tLt:TE->TE->TE:=tCmp fun i j=>decide (i < j)
abbrev tLe:TE->TE->TE:=tCmp fun i j=>decide (i<=j)
abbrev tGt:TE->TE->TE:=tCmp fun i j=>decide (j < i)
abbrev tGe:TE->TE->TE:=tCmp fun i j=>decide (j<=i)
abbrev tEqI:TE->TE->TE:=tCmp fun i j=>decide (i=j)
abbrev tNeI:TE->TE->TE:=tCmp fun i j => !decide (i=j)
def tIsN (ta:TE):TE:=fun σ H Q=>ta σ H fun x H1=>Q (.bl (decide (x = .non))) H1
def tNotN (ta:TE):TE:=fun σ H Q=>ta σ H fun x H1=>Q (.bl (!decide (x = .non))) H1
def tB (t:TE):TT:=fun σ H Q=>t σ H fun x H1=>∃ c,x = .bl c/\Q c H1
theorem pt_cmp {op:CmpOp}{t:TE}(h:PC X op a b t)(h1:behindInMarks op b=false:=by first | exact nobehind _ (by decide) (by decide) | rfl):PT X (.Compare a [op] [b] pos) (tB t):=by
 intro pins s σ H Q I hw;refine wpAny_isTrue_Compare1 (thn (h pins s σ H _ I hw) fun v s1 h1=>thn h1 fun u s2 h2=>thn h2 fun c s3 ⟨x,H1,I1,r1,q1⟩ => ?_) h1;obtain ⟨d,rfl,q⟩:=q1;cases r1;exact Ds ⟨H1,I1,q⟩
theorem bY {e:Expr}{t:TE}(h:PE X e t)(he : ∀ whole,isTrue e X.env whole=(do let v <- whole; standAt e.pos; holding [v] (truthy v)):=by intro _; rfl):PT X e (tB t):=by
 intro pins s σ H Q I hw;refine isTrue_plain (thn (h pins s σ H _ I hw) fun v s1 ⟨x,H1,I1,r1,q1⟩ => ?_) (he _);obtain ⟨d,rfl,q⟩:=q1;cases r1;exact Ds ⟨H1,I1,q⟩
variable {tA tB':TT}{rest:List Expr}
def tAnd (t u:TT):TT:=fun σ H Q=>t σ H fun c H1=>if c=true then u σ H1 Q else Q false H1
def tOr (t u:TT):TT:=fun σ H Q=>t σ H fun c H1=>if c=true then Q true H1 else u σ H1 Q
def tNot (t:TT):TT:=fun σ H Q=>t σ H fun c H1=>Q (!c) H1
theorem iO (ha:PT X a tA):PW X (.BoolOp .And [a] pos) tA:=by
 intro wh pins s σ H Q I h;refine isTrue_and (thn (ha pins s σ H Q I h) fun c s1 e => ?_);cases c with
 | true=>exact isTrue_and_nil e
 | false=>exact e
theorem fB (ha:PT X a tA):PW X (.BoolOp .Or [a] pos) tA:=by
 intro wh pins s σ H Q I h;refine isTrue_or (thn (ha pins s σ H Q I h) fun c s1 e => ?_);cases c with
 | false=>exact isTrue_or_nil e
 | true=>exact e
theorem mB (ha:PT X a tA)(hb:PW X (.BoolOp .And (b :: rest) pos) tB'):PW X (.BoolOp .And (a :: b :: rest) pos) (tAnd tA tB'):=by
 intro wh pins s σ H Q I h;refine isTrue_and (thn (ha pins s σ H _ I h) fun c s1 ⟨H1,I1,q1⟩ => ?_);cases c with
 | true=>exact hb wh pins s1 σ H1 Q I1 q1
 | false=>exact ⟨H1,I1,q1⟩
theorem hJ (ha:PT X a tA)(hb:PW X (.BoolOp .Or (b :: rest) pos) tB'):PW X (.BoolOp .Or (a :: b :: rest) pos) (tOr tA tB'):=by
 intro wh pins s σ H Q I h;refine isTrue_or (thn (ha pins s σ H _ I h) fun c s1 ⟨H1,I1,q1⟩ => ?_);cases c with
 | true=>exact ⟨H1,I1,q1⟩
 | false=>exact hb wh pins s1 σ H1 Q I1 q1
theorem eA (ha:PT X a tA):PT X (.UnaryOp .Not a pos) (tNot tA):=by
 intro pins s σ H Q I h;exact isTrue_not (ha pins s σ H (fun c H1=>Q (!c) H1) I h)
def aGm (ta tb:TE):TE:=fun σ H Q=>ta σ H fun x H1=>∃ c,x = .bl c/\if c=true then tb σ H1 Q else Q (.bl false) H1
def tOrV (ta tb:TE):TE:=fun σ H Q=>ta σ H fun x H1=>∃ c,x = .bl c/\if c=true then Q (.bl true) H1 else tb σ H1 Q
def aGd (ta:TE):TE:=fun σ H Q=>ta σ H fun x H1=>∃ c,x = .bl c/\Q (.bl (!c)) H1
theorem fT {op}(h:PE X a t):PE X (.BoolOp op [a] pos) t:=fun pins s σ H Q I hw=>BoolOp_one (h pins s σ H Q I hw)
theorem iT (ha:PE X a ta)(hb:PE X (.BoolOp .And (b :: rest) pos) tb):PE X (.BoolOp .And (a :: b :: rest) pos) (aGm ta tb):=by
 intro pins s σ H Q I h;refine BoolOp_and (thn (ha pins s σ H _ I h) fun v s1 ⟨x,H1,I1,r1,q1⟩ => ?_);obtain ⟨c,rfl,q1⟩:=q1;cases r1;refine Ds ?_;cases c with
 | true=>exact hb pins s1 σ H1 Q I1 q1
 | false=>exact ⟨.bl false,H1,I1,rfl,q1⟩
theorem aCq (ha:PE X a ta)(hb:PE X (.BoolOp .Or (b :: rest) pos) tb):PE X (.BoolOp .Or (a :: b :: rest) pos) (tOrV ta tb):=by
 intro pins s σ H Q I h;refine BoolOp_or (thn (ha pins s σ H _ I h) fun v s1 ⟨x,H1,I1,r1,q1⟩ => ?_);obtain ⟨c,rfl,q1⟩:=q1;cases r1;refine Ds ?_;cases c with
 | false=>exact hb pins s1 σ H1 Q I1 q1
 | true=>exact ⟨.bl true,H1,I1,rfl,q1⟩
theorem vD (ha:PE X a ta):PE X (.UnaryOp .Not a pos) (aGd ta):=by
 intro pins s σ H Q I h;refine UnaryOp_ (thn (ha pins s σ H _ I h) fun v s1 ⟨x,H1,I1,r1,q1⟩ => ?_);obtain ⟨c,rfl,q1⟩:=q1;cases r1;exact not_of (Ds ⟨.bl (!c),H1,I1,rfl,q1⟩)
def tIf (t:TT)(ta tb:TE):TE:=fun σ H Q=>t σ H fun c H1=>if c=true then ta σ H1 Q else tb σ H1 Q
end
def SqL (K:Aa)(H:Hp)(a:Addr)(xs:List V):Prop :=
 Rd H a (.lst xs) \/
  ∃ (o:Obj) (its:Array Value) (n:Nat),K.lookup a=some o/\o.cls = .type "list" /\ o.dict=none/\o.data = .seq its n/\its.size<=Aw/\Vals xs its.toList
def SqT (K:Aa)(H:Hp)(a:Addr)(xs:List V):Prop :=
 Rd H a (.tup xs) \/
  ∃ (o:Obj) (its:Array Value) (n:Nat),K.lookup a=some o/\o.cls = .type "tuple" /\ o.data = .seq its n/\its.size<=Aw/\Vals xs its.toList
def absV:Value->Option V
 | .none=>some .non
 | .bool b=>some (.bl b)
 | .int i _=>some (.int i)
 | .str x _=>some (.str x)
 | .bytes b _=>some (.byt b)
 | .float b _=>some (.flt b)
 | .ref a=>some (.ref a)
 | .type n=>some (.ty n)
 | _=>none
theorem RelV.abs (r:RelV x u):absV u=some x:=by
 cases x with
 | non=>cases r; rfl
 | bl _=>cases r; rfl
 | int _=>obtain ⟨t,rfl⟩:=r; rfl
 | str _=>obtain ⟨t,rfl⟩:=r; rfl
 | byt _=>obtain ⟨t,rfl⟩:=r; rfl
 | flt _=>obtain ⟨t,rfl⟩:=r; rfl
 | ref _=>cases r; rfl
 | ty _=>cases r; rfl
theorem RelV.inj (r:RelV x u)(q:RelV y u):x=y:=AH (r.abs.symm.trans q.abs)
theorem Vals.inj : ∀ {xs ys:List V} {us:List Value},Vals xs us->Vals ys us->xs=ys
 | _,_,_,.nil,.nil=>rfl
 | _,_,_,.cons r t,.cons r' t'=>by rw [r.inj r',Vals.inj t t']
section
variable {X:Cx}{pins:List (Addr × Obj)}{σ:St}{H:Hp}{s:Shared}{a:Addr}{xs ys:List V}
theorem SqL.of {K:Aa}(h:H a=some (.lst xs)):SqL K H a xs:=.inl (.inl h)
theorem SqT.of {K:Aa}(h:H a=some (.tup xs)):SqT K H a xs:=.inl (.inl h)
theorem Inv.list (I:Inv X pins σ H s)(h:SqL X.K H a xs) : ∃ its:List Value,Vals xs its/\PlainL s.heap a its.toArray/\xs.length<=Aw:=by
 rcases h with h | ⟨o,its,n,hk,hc,hd,hs,hz,r⟩
 ·obtain ⟨z,its,n,r,e⟩:=h.ok I.hok
  exact ⟨its,r,⟨_,n,e,rfl,rfl,rfl⟩,z⟩
 ·refine ⟨its.toList,r,⟨o,n,I.kIn a o hk,hc,hd,by simpa using hs⟩,?_⟩
  have e:=r.length;simp only [BB] at e;omega
theorem Inv.tuple (I:Inv X pins σ H s)(h:SqT X.K H a xs) : ∃ its:List Value,Vals xs its/\IsTup s.heap a its.toArray/\xs.length<=Aw:=by
 rcases h with h | ⟨o,its,n,hk,hc,hs,hz,r⟩
 ·obtain ⟨z,its,r,p⟩:=h.ok I.hok
  exact ⟨its,r,p,z.1⟩
 ·refine ⟨its.toList,r,⟨o,I.kIn a o hk,hc,n,by simpa using hs⟩,?_⟩
  have e:=r.length;simp only [BB] at e;omega
theorem Inv.list_inj (I:Inv X pins σ H s)(h:SqL X.K H a xs)(h':SqL X.K H a ys):xs=ys:=by
 obtain ⟨its,r,⟨o,n,e,_,_,d⟩,_⟩:=I.list h;obtain ⟨its',r',⟨o',n',e',_,_,d'⟩,_⟩:=I.list h';rw [e] at e'; cases e';rw [d] at d';injection d' with d1 _;have:its=its':=by simpa using congrArg Array.toList d1
 subst this;exact r.inj r'
theorem Inv.tuple_inj (I:Inv X pins σ H s)(h:SqT X.K H a xs)(h':SqT X.K H a ys):xs=ys:=by
 obtain ⟨its,r,⟨o,e,_,n,d⟩,_⟩:=I.tuple h;obtain ⟨its',r',⟨o',e',_,n',d'⟩,_⟩:=I.tuple h';rw [e] at e'; cases e';rw [d] at d';injection d' with d1 _;have:its=its':=by simpa using congrArg Array.toList d1
 subst this;exact r.inj r'
end
abbrev Cx.wish (X:Cx)(E:Value->Shared->Prop):Cx:={ X with xe:=E }
abbrev Cx.nox (X:Cx):Cx:=X.wish fun _ _=>False
theorem Cx.Ok.wish {X:Cx}(ok:X.Ok)(E:Value->Shared->Prop):(X.wish E).Ok :=
 ⟨ok.mod,ok.kind,ok.glob,ok.blt,ok.above,ok.inj,ok.has,ok.cab,ok.hd,ok.frames,ok.stk,ok.exf,ok.bs,ok.bsz,ok.noex,ok.exfs,ok.funs,ok.frf⟩
theorem Cx.Ok.unwish {X:Cx}{E:Value->Shared->Prop}(ok:(X.wish E).Ok):X.Ok :=
 ⟨ok.mod,ok.kind,ok.glob,ok.blt,ok.above,ok.inj,ok.has,ok.cab,ok.hd,ok.frames,ok.stk,ok.exf,ok.bs,ok.bsz,ok.noex,ok.exfs,ok.funs,ok.frf⟩
section
variable {X:Cx}{pins:List (Addr × Obj)}{σ:St}{H:Hp}{s:Shared}{E:Value->Shared->Prop}
theorem Inv.wish (I:Inv X pins σ H s)(E:Value->Shared->Prop):Inv (X.wish E) pins σ H s:=⟨I.ok.wish E,I.os,I.bare,I.base,I.loc,I.cell,I.free,I.freeC,I.pin,I.hok,I.len⟩
theorem Inv.unwish (I:Inv (X.wish E) pins σ H s):Inv X pins σ H s:=⟨I.ok.unwish,I.os,I.bare,I.base,I.loc,I.cell,I.free,I.freeC,I.pin,I.hok,I.len⟩
theorem SP.unwish (h:SP (X.wish E) pins D f s'):SP X pins D f s':=by
 cases f with
 | next=>obtain ⟨σ',H',I,q⟩:=h; exact ⟨σ',H',I.unwish,q⟩
 | brk=>obtain ⟨σ',H',I,q⟩:=h; exact ⟨σ',H',I.unwish,q⟩
 | cont=>obtain ⟨σ',H',I,q⟩:=h; exact ⟨σ',H',I.unwish,q⟩
 | ret u=>obtain ⟨v,σ',H',I,r,q⟩:=h; exact ⟨v,σ',H',I.unwish,r,q⟩
theorem PSs.nox {st:List Stmt}{t:TS}(h:PSs X.nox st t):PSs X st t:=fun pins s σ H D I hw =>
 BV (h pins s σ H D (I.wish _) hw) (fun _ _ q=>q.unwish) fun _ _ z=>CD z
end
section
variable {X:Cx}{st:Stmt}{rest:List Stmt}{t u:TS}{e:Expr}{te:TE}{pos:Pos}
def aGe:TS:=fun D σ H=>D.nx σ H
def tSeq (t u:TS):TS:=fun D σ H=>t { D with nx:=u D } σ H
theorem aP:PSs X [] aGe:=fun _ _ σ H _ I h=>Fo ⟨σ,H,I,h⟩
theorem aC (h1:PS X st t)(h2:PSs X rest u):PSs X (st :: rest) (tSeq t u):=by
 intro pins s σ H D I h;refine wpAny_execs_cons (thn (h1 pins s σ H { D with nx:=u D } I h) fun f s1 q => ?_);cases f with
 | next =>
  obtain ⟨σ',H',I',q⟩:=q;exact h2 pins s1 σ' H' D I' q
 | ret v=>exact q
 | brk=>exact q
 | cont=>exact q
theorem aE (h1:PS X st t):PSs X [st] t:=by
 intro pins s σ H D I h;refine wpAny_execs_cons (thn (h1 pins s σ H D I h) fun f s1 q => ?_);cases f with
 | next=>exact Fo q
 | ret v=>exact q
 | brk=>exact q
 | cont=>exact q
def tBreak:TS:=fun D σ H=>D.bk σ H
def tCont:TS:=fun D σ H=>D.ct σ H
theorem Inv.quiet {σ:St}(I:Inv X pins σ H s):interactive X.env=false:=by simp [interactive,I.ok.kind]
def aGj (te:TE):TS:=fun D σ H=>te σ H fun _ H1=>D.nx σ H1
theorem dJ (he:PE X e te)(hs:swapsWith e none pos.line X.env=pure false:=by rfl):PS X (.Expr e pos) (aGj te):=by
 intro pins s σ H D I h;exact wpAny_Expr_any (thn (he pins s σ H _ I h) fun v s1 ⟨x,H1,I1,r1,q1⟩=>⟨σ,H1,I1,q1⟩) I.quiet hs
def tRet (te:TE):TS:=fun D σ H=>te σ H D.rt
theorem aM (he:PE X e te):PS X (.Return (some e) pos) (tRet te):=by
 intro pins s σ H D I h;exact wpAny_Return_some (thn (he pins s σ H _ I h) fun v s1 ⟨x,H1,I1,r1,q1⟩=>⟨x,σ,H1,I1,r1,q1⟩)
def tRetN:TS:=fun D _ H=>D.rt .non H
def tIfS (c:TT)(t u:TS):TS:=fun D σ H=>c σ H fun b H1=>if b=true then t D σ H1 else u D σ H1
theorem bA {c:Expr}{a b:List Stmt}{tc:TT}(hc:PT X c tc)(ha:PSs X a t)(hb:PSs X b u):PS X (.If c a b pos) (tIfS tc t u):=by
 intro pins s σ H D I h;refine wpAny_If (thn (hc pins s σ H _ I h) fun d s1 ⟨H1,I1,q1⟩ => ?_);cases d with
 | true=>exact ha pins s1 σ H1 D I1 q1
 | false=>exact hb pins s1 σ H1 D I1 q1
def aEa:TS:=fun _ _ _=>False
theorem zB:PS X st aEa:=fun _ _ _ _ _ _ h=>h.elim
end
abbrev TG:=V->St->Hp->(St->Hp->Prop)->Prop
abbrev TGs:=List V->St->Hp->(St->Hp->Prop)->Prop
def PG (X:Cx)(target:Expr)(t:TG):Prop :=
 ∀ (pins:List (Addr × Obj)) (s:Shared) (σ:St) (H:Hp) (v:V) (u:Value) (Q:St->Hp->Prop),Inv X pins σ H s->RelV v u->t v σ H Q ->
  wpAny (model X.prog X.w) X.A (assign target X.env u) (fun _ s'=>∃ σ' H',Inv X pins σ' H' s'/\Q σ' H') X.xe s
def PGs (X:Cx)(ts:List Expr)(t:TGs):Prop :=
 ∀ (pins:List (Addr × Obj)) (s:Shared) (σ:St) (H:Hp) (vs:List V) (us:List Value) (Q:St->Hp->Prop),Inv X pins σ H s->Vals vs us->t vs σ H Q ->
  wpAny (model X.prog X.w) X.A (assignInOrder ((assignEach ts X.env).map (·.2)) us) (fun _ s'=>∃ σ' H',Inv X pins σ' H' s'/\Q σ' H') X.xe s
abbrev TSet:=V->V->V->Hp->(Hp->Prop)->Prop
def PSet (X:Cx)(t:TSet):Prop :=
 ∀ (pins:List (Addr × Obj)) (s:Shared) (σ:St) (H:Hp) (o i v:V) (ov iv u:Value) (Q:Hp->Prop),Inv X pins σ H s->RelV o ov->RelV i iv->RelV v u->t o i v H Q ->
  wpAny (model X.prog X.w) X.A (setItem ov iv u) (fun _ s'=>∃ H',Inv X pins σ H' s'/\Q H') X.xe s
abbrev TIp:=V->V->Hp->VK->Prop
def PIp (X:Cx)(op:Operator)(t:TIp):Prop :=
 ∀ (pins:List (Addr × Obj)) (s:Shared) (σ:St) (H:Hp) (x y:V) (v u:Value) (Q:VK),Inv X pins σ H s->RelV x v->RelV y u->t x y H Q ->
  wpAny (model X.prog X.w) X.A (inplaceOp op v u) (EP X pins σ Q) X.xe s
section
variable {X:Cx}{pos:Pos}
def gName (i:Nat):TG:=fun v σ H Q=>Q (σ.set i (some v)) H
theorem aV {i:Nat}(hN:X.N.Nodup)(hi:X.N[i]?=some x)(hx:Loc X.env.scope x)(hf:X.fn x=true\/X.env.scope.names.lookup x=some .local:=by first | exact .inl rfl | exact .inr rfl | assumption):PG X (.Name x pos) (gName i):=by
 intro pins s σ H v u Q I r h;exact wpAny_assign_Name (fJ I hN hi hx r (fun s' I'=>⟨_,H,I',h⟩) hf)
def gNil:TGs:=fun vs σ H Q=>vs=[]/\Q σ H
def oZ (t:TG)(u:TGs):TGs:=fun vs σ H Q=>∃ v r,vs=v :: r/\t v σ H fun σ' H'=>u r σ' H' Q
theorem eO:PGs X [] gNil:=by
 intro pins s σ H vs us Q I r h;obtain ⟨e,h⟩:=h;subst e;cases r;exact assignInOrder_nil ⟨σ,H,I,h⟩
theorem bR {e:Expr}{es:List Expr}{t:TG}{u:TGs}(h1:PG X e t)(h2:PGs X es u)
  (hs:(assignEach (e :: es) X.env).map (·.2)=assign e X.env :: (assignEach es X.env).map (·.2):=by rfl):PGs X (e :: es) (oZ t u):=by
 intro pins s σ H vs us Q I r h;obtain ⟨v,vr,e1,h⟩:=h;subst e1;cases r with
 | cons r rr =>
  rw [hs];refine assignInOrder_cons (thn (h1 pins s σ H _ _ _ I r h) fun _ s1 ⟨σ1,H1,I1,q1⟩ => ?_);exact h2 pins s1 σ1 H1 _ _ Q I1 rr q1
def gTup (K:Aa)(n:Nat)(t:TGs):TG:=fun v σ H Q=>∃ a xs,v = .ref a/\SqT K H a xs/\xs.length=n/\t xs σ H Q
theorem fS {k:Nat}{n:Nat}(hc:X.calm=true)(h:PGs X es t)(hn:(assignEach es X.env).length=n:=by rfl)(hst:(assignEach es X.env).findIdx? (·.1)=none:=by rfl):PG X (.Tuple es k pos) (gTup X.K n t):=by
 intro pins s σ H v u Q I r hw;obtain ⟨a,xs,e1,hq,hl,hw⟩:=hw;subst e1;cases r;obtain ⟨its,rv,ht,hz⟩:=I.tuple hq;refine assign_Tuple_tuple (I.ok.hd hc) ht (by simp [hn,<- hl,rv.length]) hst fun h' hx => ?_;have I1:Inv X pins σ H { s with heap:=h' }:=I.kept (t':=s.toks) fun b o e=>hx b o (Av (Aq e)) e;exact h pins _ σ H xs _ Q I1 (by simpa using rv) hw
def gSub (to ti:TE)(t:TSet):TG:=fun v σ H Q=>to σ H fun o H1=>ti σ H1 fun i H2=>t o i v H2 fun H3=>Q σ H3
theorem mF {o i:Expr}{to ti:TE}{t:TSet}(ho:PE X o to)(hi:PE X i ti)(hs:PSet X t)
  (ha : ∀ v,assign (.Subscript o i pos) X.env v=(do
   let ov <- holding [v] (eval o X.env)
   let iv <- holding [v,ov] (eval i X.env)
   standAt pos
   holding [v,ov,iv] (setItem ov iv v)
   release [v,ov,iv] []):=by intro _; rfl):PG X (.Subscript o i pos) (gSub to ti t):=by
 intro pins s σ H v u Q I r h;rw [ha];refine Ab (Br (thn (ho pins s σ H _ I h) fun ov s1 ⟨x,H1,I1,r1,q1⟩ => ?_));refine Ab (Br (thn (hi pins s1 σ H1 _ I1 q1) fun iv s2 ⟨y,H2,I2,r2,q2⟩ => ?_));refine Ab (Fg (Ab (Br (thn (hs pins s2 σ H2 x y v ov iv u _ I2 r1 r2 r q2) fun _ s3 ⟨H3,I3,q3⟩ => ?_))));exact wpAny_release ⟨σ,H3,I3,q3⟩
def tAsg (te:TE)(g:TG):TS:=fun D σ H=>te σ H fun x H1=>g x σ H1 D.nx
theorem gQ {tg e:Expr}{te:TE}{g:TG}(he:PE X e te)(hg:PG X tg g)(hs:swapsWithSole [tg] e pos.line X.env=pure false:=by rfl)(hw:swappedStores [tg] e X.env=pure none:=by rfl)
  (h1:(assignEach [tg] X.env).map (·.2)=[assign tg X.env]:=by rfl):PS X (.Assign [tg] e pos) (tAsg te g):=by
 intro pins s σ H D I h;refine wpAny_Assign_stores (thn (he pins s σ H _ I h) fun v s1 ⟨x,H1,I1,r1,q1⟩ => ?_) hs hw;rw [h1];exact thn (hg pins s1 σ H1 x v _ I1 r1 q1) fun _ s2 q=>q
theorem aL {i:Nat}{x:Str}{e:Expr}{te:TE}{pos':Pos}(hN:X.N.Nodup)(hi:X.N[i]?=some x)(hx:Loc X.env.scope x)(he:PE X e te)(hs:swapsWith e (some (.Name x pos')) pos.line X.env=pure false:=by rfl)(hf:X.fn x=true\/X.env.scope.names.lookup x=some .local:=by first | exact .inl rfl | exact .inr rfl | assumption) :
  PS X (.Assign [.Name x pos'] e pos) (tAsg te (gName i)):=by
 intro pins s σ H D I h;refine wpAny_Assign_Name (thn (he pins s σ H _ I h) fun v s1 ⟨y,H1,I1,r1,q1⟩ => ?_) hs;exact fJ I1 hN hi hx r1 (fun s2 I2=>⟨_,H1,I2,q1⟩) hf
def tPar (i j:Nat)(ta:TA):TS:=fun D σ H=>ta σ H fun vs H1=>∃ v w,vs=[v,w]/\D.nx ((σ.set i (some v)).set j (some w)) H1
theorem aE1 {i j:Nat}{x y:Str}{a b:Expr}{ta:TA}{px py pt:Pos}{kt k2 pt2}(hc:X.calm=true)(hN:X.N.Nodup)(hi:X.N[i]?=some x)(hj:X.N[j]?=some y)(hij:i ≠ j)
  (hx:X.env.scope.names.lookup x=some .local) (hy:X.env.scope.names.lookup y=some .local) (ha:PA X [a,b] ta)
  (hw:swappedStores [.Tuple [.Name x px,.Name y py] kt pt] (.Tuple [a,b] k2 pt2) X.env=pure (some [x,y]))
  (hs:swapsWithSole [.Tuple [.Name x px,.Name y py] kt pt] (.Tuple [a,b] k2 pt2) pos.line X.env=pure false:=by rfl) :
  PS X (.Assign [.Tuple [.Name x px,.Name y py] kt pt] (.Tuple [a,b] k2 pt2) pos) (tPar i j ta):=by
 intro pins s σ H D I h;rw [exec_Assign_arm];refine Ab (Fg ?_);rw [hs];refine Ab (Af ?_);rw [if_neg (by decide)];refine Ab (Tuple_ (thn (ha _ pins s σ H _ I h) fun us s1 ⟨vs,H1,I1,r1,q1⟩ => ?_));obtain ⟨v,w,e1,q1⟩:=q1;subst e1;obtain ⟨u1,u2,rfl,rv,rw'⟩ : ∃ u1 u2,us=[u1,u2]/\RelV v u1/\RelV w u2:=by
  cases r1 with
  | cons p q =>
   cases q with
   | cons p' q' =>
    cases q';exact ⟨_,_,rfl,p,p'⟩
 refine AY ?_ zLn2;have I2:Inv X pins σ H1 { s1 with heap:=s1.heap.push { cls:=.type "tuple",data:=.seq [u1,u2].toArray } }:=I1.kept (t':=s1.toks) fun b o e=>Ac _ e;rw [hw];refine Ab (Af ?_);show wpAny (model X.prog X.w) X.A (do rule "assign.swapped-stores"; let items <- unpackItems (.ref s1.heap.objs.size) 2 none; assignInOrder [fun v=>bindName X.env y v,fun v=>bindName X.env x v] items.reverse; pure Flow.next) _ _ _;refine Ab (Di (Ab (unpackItems_tuple (items := #[u1,u2]) (I.ok.hd hc) (IsTup.new s1.heap _) fun h' hx' => ?_)));have I3:=I2.kept (h':=h') (t':=s1.toks) fun b o e=>hx' b o (Av (Aq e)) e;show wpAny _ _ (assignInOrder [fun v=>bindName X.env y v,fun v=>bindName X.env x v] [u2,u1] >>= fun _=>pure Flow.next) _ _ _;refine Ab (assignInOrder_cons (wpAny_bindName (fJ I3 hN hj (.inl hy) rw' (fun s2 I4 => ?_) (.inr hy))));refine assignInOrder_cons (wpAny_bindName (fJ I4 hN hi (.inl hx) rv (fun s3 I5=>assignInOrder_nil (Af ?_)) (.inr hx)));rw [List.set_comm _ _ (AM hij)] at I5;exact ⟨_,H1,I5,q1⟩
def tAug (i:Nat)(te:TE)(ti:TIp):TS:=fun D σ H=>∃ x,σ[i]?=some (some x)/\te σ H fun y H1=>ti x y H1 fun z H2=>D.nx (σ.set i (some z)) H2
def tAugS (to ti te:TE)(tget:V->V->Hp->VK->Prop)(tip:TIp)(tset:TSet):TS:=fun D σ H=>to σ H fun o H1=>ti σ H1 fun i H2=>tget o i H2 fun x H3=>te σ H3 fun y H4=>tip x y H4 fun z H5=>tset o i z H5 fun H6=>D.nx σ H6
def PGet (X:Cx)(t:V->V->Hp->VK->Prop):Prop :=
 ∀ (pins:List (Addr × Obj)) (s:Shared) (σ:St) (H:Hp) (o i:V) (ov iv:Value) (Q:VK),Inv X pins σ H s->RelV o ov->RelV i iv->t o i H Q ->
  wpAny (model X.prog X.w) X.A (getItem ov iv) (EP X pins σ Q) X.xe s
def ipI (f:Int->Int->Int):TIp:=fun x y H Q=>∃ i j,x = .int i/\y = .int j/\Q (.int (f i j)) H
end
section
variable {X:Cx}{pos:Pos}
def aAv (c:TT)(tb:TS):TS:=fun D σ H=>∃ W:Nat->St->Hp->Prop,(∃ m,W m σ H)/\∀ m σ H,W m σ H ->
 c σ H fun b H1=>if b=true then ∃ N:St->Hp->Prop,(∀ σ' H',N σ' H'->∃ m',m' < m/\W m' σ' H')/\tb { D with nx:=N,ct:=N,bk:=D.nx } σ H1 else D.nx σ H1
theorem qF {c:Expr}{body:List Stmt}{tc:TT}{tb:TS}(hp:Ce (model X.prog X.w) X.A X.env X.xe)(hc:PT X c tc)(hb:PSs X body tb):PS X (.While c body [] pos) (aAv tc tb):=by
 intro pins s σ H D I h;obtain ⟨W,⟨m0,w0⟩,turn⟩:=h;refine wpAny_While (codeAny_whileLoop (fun n s'=>∃ σ' H',Inv X pins σ' H' s'/\W n σ' H') ?_ m0 ⟨σ,H,I,w0⟩)
 rintro n s1 ⟨σ1,H1,I1,w1⟩
 refine DW hp (thn (hc pins s1 σ1 H1 _ I1 (turn n σ1 H1 w1)) fun b s2 ⟨H2,I2,q2⟩ => ?_);cases b with
 | true =>
  obtain ⟨N,hN,q2⟩:=q2;rw [if_pos rfl];refine DW hp (thn (hb pins s2 σ1 H2 _ I2 q2) fun f s3 q3 => ?_);cases f with
  | next =>
   obtain ⟨σ3,H3,I3,n3⟩:=q3;obtain ⟨m',hm,w3⟩:=hN σ3 H3 n3;exact ⟨m',hm,σ3,H3,I3,w3⟩
  | cont =>
   obtain ⟨σ3,H3,I3,n3⟩:=q3;obtain ⟨m',hm,w3⟩:=hN σ3 H3 n3;exact ⟨m',hm,σ3,H3,I3,w3⟩
  | brk=>exact q3
  | ret v=>exact q3
 | false =>
  rw [if_neg Az];exact Fo ⟨σ1,H2,I2,q2⟩
end
structure It where
 go:Nat->Hp->Prop
 yld:Nat->Hp->V->Hp->Prop
 stop:Nat->Hp->Prop
def FpOk (X:Cx)(pins:List (Addr × Obj))(H:Hp)(b:Addr):Prop :=
 H b=none/\b ≠ X.env.locals/\b ∉ X.fs/\(b ∈ X.ex\/X.s₀.heap.objs.size<=b)/\(∀ x c,X.env.cells.lookup x=some c->c ≠ b)/\∀ p ∈ X.pn ++ pins,p.1 ≠ b
theorem Inv.fpOk {σ:St}(I:Inv X pins σ H s)(hb:s.heap.objs.size<=b)(hn:H' b=none):FpOk X pins H' b:=by
 refine ⟨hn,Dq (AQ I.lt hb),I.nofs hb,.inr (AX I.sz hb),fun x c e z => ?_,fun p hp z => ?_⟩
 ·obtain ⟨v,q⟩:=I.cell x c e
  exact absurd (AQ q.lt (by rw [z]; exact hb)) (CB _)
 ·exact absurd (AQ (Aq (I.pin p hp).1) (by rw [z]; exact hb)) (CB _)
structure Turn (P:Ax)(w:World)(K:Aa)(tg:Expr)(J:It)(fp:List Addr)(it:Addr)(tn:Nat->Heap->Prop):Prop where
 mem:it ∈ fp
 obj : ∀ i h,tn i h->∀ b ∈ fp,∃ o,h.get? b=some o/\∀ v,o.data ≠ .cell v
 keep : ∀ i h h',tn i h->(∀ b ∈ fp,∀ o,h.get? b=some o->h'.get? b=some o)->tn i h'
 item : ∀ (X:Cx),X.prog=P->X.w=w->X.K=K->X.calm=true->∀ (i:Nat) (pins:List (Addr × Obj)) (s:Shared) (σ:St) (H:Hp) (E:Value->Shared->Prop),Inv X pins σ H s->(∀ b ∈ fp,FpOk X pins H b)->tn i s.heap->J.go i H ->
  wpAny (model P w) X.A (pyNext (.ref it)) (fun r s1=>∃ u,r=some u /\
   wpAny (model P w) X.A (Fp tg (.ref it) u) (fun _ s2=>∃ x H',Inv X pins σ H' s2/\RelV x u/\J.yld i H x H'/\tn (i+1) s2.heap/\∀ b ∈ fp,H' b=none) E s1) E s
 done : ∀ (X:Cx),X.prog=P->X.w=w->X.K=K->X.calm=true->∀ (i:Nat) (pins:List (Addr × Obj)) (s:Shared) (σ:St) (H:Hp) (E:Value->Shared->Prop),Inv X pins σ H s->(∀ b ∈ fp,FpOk X pins H b)->tn i s.heap->J.stop i H ->
  wpAny (model P w) X.A (pyNext (.ref it)) (fun r s1=>r=none/\Inv X pins σ H s1) E s
 self : ∀ (A:Around) (i:Nat) (s:Shared) (Q:Value->Shared->Prop) (E:Value->Shared->Prop),tn i s.heap->Q (.ref it) s->wpAny (model P w) A (pyIter (.ref it)) Q E s
abbrev TI:=St->Hp->(It->Hp->Prop)->Prop
def PIE (X:Cx)(pins:List (Addr × Obj))(σ:St)(tg:Expr)(R:It->Hp->Prop)(itv:Value)(s2:Shared):Prop :=
 ∃ (it:Addr) (fp:List Addr) (tn:Nat->Heap->Prop) (J:It) (H':Hp),itv = .ref it/\Inv X pins σ H' s2/\Turn X.prog X.w X.K tg J fp it tn/\tn 0 s2.heap/\(∀ b ∈ fp,FpOk X pins H' b)/\R J H'
def PI (X:Cx)(tg iter:Expr)(wi:TI):Prop :=
 ∀ (pins:List (Addr × Obj)) (s:Shared) (σ:St) (H:Hp) (R:It->Hp->Prop),Inv X pins σ H s->wi σ H R ->
  wpAny (model X.prog X.w) X.A (eval iter X.env) (fun v s1=>wpAny (model X.prog X.w) X.A (pyIter v) (PIE X pins σ tg R) X.xe s1) X.xe s
theorem wW (ho:s.heap.get? it=some o)(hc:o.cls = .type n)(hd:o.data = .fields vs)(hn:["enumerate","zip","dict_itemiterator","dict_reverseitemiterator","odict_iterator","itertools.zip_longest","itertools.pairwise"].contains n=false)(hQ:Q () s):wpAny M A (Fp tg (.ref it) u) Q E s:=by
  unfold Fp;cases tg <;> first
    | exact Af hQ
    | (cases u <;> first
        | exact Af hQ
        | (refine Ab (wpAny_load ho ?_)
           rw [hc,hd];show wpAny M A (if (["enumerate","zip","dict_itemiterator","dict_reverseitemiterator","odict_iterator","itertools.zip_longest","itertools.pairwise"].contains n && vs[0]? == some (rawInt _))=true then _ else _) Q E s;rw [if_neg (by intro h; rw [hn,Bool.false_and] at h; cases h)];exact Af hQ))
def Itl (K:Aa)(a:Addr):It :=
 ⟨fun i H=>∃ xs x,SqL K H a xs/\xs[i]?=some x,fun i H x H'=>H'=H/\∀ xs,SqL K H a xs->xs[i]?=some x,fun i H=>∃ xs,SqL K H a xs/\xs.length<=i⟩
def Itt (K:Aa)(a:Addr):It :=
 ⟨fun i H=>∃ xs x,SqT K H a xs/\xs[i]?=some x,fun i H x H'=>H'=H/\∀ xs,SqT K H a xs->xs[i]?=some x,fun i H=>∃ xs,SqT K H a xs/\xs.length<=i⟩
def Itr (lo:Int)(n:Nat):It:=⟨fun i _=>i < n,fun i H x H'=>H'=H/\x = .int (lo+i),fun i _=>n<=i⟩
theorem tQ {P:Ax}{w:World}{K:Aa}{tg:Expr}(a it:Addr):Turn P w K tg (Itl K a) [it] it (fun i h=>h.IsListIter it a i) where
 mem:=by simp
 obj:=fun i h st b hb=>by
  have e:b=it:=by simpa using hb
  subst e;obtain ⟨o,e,c,d⟩:=st;exact ⟨o,e,fun v z=>by rw [d] at z; cases z⟩
 keep:=fun i h h' st k=>st.at fun o e=>k it (by simp) o e
 item:=by
  intro X hP hw hK hc i pins s σ H E I hf st hg;subst hP hw hK;obtain ⟨xs,x,hq,hx⟩:=hg;obtain ⟨its,rv,p,hz⟩:=I.list hq;obtain ⟨u,hu,ru⟩:=rv.get hx;obtain ⟨f0,f1,f2,f3,f4,f5⟩:=hf it (by simp);refine wpAny_pyNext_list_item st p.isList (x:=u) (by simpa using hu) fun h' st' sb => ?_;have I1:Inv X pins σ H { s with heap:=h' }:=I.turned (t':=s.toks) (fun b o hb e=>(sb.2 b hb).trans e) f0 f1 f3 f4 f5;obtain ⟨o,e,c,d⟩:=id st';exact ⟨u,rfl,wW (s:={ s with heap:=h' }) e c d (by decide) ⟨x,H,I1,ru,⟨rfl,fun ys hy=>by rw [I.list_inj hy hq]; exact hx⟩,st',fun b hb=>(hf b hb).1⟩⟩
 done:=by
  intro X hP hw hK hc i pins s σ H E I hf st hg;subst hP hw hK;obtain ⟨xs,hq,hx⟩:=hg;obtain ⟨its,rv,p,hz⟩:=I.list hq;obtain ⟨f0,f1,f2,f3,f4,f5⟩:=hf it (by simp);have hl:=rv.length;exact wpAny_pyNext_list_end (I.ok.hd hc) st p.isList (by simp; omega) fun h' eb=>⟨rfl,I.turned (t':=s.toks) (fun b o hb e=>eb b o hb e) f0 f1 f3 f4 f5⟩
 self:=fun _ _ _ _ _ st h=>wpAny_pyIter_listiter st h
theorem rQ {P:Ax}{w:World}{K:Aa}{tg:Expr}(a it:Addr):Turn P w K tg (Itt K a) [it] it (fun i h=>h.IsTupleIter it a i) where
 mem:=by simp
 obj:=fun i h st b hb=>by
  have e:b=it:=by simpa using hb
  subst e;obtain ⟨o,e,c,d⟩:=st;exact ⟨o,e,fun v z=>by rw [d] at z; cases z⟩
 keep:=fun i h h' st k=>st.at fun o e=>k it (by simp) o e
 item:=by
  intro X hP hw hK hc i pins s σ H E I hf st hg;subst hP hw hK;obtain ⟨xs,x,hq,hx⟩:=hg;obtain ⟨its,rv,p,hz⟩:=I.tuple hq;obtain ⟨u,hu,ru⟩:=rv.get hx;obtain ⟨f0,f1,f2,f3,f4,f5⟩:=hf it (by simp);refine wpAny_pyNext_tuple_item st (show s.heap.IsTuple a its.toArray from p) (x:=u) (by simpa using hu) fun h' st' sb => ?_;have I1:Inv X pins σ H { s with heap:=h' }:=I.turned (t':=s.toks) (fun b o hb e=>(sb.2 b hb).trans e) f0 f1 f3 f4 f5;obtain ⟨o,e,c,d⟩:=id st';exact ⟨u,rfl,wW (s:={ s with heap:=h' }) e c d (by decide) ⟨x,H,I1,ru,⟨rfl,fun ys hy=>by rw [I.tuple_inj hy hq]; exact hx⟩,st',fun b hb=>(hf b hb).1⟩⟩
 done:=by
  intro X hP hw hK hc i pins s σ H E I hf st hg;subst hP hw hK;obtain ⟨xs,hq,hx⟩:=hg;obtain ⟨its,rv,p,hz⟩:=I.tuple hq;obtain ⟨f0,f1,f2,f3,f4,f5⟩:=hf it (by simp);have hl:=rv.length;exact wpAny_pyNext_tuple_end (I.ok.hd hc) st (show s.heap.IsTuple a its.toArray from p) (by simp; omega) fun h' eb=>⟨rfl,I.turned (t':=s.toks) (fun b o hb e=>eb b o hb e) f0 f1 f3 f4 f5⟩
 self:=fun _ _ _ _ _ st h=>wpAny_pyIter_tupleiter st h
theorem rR {P:Ax}{w:World}{K:Aa}{tg:Expr}(it:Addr)(lo:Int)(n:Nat):Turn P w K tg (Itr lo n) [it] it (fun i h=>IsRangeIter h it (lo+(i:Nat)*1) ((n:Int) - (i:Nat)) 1) where
 mem:=by simp
 obj:=fun i h st b hb=>by
  have e:b=it:=by simpa using hb
  subst e;exact ⟨_,st,fun v z=>by
   have z':Data.fields _=Data.cell v:=z;cases z'⟩
 keep:=fun i h h' st k=>k it (by simp) _ st
 item:=by
  intro X hP hw hK hc i pins s σ H E I hf st hg;subst hP hw hK;obtain ⟨f0,f1,f2,f3,f4,f5⟩:=hf it (by simp);have W:=Walks.range (prog:=X.prog) (w:=X.w) (I.ok.hd hc) it lo 1 n;refine W.item i s _ _ hg st fun v h' tk hv st' kk => ?_;obtain ⟨t,rfl⟩:=hv;have I1:Inv X pins σ H { s with heap:=h',toks:=tk }:=I.turned (fun b o hb e=>kk b o (by simpa using hb) e) f0 f1 f3 f4 f5;refine ⟨_,rfl,wW (s:={ s with heap:=h',toks:=tk }) (n := "range_iterator") st' rfl rfl (by decide) ⟨.int (lo+i),H,I1,⟨t,?_⟩,⟨rfl,rfl⟩,st',fun b hb=>(hf b hb).1⟩⟩;rw [Int.mul_one]
 done:=by
  intro X hP hw hK hc i pins s σ H E I hf st hg;subst hP hw hK;obtain ⟨f0,f1,f2,f3,f4,f5⟩:=hf it (by simp);exact wpAny_pyNext_range_end (I.ok.hd hc) st (by have:n<=i:=hg; omega) fun h' eb=>⟨rfl,I.turned (t':=s.toks) (fun b o hb e=>eb b o hb e) f0 f1 f3 f4 f5⟩
 self:=fun _ _ _ _ _ st h=>wpAny_pyIter_rangeiter st h
section
variable {X:Cx}{tg:Expr}
def aHb (K:Aa)(tl:TE):TI:=fun σ H R=>tl σ H fun x H1=>∃ a,x = .ref a/\(∃ xs,SqL K H1 a xs)/\R (Itl K a) H1
def iTup (K:Aa)(tl:TE):TI:=fun σ H R=>tl σ H fun x H1=>∃ a,x = .ref a/\(∃ xs,SqT K H1 a xs)/\R (Itt K a) H1
theorem vA {l:Expr}{tl:TE}(hl:PE X l tl):PI X tg l (aHb X.K tl):=by
 intro pins s σ H R I h;refine thn (hl pins s σ H _ I h) fun v s1 ⟨x,H1,I1,r1,q1⟩ => ?_;obtain ⟨a,e,⟨xs,hq⟩,q⟩:=q1;subst e;cases r1;obtain ⟨its,rv,p,hz⟩:=I1.list hq;refine wpAny_pyIter_list p.isList ?_;refine ⟨s1.heap.objs.size,[s1.heap.objs.size],_,_,H1,rfl,I1.kept (t':=s1.toks) fun b o e=>Ac _ e,tQ a _,⟨_,Ah _ rfl,rfl,rfl⟩,fun b hb => ?_,q⟩;have e:b=s1.heap.objs.size:=by simpa using hb
 subst e;exact I1.fpOk (Ak _) (I1.hok.fresh (Ak _))
theorem gR {l:Expr}{tl:TE}(hl:PE X l tl):PI X tg l (iTup X.K tl):=by
 intro pins s σ H R I h;refine thn (hl pins s σ H _ I h) fun v s1 ⟨x,H1,I1,r1,q1⟩ => ?_;obtain ⟨a,e,⟨xs,hq⟩,q⟩:=q1;subst e;cases r1;obtain ⟨its,rv,p,hz⟩:=I1.tuple hq;refine EB (show s1.heap.IsTuple a its.toArray from p) ?_;refine ⟨s1.heap.objs.size,[s1.heap.objs.size],_,_,H1,rfl,I1.kept (t':=s1.toks) fun b o e=>Ac _ e,rQ a _,⟨_,Ah _ rfl,rfl,rfl⟩,fun b hb => ?_,q⟩;have e:b=s1.heap.objs.size:=by simpa using hb
 subst e;exact I1.fpOk (Ak _) (I1.hok.fresh (Ak _))
theorem qE {σ:St}{lo hi:Int}{t u v:Tok}{tk:Nat}(I:Inv X pins σ H s)(h1 : -(2 ^ 62)<=lo)(h2:lo < 2 ^ 62)(h3 : -(2 ^ 62)<=hi)(h4:hi < 2 ^ 62)(q:R (Itr lo (hi - lo).toNat) H):wpAny (model X.prog X.w) X.A (pyIter (.ref s.heap.objs.size)) (PIE X pins σ tg R) E { s with heap:=s.heap.push { cls:=.type "range",data:=.fields #[.int lo t,.int hi u,.int 1 v] },toks:=tk }:=by
 refine wpAny_pyIter_range (IsRange.new ..) (small_one h1 h2 h3 h4) ?_;have I1:Inv X pins σ H { s with heap:=s.heap.push { cls:=.type "range",data:=.fields #[.int lo t,.int hi u,.int 1 v] },toks:=tk }:=I.kept fun b o e=>Ac _ e;refine ⟨(s.heap.push { cls:=.type "range",data:=.fields #[.int lo t,.int hi u,.int 1 v] }).objs.size,[(s.heap.push { cls:=.type "range",data:=.fields #[.int lo t,.int hi u,.int 1 v] }).objs.size],_,_,H,rfl,
  I1.kept (t':=tk) fun b o e=>Ac _ e,rR _ lo (hi - lo).toNat,?_,fun b hb => ?_,q⟩
 ·have e1:lo+((0:Nat):Int)*1=lo:=by simp
  have e2:(((hi - lo).toNat:Nat):Int) - ((0:Nat):Int)=AF.Range.rangeSize lo hi 1:=by rw [rangeSize_one]; split <;> omega
  show IsRangeIter _ _ (lo+((0:Nat):Int)*1) ((((hi - lo).toNat:Nat):Int) - ((0:Nat):Int)) 1;rw [e1,e2];exact Ah _ rfl
 ·have e:b=(s.heap.push { cls:=.type "range",data:=.fields #[.int lo t,.int hi u,.int 1 v] }).objs.size:=by simpa using hb
  subst e;exact I1.fpOk (Ak _) (I1.hok.fresh (Ak _))
def aHa (ta:TA):TI:=fun σ H R=>ta σ H fun vs H1=>∃ j:Int,vs=[.int j] /\ -(2 ^ 62)<=j/\j < 2 ^ 62/\R (Itr 0 j.toNat) H1
def aG9 (ta:TA):TI:=fun σ H R=>ta σ H fun vs H1=>∃ i j:Int,vs=[.int i,.int j]/\(-(2 ^ 62)<=i/\i < 2 ^ 62 /\ -(2 ^ 62)<=j/\j < 2 ^ 62)/\R (Itr i (j - i).toNat) H1
theorem dU {a:Expr}{ta:TA}{p pos:Pos}(hg:Gl X "range")(hm:X.mg "range" = none)(ha:PA X [a] ta)(hs:AS [a] X.env=[(false,eval a X.env)]:=by rfl):PI X tg (.Call (.Name "range" p) [a] [] pos) (aHa ta):=by
 intro pins s σ H R I h;refine Call_ (iZ I hg hm boot_range (Dp (thn (ha pos pins s σ H _ I h) fun us s1 ⟨vs,H1,I1,r1,q1⟩ => ?_) hs rfl));obtain ⟨j,e,q1,q2,q⟩:=q1;subst e;cases r1 with
 | cons r rr =>
  cases rr;obtain ⟨t,rfl⟩:=r;exact call_range_1 (qE I1 (by omega) (by omega) q1 q2 (by simpa using q))
theorem fR {p pos:Pos}(hg:Gl X "range")(hm:X.mg "range" = none)(ha:PA X [a,b] ta)(hs:AS [a,b] X.env=[(false,eval a X.env),(false,eval b X.env)]:=by rfl)(hs2:AS [b] X.env=[(false,eval b X.env)]:=by rfl) :
  PI X tg (.Call (.Name "range" p) [a,b] [] pos) (aG9 ta):=by
 intro pins s σ H R I h;refine Call_ (iZ I hg hm boot_range (Dp (thn (ha pos pins s σ H _ I h) fun us s1 ⟨vs,H1,I1,r1,q1⟩ => ?_) (by rw [hs,hs2]) (by rw [hs2]; rfl)));obtain ⟨i,j,e,⟨q1,q2,q3,q4⟩,q⟩:=q1;subst e;cases r1 with
 | cons r rr =>
  cases rr with
  | cons r' rr =>
   cases rr;obtain ⟨t,rfl⟩:=r;obtain ⟨t',rfl⟩:=r';exact call_range_2 (qE I1 q1 q2 q3 q4 q)
def tFor (wi:TI)(g:TG)(tb:TS):TS:=fun D σ H=>wi σ H fun J H1=>∃ W:Nat->Nat->St->Hp->Prop,(∃ m,W 0 m σ H1)/\∀ i m σ H,W i m σ H ->
 (J.stop i H/\D.nx σ H)\/(J.go i H/\∃ N:St->Hp->Prop,(∀ σ' H',N σ' H'->∃ m',m' < m/\W (i+1) m' σ' H')/\∀ x H',J.yld i H x H'->g x σ H' fun σ2 H2=>tb { D with nx:=N,ct:=N,bk:=D.nx } σ2 H2)
def jM (fp:List Addr)(h:Heap):List (Addr × Obj):=fp.filterMap fun b=>(h.get? b).map fun o=>(b,o)
theorem dQ (hb:b ∈ fp)(e:h.get? b=some o):(b,o) ∈ jM fp h:=List.mem_filterMap.mpr ⟨b,hb,by rw [e]; rfl⟩
theorem vZ {p:Addr × Obj}(hp:p ∈ jM fp h):p.1 ∈ fp/\h.get? p.1=some p.2:=by
 obtain ⟨b,hb,e⟩:=List.mem_filterMap.mp hp;cases q:h.get? b with
 | none=>rw [q] at e; cases e
 | some o =>
  rw [q] at e;have e':(b,o)=p:=AH e;subst e';exact ⟨hb,q⟩
theorem Inv.pinned {σ:St}(I:Inv X pins σ H s)(hf : ∀ b ∈ fp,FpOk X pins H b)(ho : ∀ b ∈ fp,∃ o,s.heap.get? b=some o/\∀ v,o.data ≠ .cell v):Inv X (pins ++ jM fp s.heap) σ H s :=
 I.pins_of fun p hp=>(Bi.mp hp).elim (fun z=>I.pin p (AK _ z)) fun z=>by
  obtain ⟨hb,e⟩:=vZ z;obtain ⟨f0,f1,f2,_⟩:=hf p.1 hb;obtain ⟨o,e',d⟩:=ho p.1 hb;rw [e] at e'; cases e';exact ⟨e,f0,f1,f2,d⟩
theorem Inv.unpinned {σ:St}(I:Inv X (pins ++ pl) σ H s):Inv X pins σ H s:=I.pins_of fun p hp=>I.pin p (AK _ (List.mem_append_left _ hp))
theorem dI (hp:Ce (model X.prog X.w) X.A X.env X.xe)(hc:X.calm=true)(hi:PI X tg iter wi)(hg:PG X tg g)(hb:PSs X body tb)(hs : ∀ x,EO iter X.env x=pure x:=by intro _; rfl):PS X (.For tg iter body [] pos) (tFor wi g tb):=by
 intro pins s σ H D I h;refine wpAny_For (thn (hi pins s σ H _ I h) fun v s1 h1=>thn h1 fun itv s2 h2 => ?_) hs;obtain ⟨it,fp,tn,J,H2,e,I2,T,st2,f2,W,⟨m0,w0⟩,turn⟩:=h2;subst e;have stat : ∀ {H':Hp},(∀ b ∈ fp,H' b=none)->∀ b ∈ fp,FpOk X pins H' b:=fun hn b hb=>⟨hn b hb,(f2 b hb).2⟩;refine codeAny_forLoop_any (fun n s'=>∃ i σ' H',Inv X pins σ' H' s'/\tn i s'.heap/\(∀ b ∈ fp,H' b=none)/\W i n σ' H') ?_ m0 ⟨0,σ,H2,I2,st2,fun b hb=>(f2 b hb).1,w0⟩
 rintro n s3 ⟨i,σ3,H3,I3,st3,fr3,w3⟩
 rcases turn i n σ3 H3 w3 with ⟨stop,qn⟩ | ⟨go,N,hN,step⟩
 ·refine DW hp (thn (T.done X rfl rfl rfl hc i pins s3 σ3 H3 X.xe I3 (stat fr3) st3 stop) fun r s4 ⟨hr,I4⟩ => ?_)
  subst hr;exact Fo ⟨σ3,H3,I4,qn⟩
 ·refine DW hp (thn (T.item X rfl rfl rfl hc i pins s3 σ3 H3 X.xe I3 (stat fr3) st3 go) fun r s4 ⟨u,hr,h4⟩ => ?_)
  subst hr;refine DW hp (thn h4 fun _ s5 ⟨x,H5,I5,r5,y5,st5,fr5⟩ => ?_);have I5':=I5.pinned (stat fr5) (T.obj _ _ st5);refine DW hp (thn (hg _ s5 σ3 H5 x u _ I5' r5 (step x H5 y5)) fun _ s6 ⟨σ6,H6,I6,q6⟩ => ?_);refine DW hp (thn (hb _ s6 σ6 H6 _ I6 q6) fun f s7 q7 => ?_);have again : ∀ {σ7:St} {H7:Hp},Inv X (pins ++ jM fp s5.heap) σ7 H7 s7->N σ7 H7->∃ m,m < n/\∃ i σ' H',Inv X pins σ' H' s7/\tn i s7.heap/\(∀ b ∈ fp,H' b=none)/\W i m σ' H':=fun {σ7 H7} I7 n7=>by
   obtain ⟨m',hm,w7⟩:=hN σ7 H7 n7;refine ⟨m',hm,i+1,σ7,H7,I7.unpinned,T.keep _ _ _ st5 fun b hb o e=>(I7.pin (b,o) (AK _ (AK _ (dQ hb e)))).1,fun b hb => ?_,w7⟩;obtain ⟨o,e,d⟩:=T.obj _ _ st5 b hb;exact (I7.pin (b,o) (AK _ (AK _ (dQ hb e)))).2.1
  cases f with
  | next=>obtain ⟨σ7,H7,I7,n7⟩:=q7; exact again I7 n7
  | cont=>obtain ⟨σ7,H7,I7,n7⟩:=q7; exact again I7 n7
  | brk=>obtain ⟨σ7,H7,I7,q7⟩:=q7; exact ⟨σ7,H7,I7.unpinned,q7⟩
  | ret v=>obtain ⟨x7,σ7,H7,I7,r7,q7⟩:=q7; exact ⟨x7,σ7,H7,I7.unpinned,r7,q7⟩
end
theorem aAj {K:Aa}{a:Addr}{xs:List V}{g:TG}{tb:TS}{D:Ends}{σ:St}{H:Hp}(Pv:Nat->St->Hp->Prop)(h0:Pv 0 σ H)(hl : ∀ i σ H,i<=xs.length->Pv i σ H->SqL K H a xs)
  (hs : ∀ i x σ H,xs[i]?=some x->Pv i σ H->g x σ H fun σ2 H2=>tb { D with nx:=Pv (i+1),ct:=Pv (i+1),bk:=D.nx } σ2 H2) (hd : ∀ σ H,Pv xs.length σ H->D.nx σ H) :
  ∃ W:Nat->Nat->St->Hp->Prop,(∃ m,W 0 m σ H)/\∀ i m σ H,W i m σ H ->
   ((Itl K a).stop i H/\D.nx σ H)\/((Itl K a).go i H/\∃ N:St->Hp->Prop,(∀ σ' H',N σ' H'->∃ m',m' < m/\W (i+1) m' σ' H')/\∀ x H',(Itl K a).yld i H x H'->g x σ H' fun σ2 H2=>tb { D with nx:=N,ct:=N,bk:=D.nx } σ2 H2):=by
 refine ⟨fun i m σ H=>m=xs.length - i/\i<=xs.length/\Pv i σ H,⟨xs.length,by simp,BM _,h0⟩,?_⟩
 rintro i m σ H ⟨rfl,hi,p⟩
 have q:=hl i σ H hi p
 by_cases hlt:i < xs.length
 ·refine .inr ⟨⟨xs,xs[i],q,by simp [hlt]⟩,Pv (i+1),fun σ' H' p'=>⟨xs.length - (i+1),by omega,rfl,hlt,p'⟩,fun x H' y => ?_⟩
  obtain ⟨e,y⟩:=y;subst e;exact hs i x σ _ (y xs q) p
 ·have e:i=xs.length:=by omega
  subst e;exact .inl ⟨⟨xs,q,Ak _⟩,hd σ H p⟩
theorem lF {K:Aa}{a:Addr}{xs:List V}{g:TG}{tb:TS}{D:Ends}{σ:St}{H:Hp}(Pv:Nat->St->Hp->Prop)(h0:Pv 0 σ H)(hl : ∀ i σ H,i<=xs.length->Pv i σ H->SqT K H a xs)
  (hs : ∀ i x σ H,xs[i]?=some x->Pv i σ H->g x σ H fun σ2 H2=>tb { D with nx:=Pv (i+1),ct:=Pv (i+1),bk:=D.nx } σ2 H2) (hd : ∀ σ H,Pv xs.length σ H->D.nx σ H) :
  ∃ W:Nat->Nat->St->Hp->Prop,(∃ m,W 0 m σ H)/\∀ i m σ H,W i m σ H ->
   ((Itt K a).stop i H/\D.nx σ H)\/((Itt K a).go i H/\∃ N:St->Hp->Prop,(∀ σ' H',N σ' H'->∃ m',m' < m/\W (i+1) m' σ' H')/\∀ x H',(Itt K a).yld i H x H'->g x σ H' fun σ2 H2=>tb { D with nx:=N,ct:=N,bk:=D.nx } σ2 H2):=by
 refine ⟨fun i m σ H=>m=xs.length - i/\i<=xs.length/\Pv i σ H,⟨xs.length,by simp,BM _,h0⟩,?_⟩
 rintro i m σ H ⟨rfl,hi,p⟩
 have q:=hl i σ H hi p
 by_cases hlt:i < xs.length
 ·refine .inr ⟨⟨xs,xs[i],q,by simp [hlt]⟩,Pv (i+1),fun σ' H' p'=>⟨xs.length - (i+1),by omega,rfl,hlt,p'⟩,fun x H' y => ?_⟩
  obtain ⟨e,y⟩:=y;subst e;exact hs i x σ _ (y xs q) p
 ·have e:i=xs.length:=by omega
  subst e;exact .inl ⟨⟨xs,q,Ak _⟩,hd σ H p⟩
theorem cY {lo:Int}{n:Nat}{g:TG}{tb:TS}{D:Ends}{σ:St}{H:Hp}(Pv:Nat->St->Hp->Prop)(h0:Pv 0 σ H)
  (hs : ∀ i σ H,i < n->Pv i σ H->g (.int (lo+i)) σ H fun σ2 H2=>tb { D with nx:=Pv (i+1),ct:=Pv (i+1),bk:=D.nx } σ2 H2) (hd : ∀ σ H,Pv n σ H->D.nx σ H) :
  ∃ W:Nat->Nat->St->Hp->Prop,(∃ m,W 0 m σ H)/\∀ i m σ H,W i m σ H ->
   ((Itr lo n).stop i H/\D.nx σ H)\/((Itr lo n).go i H/\∃ N:St->Hp->Prop,(∀ σ' H',N σ' H'->∃ m',m' < m/\W (i+1) m' σ' H')/\∀ x H',(Itr lo n).yld i H x H'->g x σ H' fun σ2 H2=>tb { D with nx:=N,ct:=N,bk:=D.nx } σ2 H2):=by
 refine ⟨fun i m σ H=>m=n - i/\i<=n/\Pv i σ H,⟨n,by simp,BM _,h0⟩,?_⟩
 rintro i m σ H ⟨rfl,hi,p⟩
 by_cases hlt:i < n
 ·refine .inr ⟨hlt,Pv (i+1),fun σ' H' p'=>⟨n - (i+1),by omega,rfl,hlt,p'⟩,fun x H' y => ?_⟩
  obtain ⟨e,y⟩:=y;subst e y;exact hs i σ _ hlt p
 ·have e:i=n:=by omega
  subst e;exact .inl ⟨Ak _,hd σ H p⟩
theorem pM {σ:St}(Pv:St->Hp->Prop)(μ:St->Hp->Nat)(h0:Pv σ H)(hs : ∀ σ H,Pv σ H->c σ H fun b H1=>if b=true then tb { D with nx:=fun σ' H'=>Pv σ' H'/\μ σ' H' < μ σ H,ct:=fun σ' H'=>Pv σ' H'/\μ σ' H' < μ σ H,bk:=D.nx } σ H1 else D.nx σ H1)(mono : ∀ σ H Q Q',(∀ b H1,Q b H1->Q' b H1)->c σ H Q->c σ H Q'):aAv c tb D σ H:=by
 refine ⟨fun m σ H=>m=μ σ H/\Pv σ H,⟨_,rfl,h0⟩,?_⟩
 rintro m σ H ⟨rfl,p⟩
 refine mono σ H _ _ (fun b H1 q => ?_) (hs σ H p);cases b with
 | true=>exact ⟨_,fun σ' H' ⟨p',l⟩=>⟨_,l,rfl,p'⟩,q⟩
 | false=>exact q
abbrev R2:=V->V->Hp->VK->Prop
def OpR (X:Cx)(f:Value->Value->Sem Value)(r:R2):Prop :=
 ∀ (pins:List (Addr × Obj)) (s:Shared) (σ:St) (H:Hp) (x y:V) (v u:Value) (Q:VK),Inv X pins σ H s->RelV x v->RelV y u->r x y H Q ->
  wpAny (model X.prog X.w) X.A (f v u) (EP X pins σ Q) X.xe s
def UnR (X:Cx)(f:Value->Sem Value)(r:V->Hp->VK->Prop):Prop :=
 ∀ (pins:List (Addr × Obj)) (s:Shared) (σ:St) (H:Hp) (x:V) (v:Value) (Q:VK),Inv X pins σ H s->RelV x v->r x H Q ->
  wpAny (model X.prog X.w) X.A (f v) (EP X pins σ Q) X.xe s
def eQ (X:Cx)(f:Value)(r:List V->Hp->VK->Prop):Prop :=
 ∀ (pins:List (Addr × Obj)) (s:Shared) (σ:St) (H:Hp) (xs:List V) (us:List Value) (Q:VK),Inv X pins σ H s->Vals xs us->r xs H Q ->
  wpAny (model X.prog X.w) X.A (call f us) (EP X pins σ Q) X.xe s
def TruR (X:Cx)(r:V->Hp->(Bool->Hp->Prop)->Prop):Prop :=
 ∀ (pins:List (Addr × Obj)) (s:Shared) (σ:St) (H:Hp) (x:V) (v:Value) (Q:Bool->Hp->Prop),Inv X pins σ H s->RelV x v->r x H Q ->
  wpAny (model X.prog X.w) X.A (truthy v) (TP X pins σ Q) X.xe s
def tOp (r:R2)(ta tb:TE):TE:=fun σ H Q=>ta σ H fun x H1=>tb σ H1 fun y H2=>r x y H2 Q
def tUn (r:V->Hp->VK->Prop)(ta:TE):TE:=fun σ H Q=>ta σ H fun x H1=>r x H1 Q
def rI (C:Int->Int->Prop)(g:Int->Int->V):R2:=fun x y H Q=>∃ i j,x = .int i/\y = .int j/\C i j/\Q (g i j) H
def rI0 (g:Int->Int->V):R2:=fun x y H Q=>∃ i j,x = .int i/\y = .int j/\Q (g i j) H
def rU (g:Int->V):V->Hp->VK->Prop:=fun x H Q=>∃ i,x = .int i/\Q (g i) H
section
variable {X:Cx}{a b c:Expr}{ta tb tc:TE}{pos:Pos}
theorem binT (ha:PE X a ta)(hb:PE X b tb){pins:List (Addr × Obj)}{s:Shared}{σ:St}{H:Hp}{R:V->V->Hp->Prop}(I:Inv X pins σ H s)
  (h:ta σ H fun x H1=>tb σ H1 fun y H2=>R x y H2) {Q:Value->Shared->Prop} {f:Value->Value->Sem Value}
  (hf : ∀ v u s2 x y H2,Inv X pins σ H2 s2->RelV x v->RelV y u->R x y H2->wpAny (model X.prog X.w) X.A (f v u) Q X.xe s2) :
  wpAny (model X.prog X.w) X.A (eval a X.env) (fun v s₁=>wpAny (model X.prog X.w) X.A (eval b X.env) (fun u s₂=>wpAny (model X.prog X.w) X.A (f v u) Q X.xe s₂) X.xe s₁) X.xe s:=by
 refine thn (ha pins s σ H _ I h) fun v s1 ⟨x,H1,I1,r1,q1⟩ => ?_;refine thn (hb pins s1 σ H1 _ I1 q1) fun u s2 ⟨y,H2,I2,r2,q2⟩ => ?_;exact hf v u s2 x y H2 I2 r1 r2 q2
theorem aK {op:Operator}{r:R2}(ho:OpR X (Eb op) r)(ha:PE X a ta)(hb:PE X b tb):PE X (.BinOp a op b pos) (tOp r ta tb):=by
 intro pins s σ H Q I h;exact wpAny_BinOp (binT ha hb I h fun v u s2 x y H2 I2 rx ry q=>ho pins s2 σ H2 x y v u Q I2 rx ry q)
theorem opI {C:Int->Int->Prop}{g:Int->Int->Int}(rule : ∀ (i j:Int) (t u:Tok) (s:Shared) (Q:Value->Shared->Prop) (E:Value->Shared->Prop),C i j->Q (.int (g i j) s.toks) { s with toks:=s.toks+1 }->wpAny (model X.prog X.w) X.A (f (.int i t) (.int j u)) Q E s) :
  OpR X f (rI C fun i j=>.int (g i j)):=by
 intro pins s σ H x y v u Q I rx ry h;obtain ⟨i,j,rfl,rfl,hc,q⟩:=h;obtain ⟨t,rfl⟩:=rx;obtain ⟨t',rfl⟩:=ry;exact rule i j t t' s _ _ hc ⟨.int (g i j),H,I.tok _,⟨_,rfl⟩,q⟩
theorem opI0 {g:Int->Int->Int}(rule : ∀ (i j:Int) (t u:Tok) (s:Shared) (Q:Value->Shared->Prop) (E:Value->Shared->Prop),Q (.int (g i j) s.toks) { s with toks:=s.toks+1 }->wpAny (model X.prog X.w) X.A (f (.int i t) (.int j u)) Q E s) :
  OpR X f (rI0 fun i j=>.int (g i j)):=by
 intro pins s σ H x y v u Q I rx ry h;obtain ⟨i,j,rfl,rfl,q⟩:=h;obtain ⟨t,rfl⟩:=rx;obtain ⟨t',rfl⟩:=ry;exact rule i j t t' s _ _ ⟨.int (g i j),H,I.tok _,⟨_,rfl⟩,q⟩
theorem opB0 {g:Int->Int->Bool}(rule : ∀ (i j:Int) (t u:Tok) (s:Shared) (Q:Value->Shared->Prop) (E:Value->Shared->Prop),Q (.bool (g i j)) s->wpAny (model X.prog X.w) X.A (f (.int i t) (.int j u)) Q E s) :
  OpR X f (rI0 fun i j=>.bl (g i j)):=by
 intro pins s σ H x y v u Q I rx ry h;obtain ⟨i,j,rfl,rfl,q⟩:=h;obtain ⟨t,rfl⟩:=rx;obtain ⟨t',rfl⟩:=ry;exact rule i j t t' s _ _ ⟨.bl (g i j),H,I,rfl,q⟩
def CDiv (i j:Int):Prop:=0 < j/\j < 1073741824
def CDivN (i j:Int):Prop:=j ≠ 0/\j.natAbs < 1073741824
def CPow (i j:Int):Prop:=0<=j/\j<=1000000/\i.natAbs < 2 ^ 64
def CMul (i j:Int):Prop:=(-(2 ^ 64) < i/\i < 2 ^ 64)\/(-(2 ^ 64) < j/\j < 2 ^ 64)
theorem CMul.ok {i j:Int}(h:CMul i j):IntMulOk i j:=by
 rcases h with ⟨h1,h2⟩ | ⟨h1,h2⟩
 ·exact .of_left (intBits_le_64 h1 h2)
 ·exact .of_right (intBits_le_64 h1 h2)
theorem bC:OpR X (Eb .Add) (rI0 fun i j=>.int (i+j)):=opI0 fun _ _ _ _ _ _ _ q=>add_int q
theorem jQ:OpR X (Eb .Sub) (rI0 fun i j=>.int (i - j)):=opI0 fun _ _ _ _ _ _ _ q=>sub_int q
theorem aA7:OpR X (Eb .Mult) (rI CMul fun i j=>.int (i*j)):=opI fun _ _ _ _ _ _ _ hc q=>mul_int q hc.ok
theorem bD:OpR X (Eb .Mod) (rI (fun _ j=>0 < j) fun i j=>.int (i % j)):=opI fun i j _ _ _ _ _ hc q=>by
 have h1:(0:Int) < j:=hc;exact mod_int' (by omega) (by rw [Int.fmod_eq_emod_of_nonneg i (by omega)]; exact q)
end
def scal:V->V->Bool
 | .non,.non=>true | .non,.int _=>true | .int _,.non=>true | .non,.bl _=>true | .bl _,.non=>true | .non,.str _=>true | .str _,.non=>true
 | .int _,.int _=>true | .bl _,.bl _=>true | .str _,.str _=>true | .byt _,.byt _=>true
 | .int _,.str _=>true | .str _,.int _=>true | .bl _,.str _=>true | .str _,.bl _=>true
 | _,_=>false
def rEq:R2:=fun x y H Q=>scal x y=true/\Q (.bl (decide (x=y))) H
def rNe:R2:=fun x y H Q=>scal x y=true/\Q (.bl (!decide (x=y))) H
theorem xI {i j:Int}:decide (V.int i=V.int j)=(i == j):=by
 rw [DI];simp
theorem aBn {i j:Bool}:decide (V.bl i=V.bl j)=(i == j):=by
 rw [DI];simp
theorem xH :decide (V.str i=V.str j)=(i == j):=by
 rw [DI];simp
theorem xJ :decide (V.byt i=V.byt j)=(i.toList == j.toList):=by
 rw [DI];cases i;cases j;simp
section
variable {X:Cx}{a b c:Expr}{ta tb tc:TE}{pos:Pos}
theorem bP {σ:St}{k k':Bool}(I:Inv X pins σ H s)(q:Q (.bl k) H)(e:k=k'):EP X pins σ Q (.bool k') s:=by
 subst e;exact ⟨.bl k,H,I,rfl,q⟩
theorem cJ:OpR X (BI .Eq) rEq:=by
 intro pins s σ H x y v u Q I rx ry h;obtain ⟨hs,q⟩:=h;cases x with
 | non =>
  cases rx;cases y with
  | non=>cases ry; exact PySem.EqNone.eq_none_none (bP I q (by simp))
  | bl j=>cases ry; exact PySem.EqNone.eq_none_bool (bP I q (by simp))
  | int j=>obtain ⟨t',rfl⟩:=ry; exact PySem.EqNone.eq_none_int (bP I q (by simp))
  | str j=>obtain ⟨t',rfl⟩:=ry; exact PySem.EqNone.eq_none_str (bP I q (by simp))
  | _=>exact absurd (show false=true from hs) Az
 | bl i =>
  cases rx;cases y with
  | non=>cases ry; exact PySem.EqNone.eq_bool_none (bP I q (by simp))
  | bl j=>cases ry; exact eq_bool (bP I q aBn)
  | str j=>obtain ⟨t',rfl⟩:=ry; exact PySem.EqMixed.eq_bool_str (bP I q (by simp))
  | _=>exact absurd (show false=true from hs) Az
 | int i =>
  obtain ⟨t,rfl⟩:=rx;cases y with
  | non=>cases ry; exact PySem.EqNone.eq_int_none (bP I q (by simp))
  | int j=>obtain ⟨t',rfl⟩:=ry; exact eq_int (bP I q xI)
  | str j=>obtain ⟨t',rfl⟩:=ry; exact PySem.EqMixed.eq_int_str (bP I q (by simp))
  | _=>exact absurd (show false=true from hs) Az
 | str i =>
  obtain ⟨t,rfl⟩:=rx;cases y with
  | non=>cases ry; exact PySem.EqNone.eq_str_none (bP I q (by simp))
  | bl j=>cases ry; exact PySem.EqMixed.eq_str_bool (bP I q (by simp))
  | int j=>obtain ⟨t',rfl⟩:=ry; exact PySem.EqMixed.eq_str_int (bP I q (by simp))
  | str j=>obtain ⟨t',rfl⟩:=ry; exact eq_str (bP I q xH)
  | _=>exact absurd (show false=true from hs) Az
 | byt i =>
  obtain ⟨t,rfl⟩:=rx;cases y with
  | byt j=>obtain ⟨t',rfl⟩:=ry; exact PySem.W.eq_bytes (bP I q xJ)
  | _=>exact absurd (show false=true from hs) Az
 | _=>cases y <;> exact absurd (show false=true from hs) Az
theorem mJ:OpR X (BI .NotEq) rNe:=by
 intro pins s σ H x y v u Q I rx ry h;obtain ⟨hs,q⟩:=h;cases x with
 | non =>
  cases rx;cases y with
  | non=>cases ry; exact PySem.EqNone.ne_none_none (bP I q (by simp))
  | bl j=>cases ry; exact PySem.EqNone.ne_none_bool (bP I q (by simp))
  | int j=>obtain ⟨t',rfl⟩:=ry; exact PySem.EqNone.ne_none_int (bP I q (by simp))
  | str j=>obtain ⟨t',rfl⟩:=ry; exact PySem.EqNone.ne_none_str (bP I q (by simp))
  | _=>exact absurd (show false=true from hs) Az
 | bl i =>
  cases rx;cases y with
  | non=>cases ry; exact PySem.EqNone.ne_bool_none (bP I q (by simp))
  | bl j=>cases ry; exact ne_bool (bP I q (congrArg not aBn))
  | str j=>obtain ⟨t',rfl⟩:=ry; exact PySem.EqMixed.ne_bool_str (bP I q (by simp))
  | _=>exact absurd (show false=true from hs) Az
 | int i =>
  obtain ⟨t,rfl⟩:=rx;cases y with
  | non=>cases ry; exact PySem.EqNone.ne_int_none (bP I q (by simp))
  | int j=>obtain ⟨t',rfl⟩:=ry; exact ne_int (bP I q (congrArg not xI))
  | str j=>obtain ⟨t',rfl⟩:=ry; exact PySem.EqMixed.ne_int_str (bP I q (by simp))
  | _=>exact absurd (show false=true from hs) Az
 | str i =>
  obtain ⟨t,rfl⟩:=rx;cases y with
  | non=>cases ry; exact PySem.EqNone.ne_str_none (bP I q (by simp))
  | bl j=>cases ry; exact PySem.EqMixed.ne_str_bool (bP I q (by simp))
  | int j=>obtain ⟨t',rfl⟩:=ry; exact PySem.EqMixed.ne_str_int (bP I q (by simp))
  | str j=>obtain ⟨t',rfl⟩:=ry; exact ne_str (bP I q (congrArg not xH))
  | _=>exact absurd (show false=true from hs) Az
 | byt i =>
  obtain ⟨t,rfl⟩:=rx;cases y with
  | byt j=>obtain ⟨t',rfl⟩:=ry; exact PySem.W.ne_bytes (bP I q (congrArg not xJ))
  | _=>exact absurd (show false=true from hs) Az
 | _=>cases y <;> exact absurd (show false=true from hs) Az
theorem vL:OpR X (BI .Lt) (rI0 fun i j=>.bl (decide (i < j))):=opB0 fun _ _ _ _ _ _ _ q=>lt_int q
theorem aCz:OpR X (BI .LtE) (rI0 fun i j=>.bl (decide (i<=j))):=opB0 fun _ _ _ _ _ _ _ q=>le_int q
theorem aE6:OpR X (BI .Gt) (rI0 fun i j=>.bl (decide (j < i))):=opB0 fun _ _ _ _ _ _ _ q=>gt_int q
theorem aE7:OpR X (BI .GtE) (rI0 fun i j=>.bl (decide (j<=i))):=opB0 fun _ _ _ _ _ _ _ q=>ge_int q
theorem vM:OpR X (BI .In) (fun x y H Q=>∃ i j,x = .str i/\y = .str j/\Q (.bl (!(AF.Str.occurrences j i 0 j.length 1).isEmpty)) H):=by
 intro pins s σ H x y v u Q I rx ry h;obtain ⟨i,j,rfl,rfl,q⟩:=h;obtain ⟨t,rfl⟩:=rx;obtain ⟨t',rfl⟩:=ry;exact in_str (bP I q rfl)
theorem aA8:OpR X (BI .Is) (fun x y H Q=>y = .non/\Q (.bl (decide (x = .non))) H):=by
 intro pins s σ H x y v u Q I rx ry h;obtain ⟨rfl,q⟩:=h;cases ry;refine is_none_gen (bP I q ?_);cases x <;> first
  | (cases rx; rfl)
  | (obtain ⟨t,rfl⟩:=rx; rfl)
theorem oQ:OpR X (BI .IsNot) (fun x y H Q=>y = .non/\Q (.bl (!decide (x = .non))) H):=by
 intro pins s σ H x y v u Q I rx ry h;obtain ⟨rfl,q⟩:=h;cases ry;refine isnot_none_gen (bP I q ?_);cases x <;> first
  | (cases rx; rfl)
  | (obtain ⟨t,rfl⟩:=rx; rfl)
def isObj:HO->Bool
 | .lst _=>true
 | .ins _ _ _=>true
 | _=>false
theorem aU (b:Expr)(h:op ≠ .In:=by decide)(h2:op ≠ .NotIn:=by decide):behindInMarks op b=false:=by
 have e1:(op == CmpOp.In)=false:=by cases op <;> first | rfl | exact absurd rfl h
 have e2:(op == CmpOp.NotIn)=false:=by cases op <;> first | rfl | exact absurd rfl h2
 cases b <;> simp [behindInMarks,e1,e2]
theorem dB {op:CmpOp}{r:R2}(ho:OpR X (BI op) r)(ha:PE X a ta)(hb:PE X b tb)(hm:behindInMarks op b=false):PE X (.Compare a [op] [b] pos) (tOp r ta tb):=by
 intro pins s σ H Q I h;exact wpAny_Compare1 (binT ha hb I h fun v u s2 x y H2 I2 rx ry q=>ho pins s2 σ H2 x y v u Q I2 rx ry q) hm
def aGb (t:TE):TT:=fun σ H Q=>t σ H fun x H'=>∃ k,x = .bl k/\Q k H'
theorem aQ {r:R2}(ho:OpR X (BI op) r)(ha:PE X a ta)(hb:PE X b tb)(hm:behindInMarks op b=false):PT X (.Compare a [op] [b] pos) (aGb (tOp r ta tb)):=by
 intro pins s σ H Q I h;refine wpAny_isTrue_Compare1 (thn (ha pins s σ H _ I h) fun v s1 ⟨x,H1,I1,r1,q1⟩=>thn (hb pins s1 σ H1 _ I1 q1) fun u s2 ⟨y,H2,I2,r2,q2⟩ =>
  thn (ho pins s2 σ H2 x y v u _ I2 r1 r2 q2) fun c s3 ⟨z,H3,I3,r3,k,e,q3⟩ => ?_) hm
 subst e;cases r3;exact Ds ⟨H3,I3,q3⟩
def aEf (r r':R2)(ta tb tc:TE):TE:=fun σ H Q=>ta σ H fun x H1=>tb σ H1 fun y H2=>r x y H2 fun z H3=>∃ k,z = .bl k /\
 (if k=true then tc σ H3 fun w' H4=>r' y w' H4 Q else Q (.bl false) H3)
theorem qL {r r':R2}(ho:OpR X (BI op) r)(ho':OpR X (BI op') r')(ha:PE X a ta)(hb:PE X b tb)(hc:PE X c tc)(hm:lastMarks [op,op'] [b,c]=false:=by with_unfolding_all rfl):PE X (.Compare a [op,op'] [b,c] pos) (aEf r r' ta tb tc):=by
 intro pins s σ H Q I h;refine Compare_chain (thn (ha pins s σ H _ I h) fun v s1 ⟨x,H1,I1,r1,q1⟩=>chain_link (thn (hb pins s1 σ H1 _ I1 q1) fun u s2 ⟨y,H2,I2,r2,q2⟩ =>
  thn (ho pins s2 σ H2 x y v u _ I2 r1 r2 q2) fun d s3 ⟨z,H3,I3,r3,k,e,q3⟩ => ?_)) hm
 subst e;cases r3;refine Ds ?_;cases k with
 | false=>exact ite_ff ⟨.bl false,H3,I3,rfl,q3⟩
 | true=>exact ite_tt (chain_last (thn (hc pins s3 σ H3 _ I3 q3) fun w' s4 ⟨z',H4,I4,r4,q4⟩=>ho' pins s4 σ H4 y z' u w' Q I4 r2 r4 q4))
def TruV (K:Aa)(x:V)(H:Hp)(k:Bool):Prop :=
 match x with
 | .non=>k=false
 | .bl b=>k=b
 | .int i=>k=(i != 0)
 | .str y=>y.length<=Aw/\k=((y.length:Int) != 0)
 | .byt y=>y.size<=Aw/\k=((y.size:Int) != 0)
 | .ref p=>(∃ xs,SqL K H p xs/\k = !xs.isEmpty)\/(∃ xs,SqT K H p xs/\k = !xs.isEmpty)\/∃ kvs,H p=some (.dK kvs)/\k = !kvs.isEmpty
 | _=>False
theorem jU:(Aw:Nat) < 2 ^ 63:=by rw [sizeLine_eq]; decide
theorem eY:OpR X (Eb .Add) (fun x y H Q=>∃ i j,x = .str i/\y = .str j/\i.length+j.length<=Aw/\Q (.str (i ++ j)) H):=by
 intro pins s σ H x y v u Q I rx ry h;obtain ⟨i,j,rfl,rfl,hz,q⟩:=h;obtain ⟨t,rfl⟩:=rx;obtain ⟨t',rfl⟩:=ry;exact add_str (fun t' tk=>⟨.str (i ++ j),H,I.tok _,⟨_,rfl⟩,q⟩) hz
def PlainIxT (b:Expr):Prop:=∀ o i,subscripted b false o i=operate [o,i] (getItem o i)
theorem vals1 (r:Vals [x] us) : ∃ u,us=[u]/\RelV x u:=by
 cases r with
 | cons r1 r2=>cases r2; exact ⟨_,rfl,r1⟩
theorem vals2 (r:Vals [x,y] us) : ∃ u w',us=[u,w']/\RelV x u/\RelV y w':=by
 cases r with
 | cons r1 r2 =>
  cases r2 with
  | cons r3 r4=>cases r4; exact ⟨_,_,rfl,r1,r3⟩
theorem gB:eQ X (.builtin "abs") (fun xs H Q=>∃ i,xs=[.int i]/\Q (.int (if i < 0 then -i else i)) H):=by
 intro pins s σ H xs us Q I r h;obtain ⟨i,rfl,q⟩:=h;obtain ⟨u,rfl,t,rfl⟩:=vals1 r;exact call_abs_int fun u tk=>⟨.int (if i < 0 then -i else i),H,I.tok _,⟨_,rfl⟩,q⟩
theorem nG (hc:X.calm=true):eQ X (.builtin "min") (fun xs H Q=>∃ i j,xs=[.int i,.int j]/\Q (.int (if j < i then j else i)) H):=by
 intro pins s σ H xs us Q I r h;obtain ⟨i,j,rfl,q⟩:=h;obtain ⟨u,w',rfl,⟨t,rfl⟩,⟨t',rfl⟩⟩:=vals2 r;refine min_two_ints (I.ok.hd hc) fun h' tk k=>⟨_,H,I.kept k,?_,q⟩
 by_cases hj:j < i
 ·rw [if_pos hj,if_pos hj]; exact ⟨_,rfl⟩
 ·rw [if_neg hj,if_neg hj]; exact ⟨_,rfl⟩
theorem xV:eQ X (.type "int") (fun xs H Q=>(∃ i,xs=[.int i]/\Q (.int i) H)\/∃ k,xs=[.bl k]/\Q (.int (if k then 1 else 0)) H):=by
 intro pins s σ H xs us Q I r h
 rcases h with ⟨i,rfl,q⟩ | ⟨k,rfl,q⟩
 ·obtain ⟨u,rfl,t,rfl⟩:=vals1 r
  exact call_int_int ⟨.int i,H,I,⟨_,rfl⟩,q⟩
 ·obtain ⟨u,rfl,r1⟩:=vals1 r
  cases r1;exact call_int_bool ⟨.int (if k then 1 else 0),H,I.tok _,⟨_,rfl⟩,q⟩
def LenV (K:Aa)(x:V)(H:Hp)(n:Nat):Prop :=
 match x with
 | .str y=>y.length<=Aw/\n=y.length
 | .byt y=>y.size<=Aw/\n=y.size
 | .ref p=>(∃ xs,SqL K H p xs/\n=xs.length)\/∃ xs,SqT K H p xs/\n=xs.length
 | _=>False
end
structure ObjM (h:Heap)(x dx C:Addr)(mA:Str->Option Value):Prop where
 obj:h.get? x=some (Dg C dx)
 ns:h.Ns1 dx mA
 ne:dx ≠ x
theorem wI {h:Heap}{dx:Addr}{mA:Str->Option Value}(n:h.Ns1 dx mA) : ∃ od,h.get? dx=some od/\∀ name,PySem.W.lookIn name od=some (mA name):=by
 obtain ⟨o,es,ep,ho,hd,hk,_,hm⟩:=n;refine ⟨o,ho,fun name => ?_⟩;have e:=hm name;unfold nsFind findBy at e;rw [<- Array.find?_toList] at e;unfold PySem.W.lookIn;rw [hd];dsimp only;split
 ·rename_i y q
  rw [q] at e;exact congrArg some e
 ·rename_i q
  rw [q] at e;have a:es.toList.any (·.refKey)=false:=by
   rw [List.any_eq_false];intro y hy;obtain ⟨z,t,hkey⟩:=hk y (Array.mem_toList_iff.mp hy);simp [DictEntry.refKey,hkey]
  have a' : ¬ es.toList.any (·.refKey)=true:=by rw [a]; exact Az
  rw [if_neg a'];exact congrArg some e
theorem ObjM.look (I:ObjM h x dx C mA) : ∃ od,PySem.W.InstAt h x (Dg C dx) C (some od)/\∀ name,PySem.W.lookIn name od=some (mA name) :=
 let ⟨od,ho,hl⟩:=wI I.ns
 ⟨od,⟨I.obj,rfl,rfl,ho⟩,hl⟩
section
variable {prog:Ax}{w:World}{A:Around}{E:Value->Shared->Prop}{s:Shared}{K:Aa}{x dx C f:Addr}{mA:Str->Option Value}{name:Str}{v:Value}
theorem get_map {expr:Bool}(X:K.In s.heap)(I:ObjM s.heap x dx C mA)(hg:PySem.W.plainGet K C name=true)(hh:PySem.W.hasDictIn K C=true)(ha:Bb K (.ref C) name=some none)(hv:mA name=some v)(hv':PySem.W.handedIn v=true)(h:Q v { s with toks:=s.toks+1 }) :
  wpAny (model prog w) A (getAttr (.ref x) name expr) Q E s:=by
 obtain ⟨od,J,hl⟩:=I.look;exact PySem.W.get_value X J (PySem.W.plainGet_of hg).1 (PySem.W.findObj_own hh ha rfl (by rw [hl,hv])) hv' h
theorem aAh (X:K.In s.heap)(I:ObjM s.heap x dx C mA)(hg:PySem.W.plainGet K C name=true)(hf:Bb K (.ref C) name=some (some (.ref f)))(ht:PySem.W.isFn K (.ref f)=true)(hv:mA name=none)(h:Q (.ref f,[.ref x]) s) :
  wpAny (model prog w) A (getMethod (.ref x) name pl) Q E s:=by
 obtain ⟨od,J,hl⟩:=I.look;exact PySem.W.method_fn X J (PySem.W.plainGet_of hg).1 (PySem.W.plainGet_of hg).2 hf (beq_iff_eq.mp ht) (by show (PySem.W.lookIn name od).map (·.isSome)=some false; rw [hl,hv]; rfl) h
theorem aB9 (X:K.In s.heap)(I:ObjM s.heap x dx C mA)(hs:Bb K (.ref C) "__setattr__" = some (some (.builtin "object.__setattr__")))(hp:PySem.W.plainOver K C=true)(ht:PySem.W.takerIn K C name=some none)(hh:PySem.W.hasDictIn K C=true)(hw:PySem.Within mA ns)(hsz:ns.length<=Aw)(h : ∀ h',ObjM h' x dx C (fun y=>if y=name then some v else mA y)->Ci dx s.heap h'->Q () { s with heap:=h',toks:=s.toks+2 }) :
  wpAny (model prog w) A (setAttr (.ref x) name v) Q E s:=by
 obtain ⟨od,J,hl⟩:=I.look;refine PySem.W.set_plain X J hs (PySem.W.osa_open (s:={ s with toks:=s.toks+1 }) (r:=none) X J hp ht fun b => ?_);obtain ⟨cd,hc,hd'⟩:=PySem.W.any_some hh;have hx:s.heap.get? x=some ⟨.ref C,some dx,.plain,#[]⟩:=I.obj;refine Ab (Af (Ab (Ab (wpAny_loadPart hx (Ab (PySem.W.Looks.here (s:={ s with toks:=s.toks+1 }) (PySem.W.looks_clsIn X hc) ?_))))));rw [hd'];refine Af (a:=some dx) (Ab (Af (Ab ?_)));refine wpAny_nsSet1 (s:={ s with toks:=s.toks+1 }) I.ns fun h' hn2 hs2 => ?_;obtain ⟨oD,esD,epD,hoD,hdD,hcD⟩:=hn2.count (PySem.Within.cons name v hw);refine Ab (wpAny_lookBehind hoD (by rw [hdD]; exact pastItsLine_dict (AX hcD (by rw [AG]; omega))) ?_);exact Af (h _ ⟨(hs2.2 _ (AM I.ne)).trans I.obj,hn2,I.ne⟩ hs2)
theorem aAa {kw:List (Str × Value)}(X:K.In s.heap)(hm:PySem.W.makesIn K C=true)(hi:Bb K (.ref C) "__init__" = some (some (.ref f)))(hf:PySem.W.typeIn K (.ref f)=some (.type "function"))(h:DJ (model prog w) (A.under (.builtin "type.__call__" ⟨.ref C :: vs,kw⟩)) (.call (.ref f) ⟨.ref (s.heap.objs.size+1) :: vs,kw⟩) (PySem.W.InitBack (s.heap.objs.size+1) R)
   { s with heap:=(s.heap.push Ct).push (Dg C s.heap.objs.size) }) :
  DJ (model prog w) A (.call (.ref C) ⟨vs,kw⟩) R s:=by
 obtain ⟨hh,g,d,t,os⟩:=s;exact PySem.W.make_core (PySem.W.makes_of X hm) (PySem.W.looks_findIn X hi) (fun self=>PySem.W.bind_fn X self hf) (.inl rfl) h
end
def putF (f:Str)(v:V):List (Str × V)->List (Str × V)
  | []=>[(f,v)]
  | (g,x) :: r=>if g=f then (g,v) :: r else (g,x) :: putF f v r
theorem bQ (f g:Str)(v:V) : ∀ fs:List (Str × V),(putF f v fs).lookup g=if g=f then some v else fs.lookup g
  | []=>by
    show Dr g [(f,v)]=_
    by_cases h:g=f
    · have hb:(g == f)=true:=beq_iff_eq.mpr h;simp only [Dr,hb,if_pos h]
    · have hb:(g == f)=false:=beq_eq_false_iff_ne.mpr h;simp only [Dr,hb,if_neg h]
  | (k,x) :: r=>by
    have ih:=bQ f g v r;rw [show putF f v ((k,x) :: r)=(if k=f then (k,v) :: r else (k,x) :: putF f v r) from rfl]
    by_cases hk:k=f
    · rw [if_pos hk]
      by_cases h:g=k
      · have hb:(g == k)=true:=beq_iff_eq.mpr h;simp only [Dr,hb,if_pos (h.trans hk)]
      · have hb:(g == k)=false:=beq_eq_false_iff_ne.mpr h;simp only [Dr,hb,if_neg (fun e:g=f=>h (e.trans hk.symm))]
    · rw [if_neg hk]
      by_cases h:g=k
      · have hb:(g == k)=true:=beq_iff_eq.mpr h;simp only [Dr,hb,if_neg (fun e:g=f=>hk (h.symm.trans e))]
      · have hb:(g == k)=false:=beq_eq_false_iff_ne.mpr h;simp only [Dr,hb];exact ih
theorem jA (f:Str)(v:V) : ∀ fs:List (Str × V),f ∈ (putF f v fs).map (·.1)/\∀ g,g ∈ fs.map (·.1)->g ∈ (putF f v fs).map (·.1)
  | []=>⟨by simp [putF],fun g h=>by simp at h⟩
  | (k,x) :: r=>by
    obtain ⟨i1,i2⟩:=jA f v r;rw [show putF f v ((k,x) :: r)=(if k=f then (k,v) :: r else (k,x) :: putF f v r) from rfl]
    by_cases hk:k=f
    · rw [if_pos hk];subst hk;exact ⟨by simp,fun g h=>by simpa using h⟩
    · rw [if_neg hk];refine ⟨?_,fun g h => ?_⟩
      · rw [Ai];exact Al _ i1
      · rw [Ai] at h ⊢
        rcases AD.mp h with e | e
        · exact AD.mpr (.inl e)
        · exact Al _ (i2 g e)
theorem iY (f:Str)(v:V) : ∀ fs:List (Str × V),(putF f v fs).length<=fs.length+1
  | []=>by simp [putF]
  | (k,x) :: r=>by
    have ih:=iY f v r;rw [show putF f v ((k,x) :: r)=(if k=f then (k,v) :: r else (k,x) :: putF f v r) from rfl]
    by_cases hk:k=f
    · rw [if_pos hk,AG,AG]; omega
    · rw [if_neg hk,AG,AG]; omega
theorem RelO.some_of (r:RelO (some v) o) : ∃ u,o=some u/\RelV v u:=by
 cases o with
 | none=>exact (show False from r).elim
 | some u=>exact ⟨u,rfl,r⟩
theorem RelO.none_of (r:RelO none o):o=none:=by
 cases o with
 | none=>rfl
 | some u=>exact (show False from r).elim
theorem mV (r:RelV v u):PySem.W.handedIn u=true:=by
 cases v with
 | non=>cases (show u=BP from r); rfl
 | bl b=>cases (show u=Value.bool b from r); rfl
 | int i=>obtain ⟨t,e⟩:=(show ∃ t,u=Value.int i t from r); cases e; rfl
 | str x=>obtain ⟨t,e⟩:=(show ∃ t,u=Value.str x t from r); cases e; rfl
 | byt b=>obtain ⟨t,e⟩:=(show ∃ t,u=Value.bytes b t from r); cases e; rfl
 | flt b=>obtain ⟨t,e⟩:=(show ∃ t,u=Value.float b t from r); cases e; rfl
 | ref a=>cases (show u=AC a from r); rfl
 | ty n=>cases (show u=CT n from r); rfl
section
variable {P:Ax}{w:World}{H H':Hp}{h h':Heap}{a C dx:Addr}{fs fs':List (Str × V)}
theorem oY (hok:HOk P w H h)(e:H a=some (.ins C dx fs)) : ∃ mA,ObjM h a dx C mA/\(∀ f,RelO (fs.lookup f) (mA f))/\PySem.Within mA (fs.map (·.1))/\fs.length<=1000/\H dx=some (.own a):=by
 obtain ⟨d,z,ne,ob,mA,n,r,q⟩:=(show ObjOk P w H h a (.ins C dx fs) from hok a _ e);exact ⟨mA,⟨ob,n,ne⟩,r,q,z,d⟩
end
structure Cls (K:Aa)(C:Addr):Prop where
 pg:PySem.W.plainGet K C Str.empty=true
 hd:PySem.W.hasDictIn K C=true
 po:PySem.W.plainOver K C=true
 sa:Bb K (.ref C) "__setattr__" = some (some (.builtin "object.__setattr__"))
theorem Cls.get {K:Aa}{C:Addr}(c:Cls K C)(f:Str):PySem.W.plainGet K C f=true:=c.pg
def NoAttr (K:Aa)(C:Addr)(f:Str):Prop:=Bb K (.ref C) f=some none
theorem NoAttr.taker {K:Aa}{C:Addr}{f:Str}(n:NoAttr K C f):PySem.W.takerIn K C f=some none:=by
 unfold PySem.W.takerIn;rw [show Bb K (.ref C) f=some none from n];rfl
structure Con (K:Aa)(C:Addr)(f:Str)(v:V)(u:Value):Prop where
 at_:Bb K (.ref C) f=some (some u)
 rel:RelV v u
 get:PySem.W.specialIn K u "__get__" = some none
 cp:PySem.W.copiedNames.contains f=false
structure Meth (K:Aa)(C:Addr)(m:Str)(f:Addr):Prop where
 at_:Bb K (.ref C) m=some (some (.ref f))
 fn:PySem.W.isFn K (.ref f)=true
 kp:Cw K (.ref f)=true
section
variable {X:Cx}{pins:List (Addr × Obj)}{σ:St}{H:Hp}{s:Shared}{a C dx:Addr}{fs:List (Str × V)}{f:Str}{v:V}{A:Around}{E:Value->Shared->Prop}
theorem sZ {b:Bool}(I:Inv X pins σ H s)(e:H a=some (.ins C dx fs))(c:Cls X.K C)(n:NoAttr X.K C f)(l:fs.lookup f=some v)(h : ∀ u s',Inv X pins σ H s'->RelV v u->Q u s'):wpAny (model X.prog X.w) A (getAttr (.ref a) f b) Q E s:=by
 obtain ⟨mA,O,r,_,_,_⟩:=oY I.hok e;obtain ⟨u,hu,ru⟩:=RelO.some_of (v:=v) (o:=mA f) (by rw [<- l]; exact r f);exact get_map I.kIn O (c.get f) c.hd n hu (mV ru) (h u _ (I.tok _) ru)
theorem sY (I:Inv X pins σ H s)(e:H a=some (.ins C dx fs))(c:Cls X.K C)(k:Meth X.K C m g)(l:fs.lookup m=none)(h:Q (.ref g,[.ref a]) s):wpAny (model X.prog X.w) A (getMethod (.ref a) m pl) Q E s:=by
 obtain ⟨mA,O,r,_,_,_⟩:=oY I.hok e;have hn:mA m=none:=RelO.none_of (by rw [<- l]; exact r m);exact aAh I.kIn O (c.get m) k.at_ k.fn hn h
theorem rV (I:Inv X pins σ H s)(e:H a=some (.ins C dx fs))(c:Cls X.K C)(n:NoAttr X.K C f)(hl:fs.length < 1000)(ry:RelV y u)(h : ∀ s',Inv X pins σ (upd H a (.ins C dx (putF f y fs))) s'->Q () s'):wpAny (model X.prog X.w) A (setAttr (.ref a) f u) Q E s:=by
 obtain ⟨mA,O,r,wi,_,ho⟩:=oY I.hok e;have hz:(fs.map (·.1)).length<=Aw:=by rw [Ag,sizeLine_eq]; omega
 refine aB9 I.kIn O c.sa c.po n.taker c.hd wi hz fun h' O' sb=>h _ ?_;have hd : ∃ o,h'.get? dx=some o:=let ⟨o,_,_,e',_⟩:=O'.ns; ⟨o,e'⟩;refine I.write (x:=a) (e:=dx) (by rw [e]; exact Dx) (.inr ho) (fun b q hb z=>(sb.2 b hb).trans z) hd ?_;refine ⟨by rw [aI O.ne]; exact ho,?_,O.ne,O'.obj,_,O'.ns,fun g => ?_,fun g hg => ?_⟩
 ·have:=iY f y fs; omega
 ·show RelO ((putF f y fs).lookup g) (if g=f then some u else mA g)
  rw [bQ]
  by_cases q:g=f
  ·rw [if_pos q,if_pos q]; exact ry
  ·rw [if_neg q,if_neg q]; exact r g
 ·by_cases q:g=f
  ·rw [q]; exact (jA f y fs).1
  ·refine (jA f y fs).2 g (wi g fun z=>hg ?_)
   show (if g=f then some u else mA g)=none;rw [if_neg q]; exact z
theorem Inv.made (I:Inv X pins σ H s):Inv X pins σ (upd (upd H s.heap.objs.size (.own (s.heap.objs.size+1))) (s.heap.objs.size+1) (.ins C s.heap.objs.size []))
  { s with heap:=(s.heap.push Ct).push (Dg C s.heap.objs.size) }:=by
 have e1:(s.heap.push Ct).get? s.heap.objs.size=some Ct:=Ah s.heap rfl;have e2:((s.heap.push Ct).push (Dg C s.heap.objs.size)).get? (s.heap.objs.size+1)=some (Dg C s.heap.objs.size):=by
  have:=Ah (s.heap.push Ct) (o:=Dg C s.heap.objs.size) rfl;rwa [BE] at this
 have e3:(s.heap.push Ct).Ns s.heap.objs.size (fun _=>none):=⟨Ct,#[],_,e1,rfl,(fun e he=>absurd he (by simp)),fun _=>rfl⟩;have I1:=I.laid (a:=s.heap.objs.size) (o:=.own (s.heap.objs.size+1)) (h':=s.heap.push Ct) (t':=s.toks) (fun b u q=>Ac _ q) (Ak _) ⟨_,e1⟩;refine I1.laid (a:=s.heap.objs.size+1) (o:=.ins C s.heap.objs.size []) (t':=s.toks) (fun b u q=>Ac _ q) (Nat.le_of_eq (BE _ _)) ?_;have ne:s.heap.objs.size ≠ s.heap.objs.size+1:=Av (Co _);refine ⟨by rw [aI ne,aB],BM _,ne,e2,fun _=>none,(Heap.Ns1.of_empty e3).at fun o q=>Ac _ q,fun _=>Dx,fun y hy=>absurd rfl hy⟩
theorem yA {w:World}(hb:Ed e f env (eval e env)=eval e env)(h:wpAny (model prog w) A (eval e env) (fun o s₁=>wpAny (model prog w) A (getAttr o f true) Q E s₁) E s):wpAny (model prog w) A (eval (.Attribute e f pos) env) Q E s :=
 Attribute_any_ h (by rw [arm_eval_Attribute,hb])
end
def tFld (K:Aa)(ta:TE)(f:Str):TE:=fun σ H Q=>ta σ H fun x H1=>∃ a C dx fs v,x = .ref a/\H1 a=some (.ins C dx fs)/\Cls K C/\NoAttr K C f/\fs.lookup f=some v/\Q v H1
def tCon (K:Aa)(ta:TE)(f:Str):TE:=fun σ H Q=>ta σ H fun x H1=>∃ a C dx fs v u,x = .ref a/\H1 a=some (.ins C dx fs)/\Cls K C/\Con K C f v u/\fs.lookup f=none/\Q v H1
def sFld (K:Aa)(ta tv:TE)(f:Str):TS:=fun D σ H=>tv σ H fun y H1=>ta σ H1 fun x H2=>∃ a C dx fs,x = .ref a/\H2 a=some (.ins C dx fs)/\Cls K C/\NoAttr K C f/\fs.length < 1000 /\
 D.nx σ (upd H2 a (.ins C dx (putF f y fs)))
def InOp (X:Cx)(op:Operator)(rd:V->V->Hp->VK->Prop):Prop :=
 ∀ (pins:List (Addr × Obj)) (s:Shared) (σ:St) (H:Hp) (x y:V) (u v:Value) (Q:VK),Inv X pins σ H s->RelV x u->RelV y v->rd x y H Q->wpAny (model X.prog X.w) X.A (inplaceOp op u v) (EP X pins σ Q) X.xe s
def sFldAug (K:Aa)(ta tv:TE)(rd:V->V->Hp->VK->Prop)(f:Str):TS:=fun D σ H=>ta σ H fun x H1=>∃ a C dx fs v,x = .ref a/\H1 a=some (.ins C dx fs)/\Cls K C/\NoAttr K C f/\fs.lookup f=some v /\
 tv σ H1 fun y H2=>rd v y H2 fun z H3=>∃ dx' fs',H3 a=some (.ins C dx' fs')/\fs'.length < 1000/\D.nx σ (upd H3 a (.ins C dx' (putF f z fs')))
section
variable {X:Cx}{o e value:Expr}{f:Str}{pos pos' tpos:Pos}{ta tv:TE}
theorem jO (he:PE X e ta)(hb:Ed e f X.env (eval e X.env)=eval e X.env):PE X (.Attribute e f pos) (tFld X.K ta f):=by
 intro pins s σ H Q I h;refine yA hb (thn (he pins s σ H _ I h) fun u s1 ⟨x,H1,I1,rx,a,C,dx,fs,v,ex,ea,c,n,l,q⟩ => ?_);subst ex;obtain rfl:u=AC a:=rx;exact sZ I1 ea c n l fun u' s2 I2 ru=>⟨v,H1,I2,ru,q⟩
theorem uQ (ha:PE X o ta)(hv:PE X value tv)(hs:swapsWith value (some (.Attribute o f pos')) pos.line X.env=pure false):PS X (.Assign [.Attribute o f pos'] value pos) (sFld X.K ta tv f):=by
 intro pins s σ H D I h;refine EN (thn (hv pins s σ H _ I h) fun u s1 ⟨y,H1,I1,ry,q⟩=>thn (ha pins s1 σ H1 _ I1 q) fun ov s2 ⟨x,H2,I2,rx,a,C,dx,fs,ex,ea,c,n,l,q2⟩ => ?_) hs;subst ex;obtain rfl:ov=AC a:=rx;exact rV I2 ea c n l ry fun s3 I3=>⟨σ,_,I3,q2⟩
def rAdd:V->V->Hp->VK->Prop:=fun x y H Q=>∃ i j,x = .int i/\y = .int j/\Q (.int (i+j)) H
def rSub:V->V->Hp->VK->Prop:=fun x y H Q=>∃ i j,x = .int i/\y = .int j/\Q (.int (i - j)) H
end
section
variable {X:Cx}{pins:List (Addr × Obj)}{σ:St}{H:Hp}{s:Shared}{A:Around}{E:Value->Shared->Prop}{Q:Value->Shared->Prop}{c:Value}{b:Bool}
inductive TyOf (K:Aa)(H:Hp):V->Value->Prop where
 | non:TyOf K H .non (.type "NoneType")
 | bl (x:Bool):TyOf K H (.bl x) (.type "bool")
 | int (i:Int):TyOf K H (.int i) (.type "int")
 | str (x:Str):TyOf K H (.str x) (.type "str")
 | flt (x:UInt64):TyOf K H (.flt x) (.type "float")
 | lst {a:Addr} {xs:List V} (e:H a=some (.lst xs)):TyOf K H (.ref a) (.type "list")
 | frz {a:Addr} {o:Obj} {xs:List V} (e:H a=some (.frz o (.lst xs))):TyOf K H (.ref a) (.type "list")
 | tup {a:Addr} {xs:List V} (e:H a=some (.tup xs)):TyOf K H (.ref a) (.type "tuple")
 | dK {a:Addr} {kvs:List (Key × V)} (e:H a=some (.dK kvs)):TyOf K H (.ref a) (.type "dict")
 | dT {a:Addr} {kvs:List (List Key × V)} (e:H a=some (.dT kvs)):TyOf K H (.ref a) (.type "dict")
 | ins {a C dx:Addr} {fs:List (Str × V)} (e:H a=some (.ins C dx fs)) (cl:Cls K C) (ha:Bb K (.ref C) "__class__" = some (some (.builtin "object.__class__")))
   (hn:PySem.W.specialIn K (.builtin "object.__class__") "__get__" = some (some (.builtin "getset_descriptor.__get__"))) (htk:PySem.W.takesIn K (.builtin "object.__class__")=some true)
   (hm:PySem.W.mroIn K C (.type "object")=some true):TyOf K H (.ref a) (.ref C)
end
structure Room (k:Nat)(A:Around):Prop where
 hd:A.handled=none
 dp:A.depth+3*k+5 < recursionLimit
 un:A.units+16*k+200 < cLine
 gd:A.guards=some []
theorem Room.mono {j k:Nat}(r:Room k A)(h:j<=k):Room j A:=⟨r.hd,by have:=r.dp; omega,by have:=r.un; omega,r.gd⟩
theorem Room.deeper {k:Nat}(r:Room (k+1) A)(env:Env):Room k (A.deeper env) :=
 ⟨r.hd,by have:=r.dp; show A.depth+1+3*k+5 < _; omega,by have:=r.un; show A.units+3+16*k+200 < _; omega,r.gd⟩
theorem sS {A:Around}{C:Addr}{us:List Value}{kw:List (Str × Value)}:(A.under (.builtin "type.__call__" ⟨.ref C :: us,kw⟩)).depth=A.depth+1:=by
 first | rfl | simp [Around.under,Code.weight,Code.isCreation,Code.isGuard,Code.isCaller,Code.frames,Code.isFrame,guardIds]
theorem sR {A:Around}{C:Addr}{us:List Value}{kw:List (Str × Value)}:(A.under (.builtin "type.__call__" ⟨.ref C :: us,kw⟩)).units=A.units+1:=by
 first | rfl | simp [Around.under,Code.cUnits,Code.frames,Code.isFrame]
theorem oU {A:Around}{C:Addr}{us:List Value}{kw:List (Str × Value)}:(A.under (.builtin "type.__call__" ⟨.ref C :: us,kw⟩)).guards=A.guards:=by
 first | rfl | (cases h:A.guards <;> simp [Around.under,Code.guards,Code.isGuard,guardIds,pushGuards,h])
theorem Room.make {k:Nat}{A:Around}(r:Room (k+1) A)(C:Addr)(us:List Value)(kw:List (Str × Value)):Room k (A.under (.builtin "type.__call__" ⟨.ref C :: us,kw⟩)) :=
 ⟨r.hd,by have:=r.dp; rw [sS]; omega,by have:=r.un; rw [sR]; omega,by rw [oU]; exact r.gd⟩
theorem Room.depth {k:Nat}(r:Room k A):A.depth < recursionLimit:=by have:=r.dp; omega
theorem Room.units {k:Nat}(r:Room k A):A.units+64 < cLine:=by have:=r.un; omega
def tNil:TA:=fun _ H Q=>Q [] H
def aEe (ta:TE)(tr:TA):TA:=fun σ H Q=>ta σ H fun x H1=>tr σ H1 fun xs H2=>Q (x :: xs) H2
section
variable {X:Cx}{e:Expr}{es:List Expr}{te:TE}{t:TA}{pos:Pos}
theorem aD:PA X [] tNil:=fun _ _ _ _ H Q I h=>Calls.spliced_nil ⟨[],H,I,.nil,h⟩
theorem aA (ha:PE X e te)(hr:PA X es t)(hs:AS (e :: es) X.env=(false,eval e X.env) :: AS es X.env:=by rfl):PA X (e :: es) (aEe te t):=by
 intro pos pins s σ H Q I h;rw [hs];show wpAny _ _ (spliced ((false,eval e X.env) :: backTo pos (AS es X.env))) _ _ s;refine El (thn (ha pins s σ H _ I h) fun u s1 ⟨x,H1,I1,r1,q1⟩ => ?_);exact thn (hr pos pins s1 σ H1 _ I1 q1) fun us s2 ⟨xs,H2,I2,r2,q2⟩=>⟨x :: xs,H2,I2,.cons r1 r2,q2⟩
def tTup (t:TA):TE:=fun σ H Q=>t σ H fun xs H1=>xs.length<=Aw/\∀ p,H1 p=none->Q (.ref p) (upd H1 p (.tup xs))
def tLst (t:TA):TE:=fun σ H Q=>t σ H fun xs H1=>xs.length<=Aw/\∀ p,H1 p=none->Q (.ref p) (upd H1 p (.lst xs))
theorem aW {x1}(h:PA X es t):PE X (.Tuple es x1 pos) (tTup t):=by
 intro pins s σ H Q I hq;refine wpAny_Tuple_spliced (thn (h pos pins s σ H _ I hq) fun us s1 ⟨xs,H1,I1,r,z,q⟩=>⟨by rw [<- r.length]; exact z,?_⟩);have hf:H1 s1.heap.objs.size=none:=I1.hok.fresh (Ak _);refine ⟨.ref s1.heap.objs.size,upd H1 s1.heap.objs.size (.tup xs),I1.laid (t':=s1.toks) (fun b u e=>Ac _ e) (Ak _) ?_,rfl,q _ hf⟩;exact ⟨⟨z,_,Ah _ rfl,rfl⟩,us,r,⟨_,Ah _ rfl,rfl,_,rfl⟩⟩
theorem dD (h:PA X es t):PE X (.List es pos) (tLst t):=by
 intro pins s σ H Q I hq;refine wpAny_List_spliced (thn (h pos pins s σ H _ I hq) fun us s1 ⟨xs,H1,I1,r,z,q⟩=>⟨by rw [<- r.length]; exact z,?_⟩);have hf:H1 s1.heap.objs.size=none:=I1.hok.fresh (Ak _);refine ⟨.ref s1.heap.objs.size,upd H1 s1.heap.objs.size (.lst xs),I1.laid (t':=s1.toks) (fun b u e=>Ac _ e) (Ak _) ?_,rfl,q _ hf⟩;exact ⟨z,us,0,r,Ah _ rfl⟩
end
abbrev Sp:=List V->Hp->VK->XK->Prop
abbrev CXT:=List Env->Hp->Shared->XK->Value->Shared->Prop
structure Env0 (P:Ax)(w:World)(K:Aa)(mg:Str->Option Value)(base:Heap)(A:Around)(outer:List Env)(s:Shared)(H:Hp):Prop where
 frames:A.frames=some outer
 mod:Mod K mg base
 bs : ∀ b o,base.get? b=some o->s.heap.get? b=some o/\H b=none
 bsz:base.objs.size<=s.heap.objs.size
 funs:s.heap.FunFrames base outer
 frf : ∀ b ∈ frs outer,H b=none
 hok:HOk P w H s.heap
 bare:AllBare s.gens
def CE (outer:List Env)(P:Ax)(w:World)(H:Hp)(s:Shared)(Q:VK)(u:Value)(s':Shared):Prop :=
 ∃ v H',s'.os=s.os/\AllBare s'.gens/\Un (frs outer) [] H H' s.heap s'.heap/\HOk P w H' s'.heap/\RelV v u/\Q v H'
def CR (CX:CXT)(outer:List Env)(P:Ax)(w:World)(H:Hp)(s:Shared)(Q:VK)(E:XK)(r:Result)(s':Shared):Prop :=
 match r with
 | .ok (.ret u)=>CE outer P w H s Q u s'
 | .ok _=>False
 | .error e=>CX outer H s E e s'
structure FnOk (P:Ax)(w:World)(K:Aa)(mg:Str->Option Value)(base:Heap)(CX:CXT)(k:Nat)(f:Addr)(fd:Bf)(ps:List Str)(sp:Sp):Prop where
 len : ∀ vs H Q E,sp vs H Q E->vs.length=ps.length
 run : ∀ (A:Around) (outer:List Env) (s:Shared) (H:Hp) (args:Args) (us:List Value) (vs:List V) (Q:VK) (E:XK),Room k A->Env0 P w K mg base A outer s H->BindsTo s fd args (ps.zip us)->Vals vs us->sp vs H Q E ->
  DJ (model P w) A (.call (.ref f) args) (CR CX outer P w H s Q E) s
theorem FnOk.mono {P:Ax}{w:World}{K:Aa}{mg:Str->Option Value}{base:Heap}{CX:CXT}{j k:Nat}{f:Addr}{fd:Bf}{ps:List Str}{sp:Sp}(F:FnOk P w K mg base CX j f fd ps sp)(h:j<=k) :
  FnOk P w K mg base CX k f fd ps sp:=⟨F.len,fun A outer s H args us vs Q E hr=>F.run A outer s H args us vs Q E (hr.mono h)⟩
theorem Env0.make {P:Ax}{w:World}{K:Aa}{mg:Str->Option Value}{base:Heap}{A:Around}{outer:List Env}{s:Shared}{H:Hp}(e:Env0 P w K mg base A outer s H)(C:Addr)(us:List Value)(kw:List (Str × Value)) :
    Env0 P w K mg base (A.under (.builtin "type.__call__" ⟨.ref C :: us,kw⟩)) outer s H:=⟨by first | exact e.frames | (simpa [Around.under,Code.envs,Code.isFrame,pushEnvs] using e.frames),e.mod,e.bs,e.bsz,e.funs,e.frf,e.hok,e.bare⟩
section
variable {X:Cx}{pins:List (Addr × Obj)}{σ:St}{H:Hp}{s s':Shared}
theorem Inv.env0 (I:Inv X pins σ H s):Env0 X.prog X.w X.K X.mg X.base X.A X.stack s H :=
 ⟨I.ok.frames,I.ok.mod,I.bs,AX I.ok.bsz I.sz,I.stack,I.stkFree,I.hok,I.bare⟩
theorem Inv.after (I:Inv X pins σ H s)(h:CE X.stack X.prog X.w H s Q u s'):EP X pins σ Q u s':=by
 obtain ⟨v,H',os,bare,un,hok,r,q⟩:=h;obtain ⟨hh,g,d,t,os'⟩:=s';obtain rfl:os'=s.os:=os;exact ⟨v,H',I.call (h':=hh) (g':=g) (d':=d) (t':=t) (ch:=[]) un hok bare (fun b z=>absurd z (by simp)),r,q⟩
end
def aB1 (sp:Sp)(dvs:List V)(E:XK)(t:TA):TE:=fun σ H Q=>t σ H fun vs H1=>sp (vs ++ dvs) H1 Q E
def tMeth (C:Addr)(m:Str)(sp:Sp)(dvs:List V)(E:XK)(ta:TE)(t:TA):TE:=fun σ H Q=>ta σ H fun x H1=>∃ a dx fs,x = .ref a/\H1 a=some (.ins C dx fs)/\fs.lookup m=none /\
 t σ H1 fun vs H2=>sp (x :: (vs ++ dvs)) H2 Q E
def aGf (C:Addr)(sp:Sp)(dvs:List V)(E:XK)(t:TA):TE:=fun σ H Q=>t σ H fun vs H1=>∀ x dx,H1 x=none->H1 dx=none->dx ≠ x ->
 sp (.ref x :: (vs ++ dvs)) (upd (upd H1 dx (.own x)) x (.ins C dx [])) (fun v H2=>v = .non/\Q (.ref x) H2) E
def Binds (K:Aa)(fd:Bf)(ps:List Str)(ds:List Value):Prop :=
 ∀ (s:Shared) (us:List Value),K.In s.heap->(us ++ ds).length=ps.length->BindsTo s fd ⟨us,[]⟩ (ps.zip (us ++ ds))
theorem Binds.all {K:Aa}{fd:Bf}{ps:List Str}(h : ∀ us:List Value,us.length=ps.length->bindArgs fd ⟨us,[]⟩=pure (ps.zip us)):Binds K fd ps []:=fun s us _ hl=>by
 rw [BZ] at hl ⊢;exact .of_eq (h us hl)
def gZ (CX:CXT)(X:Cx)(E:XK):Prop:=∀ (pins:List (Addr × Obj)) (σ:St) (H:Hp) (s:Shared) (e:Value) (s':Shared),Inv X pins σ H s->CX X.stack H s E e s'->X.xe e s'
section
variable {X:Cx}{CX:CXT}{k:Nat}{f C:Addr}{fd:Bf}{ps:List Str}{sp:Sp}{dvs:List V}{ds:List Value}{E:XK}{x m:Str}{p pos apos:Pos}{e o:Expr}{es:List Expr}{ta:TE}{t:TA}
theorem aA0 {σ:St}(F:FnOk X.prog X.w X.K X.mg X.base CX k f fd ps sp)(hr:Room k X.A)(hb:Binds X.K fd ps ds)(hd:Vals dvs ds)(hx:gZ CX X E)(I:Inv X pins σ H s)(r:Vals vs us)(h:sp (vs ++ dvs) H Q E):wpAny (model X.prog X.w) X.A (call (.ref f) us) (EP X pins σ Q) X.xe s:=by
 have r2:Vals (vs ++ dvs) (us ++ ds):=r.append hd;have hl:(us ++ ds).length=ps.length:=by rw [<- r2.length]; exact F.len _ _ _ _ h
 refine Ew (Ck (F.run X.A X.stack s H ⟨us,[]⟩ (us ++ ds) (vs ++ dvs) Q E hr I.env0 (hb s us I.kIn hl) r2 h) fun r s' hq => ?_);cases r with
 | error e=>exact hx pins σ H s e s' I hq
 | ok fl =>
  cases fl with
  | ret u=>exact I.after hq
  | next=>exact CD hq
  | brk=>exact CD hq
  | cont=>exact CD hq
theorem aCu (F:FnOk X.prog X.w X.K X.mg X.base CX k f fd ps sp)(hr:Room k X.A)(hg:Gl X x)(hm:X.mg x=some (.ref f))(hk:Cw X.K (.ref f)=true)(hb:Binds X.K fd ps ds)(hd:Vals dvs ds)(hx:gZ CX X E)
  (ha:PA X (e :: es) t) (hdb:(x == ("__debug__" : Str))=false:=by decide) (he:AS (e :: es) X.env=(false,eval e X.env) :: AS es X.env:=by rfl) (hpl:(backTo pos (AS es X.env)).any (·.1)=false:=by rfl) :
  PE X (.Call (.Name x p) (e :: es) [] pos) (aB1 sp dvs E t):=by
 intro pins s σ H Q I h;refine Dk (eU I hg hm ?_ hdb);refine Eh (h₀:=X.base) I.ok.mod.kin hk (thn (ha pos pins s σ H _ I h) fun us s1 ⟨vs,H1,I1,r,q⟩=>⟨I1.kIn,?_⟩) he hpl;exact aA0 F hr hb hd hx I1 r q
structure Mk (K:Aa)(C f:Addr):Prop where
 makes:PySem.W.makesIn K C=true
 init:Bb K (.ref C) "__init__" = some (some (.ref f))
 fn:PySem.W.isFn K (.ref f)=true
 kp:Cw K (.ref C)=true
theorem yY {σ:St}(M:Mk X.K C f)(F:FnOk X.prog X.w X.K X.mg X.base CX k f fd ps sp)(hr:Room (k+1) X.A)(hb:Binds X.K fd ps ds)(hd:Vals dvs ds)(hx:gZ CX X E)(I:Inv X pins σ H s)(r:Vals vs us)(h : ∀ x dx,H x=none->H dx=none->dx ≠ x->sp (.ref x :: (vs ++ dvs)) (upd (upd H dx (.own x)) x (.ins C dx [])) (fun v H2=>v = .non/\Q (.ref x) H2) E) :
  wpAny (model X.prog X.w) X.A (call (.ref C) us) (EP X pins σ Q) X.xe s:=by
 have hq:=h (s.heap.objs.size+1) s.heap.objs.size (I.hok.fresh (Dh _)) (I.hok.fresh (Ak _)) (Av (Co _));have I2:=Inv.made (C:=C) I;have r2:Vals (V.ref (s.heap.objs.size+1) :: (vs ++ dvs)) (AC (s.heap.objs.size+1) :: (us ++ ds)):=.cons rfl (r.append hd);have hl:(AC (s.heap.objs.size+1) :: us ++ ds).length=ps.length:=by
  have e:=r2.length;rw [F.len _ _ _ _ hq] at e;exact e.symm
 refine Ew (aAa (f:=f) I.kIn M.makes M.init (beq_iff_eq.mp M.fn) (Ck (F.run _ X.stack _ _ ⟨AC (s.heap.objs.size+1) :: us,[]⟩ (AC (s.heap.objs.size+1) :: (us ++ ds)) _ _ E (hr.make C us [])
  (I2.env0.make C us []) (hb _ (AC (s.heap.objs.size+1) :: us) I2.kIn hl) r2 hq) fun r s' hq' => ?_))
 cases r with
 | error e=>exact hx pins σ _ _ e s' I2 hq'
 | ok fl =>
  cases fl with
  | ret u =>
   obtain ⟨v,H',I3,rv,ev,q3⟩:=I2.after hq';subst ev;exact ⟨rv,⟨V.ref (s.heap.objs.size+1),H',I3,rfl,q3⟩⟩
  | next=>exact CD hq'
  | brk=>exact CD hq'
  | cont=>exact CD hq'
theorem aCr (M:Mk X.K C f)(F:FnOk X.prog X.w X.K X.mg X.base CX k f fd ps sp)(hr:Room (k+1) X.A)(hg:Gl X x)(hm:X.mg x=some (.ref C))(hb:Binds X.K fd ps ds)(hd:Vals dvs ds)(hx:gZ CX X E)
  (ha:PA X (e :: es) t) (hdb:(x == ("__debug__" : Str))=false:=by decide) (he:AS (e :: es) X.env=(false,eval e X.env) :: AS es X.env:=by rfl) (hpl:(backTo pos (AS es X.env)).any (·.1)=false:=by rfl) :
  PE X (.Call (.Name x p) (e :: es) [] pos) (aGf C sp dvs E t):=by
 intro pins s σ H Q I h;refine Dk (eU I hg hm ?_ hdb);refine Eh (h₀:=X.base) I.ok.mod.kin M.kp (thn (ha pos pins s σ H _ I h) fun us s1 ⟨vs,H1,I1,r,q⟩=>⟨I1.kIn,?_⟩) he hpl;exact yY M F hr hb hd hx I1 r q
end
def PK (X:Cx)(kws:List Keyword)(t:TA):Prop :=
 ∀ (pos:Pos) (pins:List (Addr × Obj)) (s:Shared) (σ:St) (H:Hp) (Q:List V->Hp->Prop),Inv X pins σ H s->t σ H Q->wpAny (model X.prog X.w) X.A (evalAll ((backToKw pos (keywordEach kws X.env)).map (·.2))) (AP X pins σ Q) X.xe s
section
variable {X:Cx}{CX:CXT}{k:Nat}{f C:Addr}{fd:Bf}{ps ks:List Str}{sp:Sp}{E:XK}{x m:Str}{p pos apos kpos:Pos}{e o:Expr}{es:List Expr}{kws:List Keyword}{te ta:TE}{t tk:TA}{nm:Option Str}
structure KBinds (K:Aa)(fd:Bf)(ps ks:List Str)(g:List Value->List Value->List Value)(gV:List V->List V->List V):Prop where
 to : ∀ (s:Shared) (us ws:List Value),K.In s.heap->(g us ws).length=ps.length->BindsTo s fd ⟨us,ks.zip ws⟩ (ps.zip (g us ws))
 rel : ∀ {vs:List V} {us:List Value} {zs:List V} {ws:List Value},Vals vs us->Vals zs ws->Vals (gV vs zs) (g us ws)
def tCallK (sp:Sp)(gV:List V->List V->List V)(E:XK)(t tk:TA):TE:=fun σ H Q=>t σ H fun vs H1=>tk σ H1 fun zs H2=>sp (gV vs zs) H2 Q E
variable {g:List Value->List Value->List Value}{gV:List V->List V->List V}
end
structure FnScope (N P:List Str)(sc:Scope):Prop where
 kind:sc.kind = .function
 co:sc.isCoroutine=false
 gen:sc.isGenerator=false
 nd:N.Nodup
 pre:N.take P.length=P
 par : ∀ x ∈ P,sc.names.lookup x=some .local\/sc.names.lookup x=some .cell
 nofree : ∀ y ∈ sc.names,y.2 ≠ .free
theorem fnScOk {N P:List Str}{sc:Scope}(h:(sc.kind==.function&&!sc.isCoroutine&&!sc.isGenerator&&decide N.Nodup&&decide (N.take P.length=P)&&P.all (fun x=>sc.names.lookup x==some .local||sc.names.lookup x==some .cell)&&sc.names.all fun y=>y.2!=.free)=true):FnScope N P sc:=by
 simp only [Cc,decide_eq_true_eq,CG,Bool.or_eq_true,beq_iff_eq,bne_iff_ne,Bool.not_eq_true'] at h
 exact ⟨h.1.1.1.1.1.1,h.1.1.1.1.1.2,h.1.1.1.1.2,h.1.1.1.2,h.1.1.2,h.1.2,h.2⟩
theorem nO {kindOf:Str->Option Be}{x:Str} : ∀ {binds:List (Str × Value)} {m:Str->Option Value},(∀ v,(x,v) ∉ binds)->bindL kindOf binds m x=m x
  | [],_,_=>rfl
  | (n,v) :: r,m,h=>by
    unfold bindL;rw [nO fun w hw=>h w (Al _ hw)];split
    · have:x ≠ n:=by rintro rfl; exact h v Au
      simp [this]
    · rfl
theorem nQ {kindOf:Str->Option Be}{x:Str} : ∀ {binds:List (Str × Value)} {m:Str->Option Value},(∀ v,(x,v) ∉ binds)->bindC kindOf binds m x=m x
  | [],_,_=>rfl
  | (n,v) :: r,m,h=>by
    unfold bindC;rw [nQ fun w hw=>h w (Al _ hw)];split
    · rfl
    · have:x ≠ n:=by rintro rfl; exact h v Au
      simp [this]
theorem nP {kindOf:Str->Option Be}{x:Str}{v:Value} : ∀ {P:List Str} {vs:List Value} {i:Nat} {m:Str->Option Value},P.Nodup->P[i]?=some x->vs[i]?=some v->kindOf x=some .local ->
  bindL kindOf (P.zip vs) m x=some v
 | [],_,_,_,_,h,_,_=>by simp at h
 | _ :: _,[],_,_,_,_,h,_=>by simp at h
 | p :: P,w :: vs,0,m,nd,h1,h2,hk=>by
  simp at h1 h2; subst h1; subst h2;show bindL kindOf ((p,w) :: P.zip vs) m p=_;unfold bindL;rw [nO fun v hv=>(BJ.mp nd).1 (En hv).1,if_pos hk];simp
 | p :: P,w :: vs,i+1,m,nd,h1,h2,hk=>by
  show bindL kindOf ((p,w) :: P.zip vs) m x=_;unfold bindL;exact nP (i:=i) (BJ.mp nd).2 (by simpa using h1) (by simpa using h2) hk
theorem nR {kindOf:Str->Option Be}{x:Str}{v:Value} : ∀ {P:List Str} {vs:List Value} {i:Nat} {m:Str->Option Value},P.Nodup->P[i]?=some x->vs[i]?=some v->kindOf x ≠ some .local ->
  bindC kindOf (P.zip vs) m x=some v
 | [],_,_,_,_,h,_,_=>by simp at h
 | _ :: _,[],_,_,_,_,h,_=>by simp at h
 | p :: P,w :: vs,0,m,nd,h1,h2,hk=>by
  simp at h1 h2; subst h1; subst h2;show bindC kindOf ((p,w) :: P.zip vs) m p=_;unfold bindC;rw [nQ fun v hv=>(BJ.mp nd).1 (En hv).1,if_neg hk];simp
 | p :: P,w :: vs,i+1,m,nd,h1,h2,hk=>by
  show bindC kindOf ((p,w) :: P.zip vs) m x=_;unfold bindC;exact nR (i:=i) (BJ.mp nd).2 (by simpa using h1) (by simpa using h2) hk
def start (N:List Str)(vs:List V):St:=vs.map some ++ CL (N.length - vs.length) none
def cxOf (CX:CXT)(P:Ax)(w:World)(K:Aa)(mg:Str->Option Value)(base:Heap)(N:List Str)(qual:Str)(scope:Scope)(f:Addr)(cd:Value)(A:Around)(outer:List Env)(s:Shared)(H:Hp)(E:XK):Cx where
 prog:=P
 w:=w
 K:=K
 mg:=mg
 base:=base
 A:=A.deeper (envOfC qual scope s.heap.objs.size f cd)
 N:=N
 s₀:=s
 H₀:=H
 env:=envOfC qual scope s.heap.objs.size f cd
 outer:=outer
 stack:=envOfC qual scope s.heap.objs.size f cd :: outer
 ex:=[]
 calm:=true
 fn:=fun _=>true
 pn:=[]
 xe:=fun e s'=>wpAny (model P w) (A.deeper (envOfC qual scope s.heap.objs.size f cd)) (leaving (envOfC qual scope s.heap.objs.size f cd) e) (fun _ s''=>CX outer H s E e s'') (fun e' s''=>CX outer H s E e' s'') s'
theorem rK {sc:Scope}{n:Nat}{x:Str}(h:sc.names.lookup x=some .cell) : ∃ c,(cellsFrom n sc.names []).lookup x=some c:=by
 have q:=PySem.W.cellsFrom_some sc.names n [] (.inl h);exact Option.isSome_iff_exists.mp q
theorem wR {CX:CXT}{P:Ax}{w:World}{K:Aa}{mg:Str->Option Value}{base:Heap}{N ps:List Str}{qual:Str}{scope:Scope}{f:Addr}{cd:Value}{A:Around}{outer:List Env}{s s1:Shared}{H:Hp}{E:XK}{us:List Value}{vs:List V}
  (S:FnScope N ps scope) (hd:A.handled=none) (e0:Env0 P w K mg base A outer s H) (hl:vs.length=ps.length) (r:Vals vs us)
  (x:InCallC s s.heap.objs.size (bindL (envOfC qual scope s.heap.objs.size f cd).kindOf (ps.zip us) fun _=>none) (cellsFrom (s.heap.objs.size+1) scope.names []) (bindC (envOfC qual scope s.heap.objs.size f cd).kindOf (ps.zip us) fun _=>none) s1) :
  Inv (cxOf CX P w K mg base N qual scope f cd A outer s H E) [] (start N vs) H s1:=by
 have hpl:ps.length<=N.length:=by have:=congrArg List.length S.pre; rw [Ef] at this; omega
 obtain ⟨h1,tk,rfl,hk⟩:=x.done;have noA : ∀ b:Addr,b ∉ (cxOf CX P w K mg base N qual scope f cd A outer s H E).ex:=fun b z=>absurd (show b ∈ ([]:List Addr) from z) (by simp);refine ⟨⟨e0.mod,S.kind,rfl,rfl,Ak _,fun y z c h1 h2 => ?_,fun y hy => ?_,fun y c _ h => ?_,fun _=>hd,Around.frames_deeper e0.frames,.inr ⟨rfl,rfl⟩,fun b z=>absurd z (noA b),e0.bs,e0.bsz,fun b _ _=>noA b,fun b z=>absurd z (noA b),e0.funs,e0.frf⟩,
  rfl,e0.bare,Un.kept hk,⟨_,x.toInCall.ns,fun i y v h1 h2 h3 => ?_⟩,fun y c h=>⟨_,x.cell y c h⟩,e0.hok.fresh (Ak _),fun y c h => ?_,fun p hp=>absurd (show p ∈ ([]:List (Addr × Obj)) from hp) (by simp),e0.hok.kept hk,?_⟩
 ·exact name_of_addr x.apart (CO h1) (CO h2)
 ·have hy:scope.names.lookup y=some .cell\/scope.names.lookup y=some .free:=hy
  rcases hy with hy | hy
  ·exact rK hy
  ·exact absurd rfl (S.nofree _ (CO hy))
 ·exact Nat.le_of_lt (x.above y c (CO h))
 ·have hi:i < vs.length:=by
   unfold start at h2
   by_cases hi:i < vs.length
   ·exact hi
   ·rw [Cu (by simpa using hi)] at h2
    rw [Eo] at h2;split at h2 <;> cases h2
  have ha:vs[i]?=some v:=by
   unfold start at h2;rw [De (by simpa using hi),As] at h2;cases e:vs[i]? with
   | none=>rw [e] at h2; cases h2
   | some a=>rw [e] at h2; cases h2; rfl
  obtain ⟨u,hu,rv⟩:=r.get ha;have hp:ps[i]?=some y:=by
   rw [<- S.pre,List.getElem?_take_of_lt (by omega)]; exact h1
  have ndP:ps.Nodup:=by rw [<- S.pre]; exact S.nd.sublist (List.take_sublist _ _)
  refine ⟨u,rv,?_⟩
  rcases S.par y (Ay hp) with k | k
  ·exact .inl ⟨k,nP ndP hp hu k⟩
  ·obtain ⟨c,e⟩:=rK (n:=s.heap.objs.size+1) k
   refine .inr ⟨.inl k,c,e,?_⟩;have q:=x.cell y c e;rw [nR ndP hp hu (by show scope.names.lookup y ≠ _; rw [k]; decide)] at q;exact q
 ·exact e0.hok.fresh (Nat.le_of_lt (x.above y c (CO h)))
 ·unfold start
  show _=N.length;rw [AB,Ag,List.length_replicate];omega
theorem aFv {CX:CXT}{P:Ax}{w:World}{K:Aa}{mg:Str->Option Value}{base:Heap}{k:Nat}{f:Addr}{name qual:Str}{params:Arguments}{body:List Stmt}{scope:Scope}{dV kV doc pm cdv ct oc:Value}{an od:Option Addr}
  {osl:Array (Option Value)} {N ps:List Str} {sp:Sp} (lk:K.lookup f=some ⟨oc,od,.func (Cm name qual params body scope dV kV doc pm an cdv ct),osl⟩) (hcd:DR K cdv qual=true) (S:FnScope N ps scope)
  (len : ∀ vs H Q E,sp vs H Q E->vs.length=ps.length)
  (hbody : ∀ (A:Around) (outer:List Env) (s:Shared) (H:Hp) (vs:List V) (Q:VK) (E:XK),Room k (A.deeper (envOfC qual scope s.heap.objs.size f cdv))->sp vs H Q E ->
   ∃ t,PSs (cxOf CX P w K mg base N qual scope f cdv A outer s H E) body t/\t { nx:=fun _ H'=>Q .non H',rt:=Q } (start N vs) H) :
  FnOk P w K mg base CX (k+1) f (Cm name qual params body scope dV kV doc pm an cdv ct) ps sp:=by
 refine ⟨len,fun A outer s H args us vs Q E hr e0 hb r hsp => ?_⟩;have hl:=len _ _ _ _ hsp;have KX:K.In s.heap:=e0.mod.kin.keeps fun b o e=>(e0.bs b o e).1;have lim:s.heap.NoLimit:=e0.mod.nolimit.keeps fun b o e=>(e0.bs b o e).1;have hkind : ∀ y ∈ ps.zip us,scope.names.lookup y.1=some .local\/(scope.names.lookup y.1=some .cell/\((cellsFrom (s.heap.objs.size+1) scope.names []).lookup y.1).isSome=true):=fun ⟨n,v⟩ hy=>by
  rcases S.par n (En hy).1 with q | q
  ·exact .inl q
  ·exact .inr ⟨q,PySem.W.cellsFrom_some _ _ _ (.inl q)⟩
 refine codeAny_call_function hr.depth (KX _ _ lk) rfl S.co S.gen rfl (PySem.W.codeRec_of KX hcd) (hb _ _ _ _ ?_);refine wpAny_newFunctionEnv_cells S.kind hkind fun env he s1 x => ?_;subst he;refine ⟨lim.keeps x.toInCall.keep,codeAny_func ?_⟩;obtain ⟨t,ht,hq⟩:=hbody A outer s H vs Q E (hr.deeper _) hsp;have I:Inv (cxOf CX P w K mg base N qual scope f cdv A outer s H E) [] (start N vs) H s1:=wR S hr.hd e0 hl r x;refine BV (ht [] s1 (start N vs) H _ I hq) (fun fl s' hs => ?_) fun e s' hs=>hs;have fin : ∀ {σ':St} {H':Hp} {v:V} {u:Value},Inv (cxOf CX P w K mg base N qual scope f cdv A outer s H E) [] σ' H' s'->RelV v u->Q v H'->CE outer P w H s Q u s' :=
  fun {σ' H' v u} J rv q=>⟨v,H',J.os,J.bare,J.base,J.hok,rv,q⟩
 cases fl with
 | ret u =>
  obtain ⟨v,σ',H',J,rv,q⟩:=hs;exact fin J rv q
 | next =>
  obtain ⟨σ',H',J,q⟩:=hs;exact fin (v:=V.non) (u:=BP) J rfl q
 | brk =>
  obtain ⟨_,_,_,q⟩:=hs;exact CD q
 | cont =>
  obtain ⟨_,_,_,q⟩:=hs;exact CD q
section
variable {X:Cx}{x:Str}{p pos:Pos}{e:Expr}{es:List Expr}{t:TA}{id T:String}{r:List V->Hp->VK->Prop}
def tCB (r:List V->Hp->VK->Prop)(t:TA):TE:=fun σ H Q=>t σ H fun vs H1=>r vs H1 Q
theorem aR (hc:eQ X (.builtin id) r)(hg:Gl X x)(hm:X.mg x=none)(hv:Cb x=some (.builtin id))(ha:PA X (e :: es) t)(hn:x ≠ "__name__" := by decide)(hdb:(x == ("__debug__" : Str))=false:=by decide)
  (he:AS (e :: es) X.env=(false,eval e X.env) :: AS es X.env:=by rfl) (hpl:(backTo pos (AS es X.env)).any (·.1)=false:=by rfl):PE X (.Call (.Name x p) (e :: es) [] pos) (tCB r t):=by
 intro pins s σ H Q I h;refine Dk (iZ I hg hm hv ?_ hn hdb);exact PyProof.Rows.callWith_builtin1 (thn (ha pos pins s σ H _ I h) fun us s1 ⟨vs,H1,I1,r1,q1⟩=>hc pins s1 σ H1 vs us Q I1 r1 q1) he hpl
theorem aX (hc:eQ X (.type T) r)(hg:Gl X x)(hm:X.mg x=none)(hv:Cb x=some (.type T))(ha:PA X (e :: es) t)(hn:x ≠ "__name__" := by decide)(hdb:(x == ("__debug__" : Str))=false:=by decide)
  (he:AS (e :: es) X.env=(false,eval e X.env) :: AS es X.env:=by rfl) (hpl:(backTo pos (AS es X.env)).any (·.1)=false:=by rfl):PE X (.Call (.Name x p) (e :: es) [] pos) (tCB r t):=by
 intro pins s σ H Q I h;refine Dk (iZ I hg hm hv ?_ hn hdb);exact Dp (thn (ha pos pins s σ H _ I h) fun us s1 ⟨vs,H1,I1,r1,q1⟩=>hc pins s1 σ H1 vs us Q I1 r1 q1) he hpl
end
end L2
namespace HT
open PySem PyProof.Rows
def lexLt:List Int->List Int->Bool
 | [],[]=>false
 | [],_ :: _=>true
 | _ :: _,[]=>false
 | x :: xs,y :: ys=>if x=y then lexLt xs ys else decide (x < y)
section
open PySem.SeqAt
open PySem.AutoSeq1 (wpAny_loadPart')
open PySem.MeetsSeq PySem.MeetsSeq2 PySem.MeetsSeq3
end
section
variable {prog:Ax}{w:World}{A:Around}{E:Value->Shared->Prop}{s:Shared}
theorem cat_tup (ht:IsTup s.heap t vs.toArray)(hb:IsTup s.heap b ws.toArray)(hv:vs ≠ [])(h1:ws=[]->Q (.ref t) s)(h2:ws ≠ []->Q (.ref s.heap.objs.size) { s with heap:=s.heap.push { cls:=.type "tuple",data:=.seq (vs ++ ws).toArray } })(hsz:vs.length+ws.length<=Aw):wpAny (model prog w) A (Eb .Add (.ref t) (.ref b)) Q E s:=by
 obtain ⟨⟨cls,dd,data,sl⟩,ho,hc,n,hd⟩:=id ht;obtain ⟨⟨cls2,dd2,data2,sl2⟩,ho2,hc2,n2,hd2⟩:=id hb;simp only at hc hd hc2 hd2;subst hc hd hc2 hd2;have e:vs.toArray ++ ws.toArray=(vs ++ ws).toArray:=by simp
 by_cases hw:ws=[]
 ·exact concat_meets ⟨_,ho,rfl⟩ ⟨_,ho2,rfl⟩ noFill_tuple_add seq_tuple_add PySem.F.slot_tuple_add Ft (Fh _ _)
   (tuple_addW1 t b vs.toArray ws.toArray n n2 dd dd2 sl sl2 (by simpa using hv) (by simp [hw])) ⟨ho,ho2,h1 hw⟩
 ·refine concat_meets ⟨_,ho,rfl⟩ ⟨_,ho2,rfl⟩ noFill_tuple_add seq_tuple_add PySem.F.slot_tuple_add Ft (Fh _ _)
   (tuple_addW2 t b vs.toArray ws.toArray n n2 dd dd2 sl sl2 (by simpa using hv) (by simpa using hw) (by rw [Aj,Aj]; exact hsz)) ⟨ho,ho2,?_⟩
  rw [e];exact h2 hw
def sIx (n d:Nat):Option Int->Nat
 | none=>d
 | some v=>if v < 0 then (v+(n:Int)).toNat else min v.toNat n
theorem sIx_none (n d:Nat):sIx n d none=d:=rfl
theorem sIx_nat (n d k:Nat):sIx n d (some (k:Int))=min k n:=by
 show (if (k:Int) < 0 then ((k:Int)+(n:Int)).toNat else min (k:Int).toNat n)=min k n;rw [if_neg (by omega),Cz]
theorem aEt (n d:Nat)(hd:d<=n)(o:Option Int):sIx n d o<=n:=by
 cases o with
 | none=>exact hd
 | some v =>
  show (if v < 0 then (v+(n:Int)).toNat else min v.toNat n)<=n
  by_cases hv:v < 0
  ·rw [if_pos hv]; omega
  ·rw [if_neg hv]; exact Nat.min_le_right _ _
theorem xQ (v:Int)(n d:Nat):(if v < 0 then max (v+(n:Int)) 0 else min v (n:Int))=((sIx n d (some v):Nat):Int):=by
 show (if v < 0 then max (v+(n:Int)) 0 else min v (n:Int))=(((if v < 0 then (v+(n:Int)).toNat else min v.toNat n):Nat):Int)
 by_cases hv:v < 0
 ·simp only [if_pos hv]; omega
 ·simp only [if_neg hv]; omega
theorem tL (lo hi:Option Int)(n:Nat):EI lo hi 1 (n:Int)=(((sIx n 0 lo:Nat):Int),((sIx n n hi:Nat):Int)):=by
 have h1 : ¬ ((1:Int) < 0):=by omega
 unfold EI;simp only [h1,if_false];refine Prod.ext ?_ ?_
 ·cases lo with
  | none=>rfl
  | some v=>exact xQ v n 0
 ·cases hi with
  | none=>rfl
  | some v=>exact xQ v n n
theorem sD (i j:Nat):DE (i:Int) (j:Int) 1=j - i:=by
 unfold DE;have h1:(1:Int) > 0:=by omega
 simp only [h1,if_true,Int.ediv_one];split <;> omega
theorem jK (p:IsPart v o)(h:Q o s):wpAny (model prog w) A (AF.Slice.slicePartIndex v) Q E s:=by
 cases p with
 | none=>exact slicePart_none h
 | int i t=>exact slicePart_int h
theorem eR {sl:Addr}{vl vu:Value}{lo hi:Option Int}{n:Nat}{Q:Int × Int × Nat->Shared->Prop}(hs:s.heap.IsSliceOf sl vl vu .none)(pl:IsPart vl lo)(pu:IsPart vu hi)
    (h:Q (((sIx n 0 lo:Nat):Int),1,sIx n n hi - sIx n 0 lo) s):wpAny (model prog w) A (AF.Slice.sliceApplied (.ref sl) (pure (n:Int))) Q E s:=by
  obtain ⟨os,hos,hcs,hds⟩:=id hs;unfold AF.Slice.sliceApplied AF.Slice.sliceFields;refine Ab (Ab (BH hos hds (x:=vl) rfl (Ab (BH hos hds (x:=vu) rfl (Ab (BH hos hds (x:=.none) rfl (Af ?_)))))));refine Ab (slicePart_none ?_);show wpAny _ _ (if ((1:Int) == 0)=true then _ else _) _ _ s;rw [if_neg (by decide)];refine Ab (jK pl (Ab (jK pu (Ab (Af ?_)))));show wpAny _ _ (match EI lo hi 1 (n:Int) with | (lo,hi)=>pure (lo,(1:Int),DE lo hi 1)) _ _ s;rw [tL lo hi n];show wpAny _ _ (pure (((sIx n 0 lo:Nat):Int),(1:Int),DE ((sIx n 0 lo:Nat):Int) ((sIx n n hi:Nat):Int) 1)) _ _ s;rw [sD];exact Af h
theorem zD (xs:Array Value)(i k:Nat):((Bc k).filterMap fun (m:Nat)=>xs[((i:Int)+(m:Int)*1).toNat]?).toArray=((xs.toList.drop i).take k).toArray:=by
 have e:(fun (m:Nat)=>xs[((i:Int)+(m:Int)*1).toNat]?)=fun m=>xs[i+m]?:=by
  funext m
  have:((i:Int)+(m:Int)*1).toNat=i+m:=by omega
  rw [this]
 rw [e];have:=pick_run xs i k;rw [List.filterMap_map] at this;have e2:((fun x=>xs[x]?) ∘ fun x=>i+x)=fun m=>xs[i+m]?:=rfl;rw [e2] at this;rw [this]
theorem getItem_tuple_cut {t sl:Addr}{items:Array Value}{vl vu:Value}{lo hi:Option Int}{Q:Value->Shared->Prop}(ht:IsTup s.heap t items)(hs:s.heap.IsSliceOf sl vl vu .none)(pl:IsPart vl lo)(pu:IsPart vu hi)
  (hw : ¬ (sIx items.size 0 lo=0/\sIx items.size items.size hi=items.size))
  (h:Q (.ref s.heap.objs.size) { s with heap:=s.heap.push { cls:=.type "tuple",data:=.seq ((items.toList.drop (sIx items.size 0 lo)).take (sIx items.size items.size hi - sIx items.size 0 lo)).toArray } })
  (hsz:items.size<=Aw):wpAny (model prog w) A (getItem (.ref t) (.ref sl)) Q E s:=by
 have htake:sizeOk (.seq ((items.toList.drop (sIx items.size 0 lo)).take (sIx items.size items.size hi - sIx items.size 0 lo)).toArray):=by
  show ((items.toList.drop (sIx items.size 0 lo)).take (sIx items.size items.size hi - sIx items.size 0 lo)).toArray.size<=Aw;rw [Aj,Ef,List.length_drop,BB];omega
 have hj:sIx items.size items.size hi<=items.size:=aEt _ _ (Ak _) hi;obtain ⟨os,hos,hcs,hds⟩:=id hs;have hTs:s.TypeIs (.ref sl) "slice" := ⟨os,hos,hcs⟩;unfold getItem
 try with_reducible refine Br ?_
 first | refine Ab (Af ?_) | skip
 refine Ab (wpAny_sequenceKey ht.typeIs (by decide) ?_);refine Ab (Bs (name:=CM "__getitem__") ht.typeIs BG
  (Bq BG ht.typeIs entry_tuple_getitem ?_ (args_tuple_getitem _ _)))
 show wpAny _ _ (AF.Tuple.tupleItemsOf (.ref t) >>= _) _ _ s;refine Ab (tupleItemsOf_ ht ?_);refine Ab (DV hTs ?_);rw [if_pos (by decide)];refine Ab (eR hs pl pu ?_);have hno : ¬ ((((sIx items.size 0 lo:Nat):Int) == 0 && (1:Int) == 1 && (sIx items.size items.size hi - sIx items.size 0 lo) == items.size)=true):=by
  intro q;rw [Cc,Cc] at q;have q1:((sIx items.size 0 lo:Nat):Int)=0:=Ek q.1.1;have q2:sIx items.size items.size hi - sIx items.size 0 lo=items.size:=Ek q.2;exact hw ⟨by omega,by omega⟩
 show wpAny _ _ (if (((sIx items.size 0 lo:Nat):Int) == 0 && (1:Int) == 1 && (sIx items.size items.size hi - sIx items.size 0 lo) == items.size)=true then _ else _) _ _ s;rw [if_neg hno,zD]
 first
  | exact Ab (m:=DH _) (AY (Af ⟨_,rfl,Af h⟩) htake)
  | exact Ab (m:=DH _) (AY (Ab (Af (Af ⟨_,rfl,Af h⟩))) htake)
  | exact Ab (Ab (m:=DH _) (AY (Af (Af ⟨_,rfl,Af h⟩)) htake))
  | exact Ab (Ab (m:=DH _) (AY (Af ⟨_,rfl,Af h⟩) htake))
end
end HT
namespace L2
open PySem PySem.Spec PyProof.Rows
abbrev TO:=St->Hp->(Option Int->Hp->Prop)->Prop
def PO (X:Cx)(e:Option Expr)(t:TO):Prop :=
 ∀ (pins:List (Addr × Obj)) (s:Shared) (σ:St) (H:Hp) (Q:Option Int->Hp->Prop),Inv X pins σ H s->t σ H Q ->
  wpAny (model X.prog X.w) X.A (evalPart e X.env) (fun u s'=>∃ o H',Inv X pins σ H' s'/\IsPart u o/\Q o H') X.xe s
def aB0:TO:=fun _ H Q=>Q none H
def aGc (t:TE):TO:=fun σ H Q=>t σ H fun x H1=>∃ i,x = .int i/\Q (some i) H1
section
variable {X:Cx}{e:Expr}{te:TE}{lo hi:Option Expr}{tl th:TO}{pos p2:Pos}
theorem aCo:PO X none aB0:=by
 intro pins s σ H Q I h;rw [evalPart_none];exact Af ⟨none,H,I,.none,h⟩
theorem aCn (h:PE X e te):PO X (some e) (aGc te):=by
 intro pins s σ H Q I hw;rw [evalPart_some];refine thn (h pins s σ H _ I hw) fun u s1 ⟨x,H1,I1,r1,q1⟩ => ?_;obtain ⟨i,rfl,q⟩:=q1;obtain ⟨t,rfl⟩:=r1;exact ⟨some i,H1,I1,.int i t,q⟩
def SlR (X:Cx)(r:V->Option Int->Option Int->Hp->VK->Prop):Prop :=
 ∀ (pins:List (Addr × Obj)) (s:Shared) (σ:St) (H:Hp) (x:V) (v vl vu:Value) (lo hi:Option Int) (sl:Addr) (Q:VK),Inv X pins σ H s->RelV x v->s.heap.IsSliceOf sl vl vu .none->IsPart vl lo->IsPart vu hi->r x lo hi H Q ->
  ∃ T id,typeLookup (.type T) "__getitem__" = pure (some (.builtin id))/\s.TypeIs v T/\wpAny (model X.prog X.w) X.A (getItem v (.ref sl)) (EP X pins σ Q) X.xe s
def tSl (r:V->Option Int->Option Int->Hp->VK->Prop)(te:TE)(tl th:TO):TE:=fun σ H Q=>te σ H fun x H1=>tl σ H1 fun l H2=>th σ H2 fun u H3=>r x l u H3 Q
theorem zF {r:V->Option Int->Option Int->Hp->VK->Prop}(hr:SlR X r)(he:PE X e te)(hl:PO X lo tl)(hu:PO X hi th):PE X (.Subscript e (.Slice lo hi none p2) pos) (tSl r te tl th):=by
 intro pins s σ H Q I h;refine Subscript_ (thn (he pins s σ H _ I h) fun v s1 ⟨x,H1,I1,r1,q1⟩ => ?_);refine wpAny_Slice (thn (hl pins s1 σ H1 _ I1 q1) fun vl s2 ⟨l,H2,I2,pl,q2⟩=>thn (hu pins s2 σ H2 _ I2 q2) fun vu s3 ⟨u,H3,I3,pu,q3⟩ => ?_);rw [evalPart_none];refine Af ?_;have I4:Inv X pins σ H3 { s3 with heap:=s3.heap.push { cls:=.type "slice",data:=.fields #[vl,vu,.none] } }:=I3.kept (t':=s3.toks) fun b ob q=>Ac _ q;obtain ⟨T,id,hT,ht,hg⟩:=hr pins { s3 with heap:=s3.heap.push { cls:=.type "slice",data:=.fields #[vl,vu,.none] } } σ H3 x v vl vu l u s3.heap.objs.size Q I4 r1 (Heap.IsSliceOf.new ..) pl pu q3;show wpAny (model X.prog X.w) X.A (subscriptTail e (.Slice lo hi none p2) v (.ref s3.heap.objs.size)) (EP X pins σ Q) X.xe { s3 with heap:=s3.heap.push { cls:=.type "slice",data:=.fields #[vl,vu,.none] } };exact tail_any (ops:=[.ref s3.heap.objs.size,v]) ht hT hg (by with_unfolding_all rfl)
def cutV (xs:List V)(lo hi:Option Int):List V:=(xs.drop (HT.sIx xs.length 0 lo)).take (HT.sIx xs.length xs.length hi - HT.sIx xs.length 0 lo)
theorem pE (xs:List V)(lo hi:Option Int):(cutV xs lo hi).length<=xs.length:=by
 unfold cutV;rw [Ef,List.length_drop];omega
def rSlT (K:Aa):V->Option Int->Option Int->Hp->VK->Prop:=fun x lo hi H Q=>∃ a xs,x = .ref a/\SqT K H a xs /\
 ¬ (HT.sIx xs.length 0 lo=0/\HT.sIx xs.length xs.length hi=xs.length)/\∀ p,H p=none->Q (.ref p) (upd H p (.tup (cutV xs lo hi)))
theorem aEi:SlR X (rSlT X.K):=by
 intro pins s σ H x v vl vu lo hi sl Q I rx hs pl pu h;obtain ⟨a,xs,rfl,hx,hw,q⟩:=h;cases rx;obtain ⟨its,r,ht,hz⟩:=I.tuple hx;have hlen:its.toArray.size=xs.length:=by rw [Aj]; exact r.length.symm
 refine ⟨"tuple",_,BG.lookup,ht.typeIs,?_⟩;refine HT.getItem_tuple_cut ht hs pl pu (by rw [hlen]; exact hw) ?_ (by rw [hlen]; exact hz);rw [hlen];refine ⟨.ref s.heap.objs.size,_,I.laid (t':=s.toks) (o:=.tup (cutV xs lo hi)) (fun b ob q=>Ac _ q) (Ak _) ?_,rfl,q _ (I.hok.fresh (Ak _))⟩;exact ⟨⟨AX (pE xs lo hi) hz,_,Ah _ rfl,rfl⟩,_,(r.drop (HT.sIx xs.length 0 lo)).take (HT.sIx xs.length xs.length hi - HT.sIx xs.length 0 lo),IsTup.new _ _⟩
def rLtT (K:Aa):R2:=fun x y H Q=>∃ a b ns ms,x = .ref a/\y = .ref b/\SqT K H a (ns.map V.int)/\SqT K H b (ms.map V.int)/\Q (.bl (HT.lexLt ns ms)) H
def aE0 (K:Aa):R2:=fun x y H Q=>∃ a b xs ys,x = .ref a/\y = .ref b/\SqT K H a xs/\SqT K H b ys/\xs ≠ []/\xs.length+ys.length<=Aw /\
 (ys=[]->Q (.ref a) H)/\(ys ≠ []->∀ p,H p=none->Q (.ref p) (upd H p (.tup (xs ++ ys))))
theorem Vals.nil_iff (r:Vals xs us):us=[] ↔ xs=[]:=by
 cases r with
 | nil=>simp
 | cons _ _=>simp
theorem aC1:OpR X (Eb .Add) (aE0 X.K):=by
 intro pins s σ H x y v u Q I rx ry h;obtain ⟨a,b,xs,ys,rfl,rfl,ha,hb,hx,hz,q1,q2⟩:=h;cases rx;cases ry;obtain ⟨its,r1,p1,_⟩:=I.tuple ha;obtain ⟨its2,r2,p2,_⟩:=I.tuple hb;refine HT.cat_tup p1 p2 (fun z=>hx (r1.nil_iff.mp z)) (fun z=>⟨.ref a,H,I,rfl,q1 (r2.nil_iff.mp z)⟩) (fun z => ?_) (by rw [<- r1.length,<- r2.length]; exact hz);refine ⟨.ref s.heap.objs.size,_,I.laid (t':=s.toks) (o:=.tup (xs ++ ys)) (fun b ob q=>Ac _ q) (Ak _) ?_,rfl,q2 (fun w=>z (r2.nil_iff.mpr w)) _ (I.hok.fresh (Ak _))⟩;exact ⟨⟨by rw [AB]; exact hz,_,Ah _ rfl,rfl⟩,_,r1.append r2,IsTup.new _ _⟩
end
def ixN (n:Nat)(i:Int):Option Nat:=if 0<=i then (if i < n then some i.toNat else none) else if -(n:Int)<=i then some (i+n).toNat else none
def atI {α:Type}(xs:List α)(i:Int):Option α:=(ixN xs.length i).bind fun j=>xs[j]?
theorem wQ {n:Nat}{i:Int}{j:Nat}(h:ixN n i=some j):seqIndex? i n=some j/\j < n /\ -(n:Int)<=i/\i < n:=by
 unfold ixN at h
 by_cases h0:0<=i
 ·rw [if_pos h0] at h
  by_cases h1:i < n
  ·rw [if_pos h1] at h
   have e:i.toNat=j:=AH h;exact ⟨by rw [seqIndex_of h0 h1,e],by omega,by omega,h1⟩
  ·rw [if_neg h1] at h; cases h
 ·rw [if_neg h0] at h
  by_cases h1 : -(n:Int)<=i
  ·rw [if_pos h1] at h
   have e:(i+n).toNat=j:=AH h;exact ⟨by rw [seqIndex_neg (by omega) h1,e],by omega,h1,by omega⟩
  ·rw [if_neg h1] at h; cases h
theorem pH {α:Type}{xs:List α}{i:Int}{v:α}(h:atI xs i=some v) : ∃ j,seqIndex? i xs.length=some j/\xs[j]?=some v/\j < xs.length /\ -(xs.length:Int)<=i/\i < xs.length:=by
 unfold atI at h;cases e:ixN xs.length i with
 | none=>rw [e] at h; cases h
 | some j =>
  rw [e] at h;obtain ⟨h1,h2,h3,h4⟩:=wQ e;exact ⟨j,h1,h,h2,h3,h4⟩
theorem bK {α:Type}{xs:List α}{j:Nat}{v:α}(h:xs[j]?=some v):atI xs (j:Int)=some v:=by
 have hj:j < xs.length:=(Ad.mp h).1;have e:ixN xs.length (j:Int)=some j:=by
  unfold ixN;rw [if_pos (by omega),if_pos (by omega)]; simp
 unfold atI; rw [e]; exact h
def aDy (b:Expr):Prop:=∀ o i,subscripted b false o i=operate [o,i] (getItem o i)
def IxR (X:Cx)(r:R2):Prop :=
 ∀ (value slice:Expr) (pins:List (Addr × Obj)) (s:Shared) (σ:St) (H:Hp) (x y:V) (v u:Value) (Q:VK),Inv X pins σ H s->RelV x v->RelV y u->r x y H Q ->
  subscripted slice false v u=operate [v,u] (getItem v u)->wpAny (model X.prog X.w) X.A (subscriptTail value slice v u) (EP X pins σ Q) X.xe s
def MtR (X:Cx)(id:String)(r:V->List V->Hp->VK->Prop):Prop :=
 ∀ (pins:List (Addr × Obj)) (s:Shared) (σ:St) (H:Hp) (x:V) (xs:List V) (v:Value) (us:List Value) (Q:VK),Inv X pins σ H s->RelV x v->Vals xs us->r x xs H Q ->
  wpAny (model X.prog X.w) X.A (call (.builtin id) (v :: us)) (EP X pins σ Q) X.xe s
section
variable {X:Cx}{a b:Expr}{ta tb:TE}{pos:Pos}
theorem bU {r:R2}(hr:IxR X r)(ha:PE X a ta)(hb:PE X b tb)(hs:aDy b):PE X (.Subscript a b pos) (tOp r ta tb):=by
 intro pins s σ H Q I h;exact Subscript_ (binT ha hb I h fun v u s2 x y H2 I2 rx ry q=>hr a b pins s2 σ H2 x y v u Q I2 rx ry q (hs _ _))
def rIxL (K:Aa):R2:=fun x y H Q=>∃ p xs i v,x = .ref p/\y = .int i/\SqL K H p xs/\atI xs i=some v/\Q v H
def rIxT (K:Aa):R2:=fun x y H Q=>∃ p xs i v,x = .ref p/\y = .int i/\SqT K H p xs/\atI xs i=some v/\Q v H
def rIxS:R2:=fun x y H Q=>∃ z i c,x = .str z/\y = .int i/\z.length<=Aw/\atI z.cps.toList i=some c/\Q (.str ⟨#[c]⟩) H
theorem bG:IxR X (rIxL X.K):=by
 intro value slice pins s σ H x y v u Q I rx ry h hs;obtain ⟨p,xs,i,z,rfl,rfl,hq,he,q⟩:=h;cases rx;obtain ⟨t,rfl⟩:=ry;obtain ⟨its,r,pl,hz⟩:=I.list hq;obtain ⟨j,h1,h2,h3,h4,h5⟩:=pH he;obtain ⟨w,ew,rw'⟩:=r.get h2;have hl:=r.length;have hn:=jU;have fin:EP X pins σ Q w s:=⟨z,H,I,rw',q⟩
 by_cases h0:0<=i
 ·have hj:i.toNat=j:=by
   rw [seqIndex_of h0 h5] at h1;exact AH h1
  exact item_listR pl.isList h0 (by omega) (by rw [hj]; simpa using ew) fin hs
 ·have hj:(i+(its.toArray.size:Int)).toNat=j:=by
   rw [seqIndex_neg (by omega) h4] at h1;rw [Aj,<- hl];exact AH h1
  exact subscriptTail_builtinR (x:=w) pl.isList.typeIs slot_list_getitem.lookup
   (wpAny_getItem_list_neg (Q:=fun r s'=>r=w/\EP X pins σ Q r s') pl.isList (by omega) (by rw [Aj] <;> omega) (by omega) (by rw [hj]; simpa using ew) ⟨rfl,fin⟩) hs
theorem eJ:IxR X (rIxT X.K):=by
 intro value slice pins s σ H x y v u Q I rx ry h hs;obtain ⟨p,xs,i,z,rfl,rfl,hq,he,q⟩:=h;cases rx;obtain ⟨t,rfl⟩:=ry;obtain ⟨its,r,pl,hz⟩:=I.tuple hq;obtain ⟨j,h1,h2,h3,h4,h5⟩:=pH he;obtain ⟨w,ew,rw'⟩:=r.get h2;have hl:=r.length;have hn:=jU;have fin:EP X pins σ Q w s:=⟨z,H,I,rw',q⟩;exact subscriptTail_builtinR (x:=w) pl.typeIs slot_tuple_getitem.lookup
  (getItem_tuple (j:=j) (Q:=fun r s'=>r=w/\EP X pins σ Q r s') pl (by omega) (by omega) (by rw [Aj,<- hl]; exact h1) (by simpa using ew) ⟨rfl,fin⟩) hs
theorem wO:IxR X rIxS:=by
 intro value slice pins s σ H x y v u Q I rx ry h hs;obtain ⟨z,i,c,rfl,rfl,hz,he,q⟩:=h;obtain ⟨t,rfl⟩:=rx;obtain ⟨t',rfl⟩:=ry;obtain ⟨j,h1,h2,h3,h4,h5⟩:=pH he;have hl:z.cps.toList.length=z.length:=by simp [Str.length]
 rw [hl] at h1 h4 h5;have hn:=jU;exact tail_any (typeIs_str s z t) slot_str_getitem.lookup (getItem_str (c:=c) (by
  have e1:decide (i < -(2 ^ 63:Int))=false:=decide_eq_false (by omega);have e2:decide (i ≥ 2 ^ 63)=false:=decide_eq_false (by omega);rw [e1,e2,Bool.or_false]) (by rw [h1]; simpa using h2) ⟨.str ⟨#[c]⟩,H,I.tok _,⟨_,rfl⟩,q⟩) hs
def rIx (K:Aa):R2:=fun x y H Q=>rIxL K x y H Q\/rIxT K x y H Q\/rIxS x y H Q
theorem sQ (its:List Value)(n j:Nat)(u:Value):DS (·.setIfInBounds j u) { cls:=.type "list",data:=.seq its.toArray n }={ cls:=.type "list",data:=.seq (its.set j u).toArray n }:=by
 simp [DS]
theorem Inv.lst {σ:St}{p:Addr}(I:Inv X pins σ H s)(h:H p=some (.lst xs)) :
  ∃ (its:List Value) (n:Nat),Vals xs its/\s.heap.get? p=some { cls:=.type "list",data:=.seq its.toArray n }/\xs.length<=Aw:=by
 obtain ⟨z,its,n,r,e⟩:=I.hok p _ h;exact ⟨its,n,r,e,z⟩
theorem Inv.lstUpd {pins:List (Addr × Obj)}{σ:St}{H:Hp}{s:Shared}{p:Addr}{xs ys:List V}{its its':List Value}{n n':Nat}{f:Obj->Obj}(I:Inv X pins σ H s)(h:H p=some (.lst xs))
  (ho:s.heap.get? p=some { cls:=.type "list",data:=.seq its.toArray n }) (hf:f { cls:=.type "list",data:=.seq its.toArray n }={ cls:=.type "list",data:=.seq its'.toArray n' }) (r:Vals ys its') (hz:ys.length<=Aw) (t:Nat) :
  Inv X pins σ (upd H p (.lst ys)) { s with heap:=s.heap.update p f,toks:=t }:=by
 have e:(s.heap.update p f).get? p=some { cls:=.type "list",data:=.seq its'.toArray n' }:=by
  rw [BK f ho (by rw [hf] <;> rfl),hf]
 refine I.write (x:=p) (e:=p) (by rw [h]; trivial) (.inl rfl) (fun b u hb q=>(AW _ _ (AM hb)).trans q) ⟨_,e⟩ ?_;exact ⟨hz,its',n',r,e⟩
def aGt:V->V->V->Hp->(Hp->Prop)->Prop:=fun o i v H Q=>∃ p xs k j,o = .ref p/\i = .int k/\H p=some (.lst xs)/\ixN xs.length k=some j/\Q (upd H p (.lst (xs.set j v)))
theorem set_list:PSet X aGt:=by
 intro pins s σ H o i v ov iv u Q I ro ri rv h;obtain ⟨p,xs,k,j,rfl,rfl,hp,hj,q⟩:=h;cases ro;obtain ⟨t,rfl⟩:=ri;obtain ⟨its,n,r,ho,hz⟩:=I.lst hp;obtain ⟨h1,h2,h3,h4⟩:=wQ hj;have hl:=r.length;have hn:=jU;have I':Inv X pins σ (upd H p (.lst (xs.set j v))) { s with heap:=s.heap.update p (DS (·.setIfInBounds j u)) } :=
  I.lstUpd hp ho (sQ its n j u) (r.set rv j) (by rw [Cn]; exact hz) s.toks
 by_cases h0:0<=k
 ·have hk:k.toNat=j:=by
   rw [seqIndex_of h0 h4] at h1;exact AH h1
  exact PySem.W.ki_setAt ho h0 (by omega) (by rw [Aj,<- hl]; exact h4) (by rw [hk]; exact ⟨_,I',q⟩)
 ·have hk:(k+(its.toArray.size:Int)).toNat=j:=by
   rw [seqIndex_neg (by omega) h3] at h1;rw [Aj,<- hl];exact AH h1
  exact PySem.W.ki_setBack ho (by omega) (by rw [Aj,<- hl]; exact h3) (by omega) (by rw [hk]; exact ⟨_,I',q⟩)
def rSlL (K:Aa):V->Option Int->Option Int->Hp->VK->Prop:=fun x lo hi H Q=>∃ a xs,x = .ref a/\SqL K H a xs/\∀ p,H p=none->Q (.ref p) (upd H p (.lst (cutV xs lo hi)))
def eK:V->Bool
 | .non=>true
 | .bl _=>true
 | .int _=>true
 | .str _=>true
 | _=>false
def eqV:V->V->Bool
 | .non,.non=>true
 | .bl a,.bl b=>a == b
 | .bl a,.int b=>(if a then 1 else 0) == b
 | .int a,.bl b=>a == (if b then 1 else 0)
 | .int a,.int b=>a == b
 | .str a,.str b=>a == b
 | _,_=>false
theorem aBj (ry:RelV y u)(rx:RelV x v)(fy:eK y=true)(fx:eK x=true):Bj A s u v (eqV y x):=by
 cases y with
 | non =>
  cases ry;cases x with
  | non=>cases rx; exact Bj.same _
  | bl b=>cases rx; exact Bj.none_bool b
  | int b=>obtain ⟨t,rfl⟩:=rx; exact Bj.none_int b t
  | str b=>obtain ⟨t,rfl⟩:=rx; exact Bj.none_str b t
  | _=>exact absurd (show false=true from fx) Az
 | bl a =>
  cases ry;cases x with
  | non=>cases rx; exact Bj.bool_none a
  | bl b=>cases rx; exact Bj.bool_bool a b
  | int b=>obtain ⟨t,rfl⟩:=rx; exact Bj.bool_int a b t
  | str b=>obtain ⟨t,rfl⟩:=rx; exact Bj.bool_str a b t
  | _=>exact absurd (show false=true from fx) Az
 | int a =>
  obtain ⟨t',rfl⟩:=ry;cases x with
  | non=>cases rx; exact Bj.int_none a t'
  | bl b=>cases rx; exact Bj.int_bool a t' b
  | int b=>obtain ⟨t,rfl⟩:=rx; exact Bj.int_int a t' b t
  | str b=>obtain ⟨t,rfl⟩:=rx; exact Bj.int_str a t' b t
  | _=>exact absurd (show false=true from fx) Az
 | str a =>
  obtain ⟨t',rfl⟩:=ry;cases x with
  | non=>cases rx; exact Bj.str_none a t'
  | bl b=>cases rx; exact Bj.str_bool a t' b
  | int b=>obtain ⟨t,rfl⟩:=rx; exact Bj.str_int a t' b t
  | str b=>obtain ⟨t,rfl⟩:=rx; exact Bj.str_str a t' b t
  | _=>exact absurd (show false=true from fx) Az
 | _=>exact absurd (show false=true from fy) Az
def eqU (x:V)(u:Value):Bool:=match u with
 | .none=>eqV .non x
 | .bool b=>eqV (.bl b) x
 | .int i _=>eqV (.int i) x
 | .str z _=>eqV (.str z) x
 | _=>false
theorem aBi (r:RelV y u)(f:eK y=true):eqU x u=eqV y x:=by
 cases y with
 | non=>cases r; rfl
 | bl b=>cases r; rfl
 | int i=>obtain ⟨t,rfl⟩:=r; rfl
 | str z=>obtain ⟨t,rfl⟩:=r; rfl
 | _=>exact absurd (show false=true from f) Az
theorem pI  : ∀ {xs:List V} {us:List Value},Vals xs us->xs.all eK=true->us.any (eqU x)=xs.any fun y=>eqV y x
 | _,_,.nil,_=>rfl
 | y :: xs,u :: us,.cons r t,f=>by
  rw [List.all_cons,Cc] at f;rw [List.any_cons,List.any_cons,aBi r f.1,pI t f.2]
theorem lD (rx:RelV x v)(fx:eK x=true) : ∀ {xs:List V} {us:List Value},Vals xs us->xs.all eK=true->∀ u ∈ us,Bj A s u v (eqU x u)
 | _,_,.nil,_=>fun u hu=>by cases hu
 | y :: xs,u :: us,.cons r t,f=>fun u' hu=>by
  rw [List.all_cons,Cc] at f
  rcases AD.mp hu with rfl | hu
  ·rw [aBi r f.1]; exact aBj r rx f.1 fx
  ·exact lD rx fx t f.2 u' hu
def inV (x:V)(xs:List V):Bool:=xs.any fun y=>eqV y x
def rIn (K:Aa)(neg:Bool):R2:=fun x y H Q=>∃ p xs,y = .ref p/\(SqL K H p xs\/SqT K H p xs)/\eK x=true/\xs.all eK=true/\Q (.bl (if neg then !inV x xs else inV x xs)) H
theorem eT:OpR X (BI .In) (rIn X.K false):=by
 intro pins s σ H x y v u Q I rx ry h;obtain ⟨p,xs,rfl,hq,fx,fs,q⟩:=h;cases ry
 rcases hq with hq | hq
 ·obtain ⟨its,r,pl,hz⟩:=I.list hq
  refine SeqAt.in_listAt (eqU x) pl.isList (fun w hw=>lD rx fx r fs w (by simpa using hw)) ⟨.bl _,H,I,rfl,?_⟩;rw [show its.toArray.any (eqU x)=its.any (eqU x) by simp,pI r fs];exact q
 ·obtain ⟨its,r,pl,hz⟩:=I.tuple hq
  refine SeqAt.in_tupleAt (eqU x) pl (fun w hw=>lD rx fx r fs w (by simpa using hw)) ⟨.bl _,H,I,rfl,?_⟩;rw [show its.toArray.any (eqU x)=its.any (eqU x) by simp,pI r fs];exact q
theorem aZ:eQ X (.builtin "len") (fun xs H Q=>∃ p ys,xs=[.ref p]/\(SqL X.K H p ys\/SqT X.K H p ys)/\Q (.int ys.length) H):=by
 intro pins s σ H xs us Q I r h;obtain ⟨p,ys,rfl,hq,q⟩:=h;obtain ⟨u,rfl,rx⟩:=vals1 r;cases rx;have hn:=jU
 rcases hq with hq | hq
 ·obtain ⟨its,r',pl,hz⟩:=I.list hq
  have hlen:=r'.length;exact Calls.call_len_list pl.isList (by simp only [Aj] <;> omega) ⟨.int ys.length,H,I.tok _,⟨s.toks+1,by rw [Aj,hlen]⟩,q⟩
 ·obtain ⟨its,r',pl,hz⟩:=I.tuple hq
  have hlen:=r'.length;exact len_tuple pl (by simp only [Aj] <;> omega) ⟨.int ys.length,H,I.tok _,⟨s.toks+1,by rw [Aj,hlen]⟩,q⟩
theorem nI:eQ X (.builtin "len") (fun xs H Q=>∃ z,xs=[.str z]/\z.length<=Aw/\Q (.int z.length) H):=by
 intro pins s σ H xs us Q I r h;obtain ⟨z,rfl,hz,q⟩:=h;obtain ⟨u,rfl,t,rfl⟩:=vals1 r;have hn:=jU;exact len_str (by omega) ⟨.int z.length,H,I.tok _,⟨_,rfl⟩,q⟩
theorem bV:eQ X (.type "list") (fun xs H Q=>∃ p ys,xs=[.ref p]/\(SqL X.K H p ys\/SqT X.K H p ys)/\∀ l,H l=none->Q (.ref l) (upd H l (.lst ys))):=by
 intro pins s σ H xs us Q I r h;obtain ⟨p,ys,rfl,hq,q⟩:=h;obtain ⟨u,rfl,rx⟩:=vals1 r;cases rx;have fin : ∀ (its:List Value),Vals ys its->ys.length<=Aw->∀ (h':Heap) (c':Nat),(∀ b o',s.heap.get? b=some o'->h'.get? b=some o') ->
   h'.get? s.heap.objs.size=some { cls:=.type "list",dict:=none,data:=.seq its.toArray c',slots := #[] }->EP X pins σ Q (.ref s.heap.objs.size) { s with heap:=h' }:=fun its r' hz h' c' kp e =>
  ⟨.ref s.heap.objs.size,_,I.laid (t':=s.toks) kp (Ak _) (show ObjOk X.prog X.w _ h' _ (.lst ys) from ⟨hz,its,c',r',e⟩),rfl,q _ (I.hok.fresh (Ak _))⟩
 rcases hq with hq | hq
 ·obtain ⟨its,r',pl,hz⟩:=I.list hq
  have hlen:=r'.length;obtain ⟨o,ho,hc,n,hd⟩:=pl.isList;exact call_list_seq p (.inl rfl) ho hc hd (fun h' c' kp e=>fin its r' hz h' c' kp e) (by simp only [Aj] <;> omega)
 ·obtain ⟨its,r',pl,hz⟩:=I.tuple hq
  have hlen:=r'.length;obtain ⟨o,ho,hc,n,hd⟩:=pl;exact call_list_seq p (.inr rfl) ho hc hd (fun h' c' kp e=>fin its r' hz h' c' kp e) (by simp only [Aj] <;> omega)
theorem bH:eQ X (.type "tuple") (fun xs H Q=>∃ p ys,xs=[.ref p]/\((SqL X.K H p ys/\∀ l,H l=none->Q (.ref l) (upd H l (.tup ys)))\/(SqT X.K H p ys/\Q (.ref p) H))):=by
 intro pins s σ H xs us Q I r h;obtain ⟨p,ys,rfl,h⟩:=h;obtain ⟨u,rfl,rx⟩:=vals1 r;cases rx
 rcases h with ⟨hq,q⟩ | ⟨hq,q⟩
 ·obtain ⟨its,r',pl,hz⟩:=I.list hq
  have hlen:=r'.length;refine call_tuple_list pl.isList (fun h' kp => ?_) (by simp only [Aj] <;> omega);have I1:Inv X pins σ H { s with heap:=h' }:=I.kept (t':=s.toks) kp;have I2:Inv X pins σ (upd H h'.objs.size (.tup ys)) { s with heap:=h'.push { cls:=.type "tuple",data:=.seq its.toArray } } :=
   I1.laid (t':=s.toks) (fun b o e=>Ac _ e) (Ak _) (show ObjOk X.prog X.w _ _ _ (.tup ys) from ⟨⟨hz,_,Ah _ rfl,rfl⟩,its,r',IsTup.new _ _⟩)
  exact ⟨.ref h'.objs.size,_,I2,rfl,q _ (I1.hok.fresh (Ak _))⟩
 ·obtain ⟨its,r',pl,hz⟩:=I.tuple hq
  exact call_tuple_same pl ⟨.ref p,H,I,rfl,q⟩
def tyV (K:Aa)(T:String)(x:V)(H:Hp):Prop:=match x with
 | .str _=>T = "str"
 | .int _=>T = "int"
 | .ref p=>(T = "list" /\ ∃ xs,SqL K H p xs)\/(T = "tuple" /\ ∃ o,K.lookup p=some o/\o.cls = .type "tuple" /\ o.dict=none) \/
   (T = "dict" /\ ((∃ kvs,H p=some (.dK kvs))\/∃ kvs,H p=some (.dT kvs)))\/(T = "set" /\ ∃ S n,H p=some (.set S n))
 | _=>False
theorem aD7 {σ:St}(I:Inv X pins σ H s)(r:RelV x v)(ty:tyV X.K T x H) :
  s.TypeIs v T/\∀ a,v = .ref a->∃ ob,s.heap.get? a=some ob/\ob.dict=none:=by
 cases x with
 | str z =>
  obtain ⟨t,rfl⟩:=r;cases (show T = "str" from ty);exact ⟨typeIs_str s z t,fun _ e=>nomatch e⟩
 | int i =>
  obtain ⟨t,rfl⟩:=r;cases (show T = "int" from ty);exact ⟨typeIs_int s i t,fun _ e=>nomatch e⟩
 | ref p =>
  cases r
  rcases ty with ⟨rfl,xs,hq⟩ | ⟨rfl,o,hk,hc,hd⟩ | ⟨rfl,hk⟩ | ⟨rfl,S,n,hk⟩
  ·obtain ⟨its,_,pl,_⟩:=I.list hq
   refine ⟨pl.isList.typeIs,fun a e => ?_⟩;cases e;obtain ⟨o,n,e,c,hd,_⟩:=pl;exact ⟨o,e,hd⟩
  ·refine ⟨⟨o,I.kIn p o hk,hc⟩,fun a e => ?_⟩
   cases e;exact ⟨o,I.kIn _ o hk,hd⟩
  ·have z : ∃ o,s.heap.get? p=some o/\o.ExactDict:=by
    rcases hk with ⟨kvs,hk⟩ | ⟨kvs,hk⟩
    ·obtain ⟨_,_,_,_,o,_,_,e,ex,_⟩:=I.hok p _ hk
     exact ⟨o,e,ex⟩
    ·obtain ⟨_,_,_,_,o,_,_,e,ex,_⟩:=I.hok p _ hk
     exact ⟨o,e,ex⟩
   obtain ⟨o,e,ex⟩:=z;refine ⟨⟨o,e,ex.1⟩,fun a e2 => ?_⟩;cases e2;exact ⟨o,e,ex.2.1⟩
  ·obtain ⟨o,_,_,_,e,ex,_⟩:=I.hok p _ hk
   refine ⟨⟨o,e,ex.1⟩,fun a e2 => ?_⟩;cases e2;exact ⟨o,e,ex.2.1⟩
 | _=>exact CD ty
def tBM0 (K:Aa)(T:String)(r:V->List V->Hp->VK->Prop)(to:TE):TE:=fun σ H Q=>to σ H fun x H1=>tyV K T x H1/\r x [] H1 Q
def tBM (K:Aa)(T:String)(r:V->List V->Hp->VK->Prop)(to:TE)(t:TA):TE:=fun σ H Q=>to σ H fun x H1=>tyV K T x H1/\t σ H1 fun xs H2=>r x xs H2 Q
variable {o e:Expr}{es:List Expr}{to:TE}{t:TA}{name:Str}{apos cpos:Pos}{T id:String}{r:V->List V->Hp->VK->Prop}
theorem iS (pa:PlainAttrs T)(slot:Slot T name id)(hty:typeOf (.builtin id)=pure (.type "method_descriptor"))(hm:MtR X id r)(ho:PE X o to)(ha:PA X (e :: es) t)
  (hbase:Ed o name X.env (eval o X.env)=eval o X.env:=by rfl)
  (hfew:((backTo cpos (AS (e :: es) X.env)).all (fun x => !x.1) && (backToKw cpos (keywordEach [] X.env)).all (fun x=>x.1.isSome)
   && decide ((e :: es).length+([]:List Keyword).length+(if ([]:List Keyword).isEmpty then 0 else 1) < 30))=true:=by rfl)
  (hline:(apos.endLine == cpos.line)=true:=by rfl) (hs:AS (e :: es) X.env=(false,eval e X.env) :: AS es X.env:=by rfl) (hplain:(backTo cpos (AS es X.env)).any (·.1)=false:=by rfl) :
  PE X (.Call (.Attribute o name apos) (e :: es) [] cpos) (tBM X.K T r to t):=by
 intro pins s σ H Q I h;refine wpAny_Call_method_late hbase hfew hline rfl (thn (ho pins s σ H _ I h) fun v s1 ⟨x,H1,I1,r1,ty,q1⟩ => ?_);obtain ⟨h1,h2⟩:=aD7 I1 r1 ty;refine ⟨T,id,pa,slot,hty,h1,h2,?_⟩;have hA:=ha cpos pins s1 σ H1 _ I1 q1;rw [hs] at hA ⊢;refine Dy (by show (false || (backTo cpos (AS es X.env)).any (·.1))=false; rw [hplain] <;> rfl) (EL ?_);exact thn hA fun us s2 ⟨vs,H2,I2,r2,q2⟩=>hm pins s2 σ H2 x vs v us Q I2 r1 r2 q2
end
def MtM (X:Cx)(id:String)(r:V->List V->Hp->VK->Prop):Prop :=
 ∀ (pins:List (Addr × Obj)) (s:Shared) (σ:St) (H:Hp) (x:V) (xs:List V) (v:Value) (us:List Value) (Q:VK),Inv X pins σ H s->RelV x v->Vals xs us->r x xs H Q ->
  wpAny (model X.prog X.w) X.A (call (.builtin id) (v :: us)) (EP X pins σ Q) X.xe s
theorem Vals.one : ∀ {x:V} {us:List Value},Vals [x] us->∃ u,us=[u]/\RelV x u
 | _,_,.cons r .nil=>⟨_,rfl,r⟩
theorem Vals.two : ∀ {x y:V} {us:List Value},Vals [x,y] us->∃ u v,us=[u,v]/\RelV x u/\RelV y v
 | _,_,_,.cons r (.cons q .nil)=>⟨_,_,rfl,r,q⟩
section
variable {X:Cx}{pins:List (Addr × Obj)}{σ:St}{H:Hp}{s:Shared}{l b:Addr}{xs ys zs:List V}
theorem Inv.lset {its its':List Value}{n:Nat}{f:Array Value->Array Value}{t':Nat}(I:Inv X pins σ H s)(hH:H l=some (.lst xs))
  (e:s.heap.get? l=some { cls:=.type "list",data:=.seq its.toArray n }) (hf:f its.toArray=its'.toArray) (hv:Vals ys its') (hz:ys.length<=Aw) :
  Inv X pins σ (upd H l (.lst ys)) { s with heap:=s.heap.update l (DS f),toks:=t' }:=by
 have q:=PySem.IsL.update e f;rw [hf] at q;refine I.write (x:=l) (e:=l) (by rw [hH]; exact trivial) (.inl rfl) (fun b' u hb hu=>(AW s.heap (DS f) (AM hb)).trans hu) ⟨_,q⟩ ?_;exact ⟨hz,its',_,hv,q⟩
theorem Inv.lnew {t':Nat}(I:Inv X pins σ H s)(hv:Vals ys its)(hz:ys.length<=Aw) :
  Inv X pins σ (upd H s.heap.objs.size (.lst ys)) { s with heap:=s.heap.push { cls:=.type "list",data:=.seq its.toArray },toks:=t' } :=
 I.laid (fun _ _ q=>Ac _ q) (Ak _) ⟨hz,its,0,hv,Ah _ rfl⟩
theorem Inv.fresh (I:Inv X pins σ H s):H s.heap.objs.size=none:=I.hok.fresh (Ak _)
theorem Inv.lstM (I:Inv X pins σ H s)(hH:H l=some (.lst xs)):xs.length<=Aw/\∃ (its:List Value) (n:Nat),Vals xs its/\xs.length=its.length/\s.heap.get? l=some { cls:=.type "list",data:=.seq its.toArray n }:=by
 obtain ⟨z,its,n,r,e⟩:=I.hok l _ hH;exact ⟨z,its,n,r,r.length,e⟩
end
section
variable {X:Cx}
def aCk:V->List V->Hp->VK->Prop:=fun x vs H Q=>∃ l xs y,x = .ref l/\vs=[y]/\H l=some (.lst xs)/\xs.length < Aw/\Q .non (upd H l (.lst (xs ++ [y])))
theorem bW:MtM X "list.append" aCk:=by
 intro pins s σ H x vs v us Q I rx rv h;obtain ⟨l,xs,y,rfl,rfl,hH,hz,q⟩:=h;cases rx;obtain ⟨u,rfl,ru⟩:=rv.one;obtain ⟨z,its,n,r,hl,e⟩:=I.lstM hH;refine call_meets F.slot_list_append ⟨_,e,rfl⟩ F.entry_list_append (F.args_list_append_2 _ _) (PySem.list_append l its.toArray n u (by rw [Aj]; omega)) ⟨e,?_⟩;refine ⟨.non,_,I.lset (its':=its ++ [u]) hH e (by simp) (r.append (.cons ru .nil)) ?_,rfl,q⟩;rw [AB,EF];omega
def rExtend:V->List V->Hp->VK->Prop:=fun x vs H Q=>∃ l b xs zs,x = .ref l/\vs=[.ref b]/\H l=some (.lst xs)/\H b=some (.lst zs)/\xs.length+zs.length<=Aw/\Q .non (upd H l (.lst (xs ++ zs)))
def rPop:V->List V->Hp->VK->Prop:=fun x vs H Q=>∃ l xs y,x = .ref l/\vs=[]/\H l=some (.lst xs)/\xs[xs.length - 1]?=some y/\Q y (upd H l (.lst xs.dropLast))
def rPopAt:V->List V->Hp->VK->Prop:=fun x vs H Q=>∃ l xs i k y,x = .ref l/\vs=[.int i]/\H l=some (.lst xs) /\ -(2 ^ 63)<=i/\i < 2 ^ 63/\seqIndex? i xs.length=some k/\xs[k]?=some y/\Q y (upd H l (.lst (xs.eraseIdx k)))
def rReverse:V->List V->Hp->VK->Prop:=fun x vs H Q=>∃ l xs,x = .ref l/\vs=[]/\H l=some (.lst xs)/\Q .non (upd H l (.lst xs.reverse))
def rClear:V->List V->Hp->VK->Prop:=fun x vs H Q=>∃ l xs,x = .ref l/\vs=[]/\H l=some (.lst xs)/\Q .non (upd H l (.lst []))
def rCat:R2:=fun x y H Q=>∃ l b xs zs,x = .ref l/\y = .ref b/\H l=some (.lst xs)/\H b=some (.lst zs)/\xs.length+zs.length<=Aw/\∀ p,H p=none->Q (.ref p) (upd H p (.lst (xs ++ zs)))
theorem aBb:OpR X (Eb .Add) rCat:=by
 intro pins s σ H x y v u Q I rx ry h;obtain ⟨l,b,xs,zs,rfl,rfl,hH,hB,hz,q⟩:=h;cases rx;cases ry;obtain ⟨z,its,n,r,hl,e⟩:=I.lstM hH;obtain ⟨z2,its2,n2,r2,hl2,e2⟩:=I.lstM hB;refine PySem.P.add_list e e2 ?_ (by rw [Aj,Aj]; omega);have ea:its.toArray ++ its2.toArray=(its ++ its2).toArray:=by simp
 rw [ea];exact ⟨.ref _,_,I.lnew (t':=s.toks) (r.append r2) (by rw [AB]; omega),rfl,q _ I.fresh⟩
def rRep:R2:=fun x y H Q=>∃ l k xs,x = .ref l/\y = .int k/\H l=some (.lst xs) /\ -(2 ^ 63)<=k/\k < 2 ^ 63/\xs.length*k.toNat<=Aw /\
 ∀ p,H p=none->Q (.ref p) (upd H p (.lst (CL k.toNat xs).flatten))
end
section
variable {prog:Ax}{w:World}{A:Around}{E:Value->Shared->Prop}{s:Shared}
set_option maxRecDepth 100000 in
end
section
variable {X:Cx}
end
end L2
namespace Att
open PySem PySem.W PySem.Calls PyProof.Rows
theorem jC  : ∀ (ns:List Int) (vs:List Value),WellAll P h vs (ns.map WData.int)->IntsAre vs ns:=by
 intro ns
 induction ns with
 | nil =>
  intro vs w;rw [List.map_nil] at w;cases w;exact .nil
 | cons n ns ih =>
  intro vs w;rw [Ai] at w;cases w with
  | cons a b =>
   cases a;exact .cons _ _ (ih _ b)
theorem uJ {l:OpenLaw}{n:Nat}(hn:l.most=some n)(hpre:l.row.toRowW.claim.pre args=true)(hwl:WellAll P h vals args) :
  ∃ a vs ns,vals=[AC a]/\args=[WData.list (ns.map WData.int)]/\h.get? a=some { cls:=.type "list",data:=.seq vs.toArray }/\IntsAre vs ns/\ns.length<=n:=by
 have hsh:WShape.hasAll [] args [.list .int]=true:=(pre_splitW hpre).1;have hc:l.pre.holds [] { args:=args }=true:=(pre_splitW hpre).2;obtain ⟨d,r,rfl,h1,h2⟩:=hasAllW_cons hsh;obtain rfl:=hasAllW_nil h2;obtain ⟨xs,rfl,h3⟩:=hasW_list h1;obtain ⟨ns,rfl⟩:=items_int h3;have hlen:ns.length<=n:=by
  unfold OpenLaw.pre at hc;have h4:(WTm.not (.lt (.lit (.int (n:Int))) (.len (.arg 0)))).holds [] { args:=[.list (ns.map .int)] }=true:=by
   have h4:=(holds_andW hc).1;rw [hn] at h4;exact h4
  have h5:=condW_of h4 (w_not (w_lt w_lit (w_len_list (w_arg rfl))));rw [Ag] at h5;refine Nat.le_of_not_lt fun q => ?_;have q':(n:Int) < ((ns.length:Nat):Int):=by omega
  first
   | (rw [decide_eq_true q'] at h5; exact absurd h5 (by decide))
   | (simp at h5; omega)
 cases hwl with
 | cons w1 w2 =>
  cases w2;cases w1 with
  | list ho hall=>exact ⟨_,_,ns,rfl,rfl,ho,jC ns _ hall,hlen⟩
theorem uV (l:OpenLaw)(args:List WData):l.row.toRowW.claim.post args (.bool true) args=true :=
 postW_of (r:=l.row.toRowW) (X:=(true == true))
  (show WShape.has [] (.bool true) .bool=true by first | rfl | decide | simp [WShape.has,WShape.arms,WShape.armsAll])
  (show (WTm.eq .res (.lit (.bool true))).value [] { args:=args,res:=some (.bool true),after:=args }=some (.bool (true == true)) from w_eq_bool (w_res rfl) w_lit) rfl
theorem attach_call {l:OpenLaw}{n:Nat}(hn:l.most=some n)(hdf:d.params.defaults=[])(call : ∀ (w:World) (s₀ s₁:Shared) (mg mb:Str->Option Value) (fa:Addr) (o:Obj) (pm cd doc:Value) (a:Addr) (vs:List Value) (ns:List Int),
   Ground q loose [] XP w s₀ mg mb s₁.heap->YP w s₁.heap ->
   s₁.heap.get? fa=some o->o.data = .func (docDef d.name d.params d.body d.scope pm cd doc)->s₁.heap.CodeRec cd d.name->mg d.name=some (.ref fa) ->
   s₁.heap.get? a=some { cls:=.type "list",data:=.seq vs.toArray }->IntsAre vs ns->ns.length<=n->s₁.gens = #[] ->
   DJ (model l.prog w) callerA (.call (.ref fa) ⟨[.ref a],[]⟩) (fun r s'=>r = .ok (.ret (.bool true))/\OldK s₁.heap s'.heap/\s'.os=s₁.os/\AllBare s'.gens) s₁) :
  WalkO q loose XP YP l.row.toRowW d [] (fun f vs=>PySem.call f vs):=by
 intro w s₀ s₁ mg mb G Y fa o pm cd doc dV kV ho hd hcd hD hmg hg args vals as hpre hlay hrd hwl hlo;obtain rfl:dV = .none:=Dflts.none hD hdf;obtain rfl:kV = .none:=Dflts.noKw hD;obtain ⟨a,vs,ns,rfl,rfl,hobj,hints,hlen⟩:=uJ hn hpre hwl;refine enter_call (Ck (call w s₀ s₁ mg mb fa o pm cd doc a vs ns G Y ho (fd_plain hd) hcd hmg hobj hints hlen hg) fun r s' hq => ?_);obtain ⟨rfl,h2,h3,h4⟩:=hq;exact ⟨.inl ⟨.bool true,.bool true,[],rfl,fun _=>rfl,.bool true,uV l _,fun _=>⟨List.Pairwise.nil,fun _ hm=>(nomatch hm)⟩⟩,h2,h3,h4⟩
section
variable {prog:Ax}{w:World}{A:Around}{E:Value->Shared->Prop}{s:Shared}{K:Frag}
def noObjs (h:Heap):Heap:={ h with objs := #[] }
def ledger (h:Heap)(L d:Addr):List (Addr × Obj):=(Bc h.objs.size).filterMap fun a=>if a=L\/a=d then none else (h.get? a).map fun o=>(a,o)
end
end Att
namespace L2
open PySem PySem.Spec PyProof.Rows
theorem lS : ∀ {vs:List Value} {ns:List Int},IntsAre vs ns->Vals (ns.map V.int) vs
 | _,_,.nil=>.nil
 | _,_,.cons n t h=>.cons ⟨t,rfl⟩ (lS h)
def Only (H:Hp):Prop:=∀ b,H b=none\/∃ o xs,H b=some (.frz o (.lst xs))
theorem aAb {P:Ax}{w:World}{K:Aa}{mg mb:Str->Option Value}{CX:CXT}{k:Nat}{fa a:Addr}{fd:Bf}{x:Str}{sp:Sp}{s₁:Shared}{vs:List Value}{ns:List Int}
  (KX:K.In s₁.heap) (hns:s₁.heap.Ns An mg) (hb:s₁.heap.Ns builtinsNs mb) (hbb : ∀ x:Str,x ≠ "__name__" -> mb x=Cb x) (hlim:s₁.heap.NoLimit) (hg:s₁.gens = #[])
  (ha:s₁.heap.get? a=some { cls:=.type "list",data:=.seq vs.toArray }) (hi:IntsAre vs ns) (hl:ns.length<=Aw) (hr:Room k callerA)
  (F : ∀ base:Heap,K.In base->base.Ns An mg->FnOk P w K mg base CX k fa fd [x] sp) (hbind : ∀ (s:Shared) (u:Value),BindsTo s fd ⟨[u],[]⟩ [(x,u)])
  (hsp : ∀ H:Hp,Only H->SqL K H a (ns.map V.int)->sp [.ref a] H (fun v _=>v = .bl true) fun _ _ _=>False)
  (hCX : ∀ H e s',CX [] H s₁ (fun _ _ _=>False) e s'->False) :
  DJ (model P w) callerA (.call (.ref fa) ⟨[.ref a],[]⟩) (fun r s'=>r = .ok (.ret (.bool true))/\OldK s₁.heap s'.heap/\s'.os=s₁.os/\AllBare s'.gens) s₁:=by
 have rv:=lS hi;have lenV:=hi.length;have core : ∀ H:Hp,Only H->SqL K H a (ns.map V.int)->HOk P w H s₁.heap->(∀ b,H b ≠ none->b=a)->(H a ≠ none->K.lookup a=none) ->
   DJ (model P w) callerA (.call (.ref fa) ⟨[.ref a],[]⟩) (fun r s'=>r = .ok (.ret (.bool true))/\OldK s₁.heap s'.heap/\s'.os=s₁.os/\AllBare s'.gens) s₁:=by
  intro H hO hS hok hA hK;have base_of : ∀ {b:Addr} {o:Obj},s₁.heap.get? b=some o->H b=none->(hidT s₁.heap H).get? b=some o:=fun e n=>aAg e n;have noA : ∀ {b:Addr} {o:Obj} {es:Array DictEntry} {ep:Nat},s₁.heap.get? b=some o->o.data = .dict es ep->H b=none:=fun {b o es ep} e d=>by
   cases q:H b with
   | none=>rfl
   | some u =>
    have e':b=a:=hA b (by rw [q]; simp);subst e';rw [ha] at e; cases e;have d':Data.seq vs.toArray _=Data.dict es ep:=d;cases d'
  have nsK : ∀ {b:Addr} {m:Str->Option Value},s₁.heap.Ns b m->(hidT s₁.heap H).Ns b m:=fun {b m} ⟨o,es,ep,e,d,r⟩=>⟨o,es,ep,base_of e (noA e d),d,r⟩;have hKb:K.In (hidT s₁.heap H):=fun b o e=>base_of (KX b o e) (by
   cases q:H b with
   | none=>rfl
   | some u =>
    have e':b=a:=hA b (by rw [q]; simp);subst e';rw [hK (by rw [q]; simp)] at e; cases e)
  have hM:Mod K mg (hidT s₁.heap H):=⟨hKb,nsK hns,⟨mb,nsK hb,hbb⟩,let ⟨mc,h1,h2⟩:=hlim; ⟨mc,nsK h1,h2⟩⟩;have e0:Env0 P w K mg (hidT s₁.heap H) callerA [] s₁ H:=⟨rfl,hM,fun b o e=>aDf e,Nat.le_of_eq (wV _ _),trivial,fun b hb=>absurd (show b ∈ ([]:List Addr) from hb) (by simp),hok,.of_eq hg⟩;refine Ck ((F _ hKb (nsK hns)).run callerA [] s₁ H ⟨[.ref a],[]⟩ [.ref a] [.ref a] _ _ hr e0 (hbind s₁ (.ref a)) (.cons rfl .nil) (hsp H hO hS)) fun r s' h => ?_;cases r with
  | error e=>exact (hCX H e s' h).elim
  | ok fl =>
   cases fl with
   | next=>exact CD h
   | brk=>exact CD h
   | cont=>exact CD h
   | ret u =>
    obtain ⟨v,H',os,bare,un,hok',r',q⟩:=h;have q':v = .bl true:=q;subst q';obtain rfl:u=Value.bool true:=r';refine ⟨rfl,OldK.of_keep fun b o e => ?_,os,bare⟩;cases q:H b with
    | none=>exact un.keep b o e q (by intro z; exact absurd (show b ∈ ([]:List Addr) from z) (by simp)) (by simp)
    | some u =>
     rcases hO b with z | ⟨ob,xs,z⟩
     ·rw [q] at z; cases z
     ·have z2:=un.frzs b ob _ z
      obtain ⟨e1,_⟩:=hok b _ z;obtain ⟨e2,_⟩:=hok' b _ z2;rw [e] at e1; cases e1;exact e2
 cases hk:K.lookup a with
 | some o =>
  have e:=KX a o hk;rw [ha] at e;cases e;refine core (fun _=>none) (fun _=>.inl rfl) (.inr ⟨_,vs.toArray,_,hk,rfl,rfl,rfl,by rw [Aj,lenV]; exact hl,by simpa using rv⟩) (fun b u z=>by have z':(none:Option HO)=some u:=z; cases z') (fun b z=>absurd rfl z) fun z=>absurd rfl z
 | none =>
  refine core (fun b=>if b=a then some (.frz { cls:=.type "list",data:=.seq vs.toArray } (.lst (ns.map V.int))) else none) (fun b => ?_) (.inl (.inr ⟨{ cls:=.type "list",data:=.seq vs.toArray },if_pos rfl⟩)) (fun b u z => ?_) (fun b z => ?_) fun _=>hk
  ·by_cases hb:b=a
   ·exact .inr ⟨_,_,if_pos hb⟩
   ·exact .inl (if_neg hb)
  ·by_cases hb:b=a
   ·have z':=(if_pos hb).symm.trans z
    cases z';subst hb;exact ⟨ha,by rw [Ag]; exact hl,vs,_,rv,ha⟩
   ·have z':=(if_neg hb).symm.trans z
    cases z'
  ·by_cases hb:b=a
   ·exact hb
   ·exact absurd (if_neg hb) z
abbrev KOf {K:Aa}{h:Heap}(_:K.In h):Aa:=K
theorem walk_of {l:PySem.W.OpenLaw}{n k:Nat}{q:Ax}{loose:List Str}{XP:(Str->Option Value)->Heap->Prop}{YP:World->Heap->Prop}{d:DefRec}{K:Params->Aa}{CX:World->CXT}{sp:World->Sp}{x:Str}
  (hn:l.most=some n) (hn2:n<=Aw) (hdf:d.params.defaults=[]) (hr:Room k callerA)
  (hY : ∀ (w:World) (h:Heap),YP w h->(K w.params).In h)
  (F : ∀ (w:World) (mg:Str->Option Value) (fa:Addr) (h:Heap),(K w.params).In h->h.Ns An mg->mg d.name=some (.ref fa) ->
   ∃ fd:Bf,(∀ (s:Shared) (u:Value),BindsTo s fd ⟨[u],[]⟩ [(x,u)]) /\
    ∀ base:Heap,(K w.params).In base->base.Ns An mg->FnOk l.prog w (K w.params) mg base (CX w) k fa fd [x] (sp w))
  (hsp : ∀ (w:World) (H:Hp) (a:Addr) (ns:List Int),ns.length<=n->Only H->SqL (K w.params) H a (ns.map V.int)->sp w [.ref a] H (fun v _=>v = .bl true) fun _ _ _=>False)
  (hCX : ∀ (w:World) (H:Hp) (s:Shared) (e:Value) (s':Shared),CX w [] H s (fun _ _ _=>False) e s'->False) :
  PySem.W.WalkO q loose XP YP l.row.toRowW d [] (fun f vs=>PySem.call f vs):=by
 refine Att.attach_call hn hdf fun w s₀ s₁ mg mb fa o pm cd doc a vs ns G Y ho hd hcd hmg hobj hints hlen hg => ?_;have KX:=hY w _ Y;obtain ⟨fd,hb,hF⟩:=F w mg fa _ KX G.T.g hmg;exact aAb KX G.T.g G.T.b G.T.builtins G.T.nolimit hg hobj hints (AX hlen hn2) hr hF hb (fun H hO hS=>hsp w H a ns hlen hO hS) fun H e s'=>hCX w H s₁ e s'
def inClass (s:Stmt)(j:Nat):Stmt:=match s with
 | .ClassDef _ _ _ body _ _ _ _ _ _ _=>body.getD j (.Pass ⟨0,0,0,0⟩)
 | _=>.Pass ⟨0,0,0,0⟩
def dX (s:Stmt):Arguments:=match s with
 | .FunctionDef _ a _ _ _ _ _ _ _ _=>a
 | _=>{ posonlyargs:=[],args:=[],vararg:=none,kwonlyargs:=[],kw_defaults:=[],kwarg:=none,defaults:=[] }
def dN (s:Stmt):List Stmt:=match s with
 | .FunctionDef _ _ b _ _ _ _ _ _ _=>b
 | _=>[]
def aH (s:Stmt):Scope:=match s with
 | .FunctionDef _ _ _ _ _ _ sc _ _ _=>sc
 | _=>{ kind:=.function,names:=[],isGenerator:=false,isCoroutine:=false }
abbrev CX0:CXT:=fun _ _ _ _ _ _=>False
abbrev E0:XK:=fun _ _ _=>False
theorem aT :gZ CX0 X E0:=fun _ _ _ _ _ _ _ h=>h.elim
structure Fun (K:Aa)(x qual:Str)(st:Stmt)(f:Addr)(fd:Bf):Prop where
 ex : ∃ (oc:Value) (od:Option Addr) (kV doc pm:Value) (an:Option Addr) (cdv ct:Value) (osl:Array (Option Value)),
  fd=Cm x qual (dX st) (dN st) (aH st) .none kV doc pm an cdv ct/\K.lookup f=some ⟨oc,od,.func fd,osl⟩/\DR K cdv qual=true
 kp:Cw K (.ref f)=true
section
variable {P:Ax}{w:World}{K:Aa}{mg:Str->Option Value}{base:Heap}
theorem Fun.ok {x qual:Str}{st:Stmt}{f:Addr}{fd:Bf}{N ps:List Str}{k:Nat}{sp:Sp}(F:Fun K x qual st f fd)(S:FnScope N ps (aH st))(len : ∀ vs H Q E,sp vs H Q E->vs.length=ps.length)
  (hbody : ∀ (cdv:Value) (A:Around) (outer:List Env) (s:Shared) (H:Hp) (vs:List V) (Q:VK) (E:XK),Room k (A.deeper (envOfC qual (aH st) s.heap.objs.size f cdv))->sp vs H Q E ->
   ∃ t,PSs (cxOf CX0 P w K mg base N qual (aH st) f cdv A outer s H E).nox (dN st) t/\t { nx:=fun _ H'=>Q .non H',rt:=Q } (start N vs) H):FnOk P w K mg base CX0 (k+1) f fd ps sp:=by
 obtain ⟨oc,od,kV,doc,pm,an,cdv,ct,osl,rfl,lk,hcd⟩:=F.ex;refine aFv lk hcd S len fun A outer s H vs Q E hr hsp => ?_;obtain ⟨t,h,q⟩:=hbody cdv A outer s H vs Q E hr hsp;exact ⟨t,h.nox,q⟩
theorem Fun.binds {x qual:Str}{st:Stmt}{f:Addr}{fd:Bf}{ps:List Str}(F:Fun K x qual st f fd)
  (h : ∀ (kV doc pm:Value) (an:Option Addr) (cdv ct:Value) (us:List Value),us.length=ps.length->bindArgs (Cm x qual (dX st) (dN st) (aH st) .none kV doc pm an cdv ct) ⟨us,[]⟩=pure (ps.zip us)):Binds K fd ps []:=by
 obtain ⟨oc,od,kV,doc,pm,an,cdv,ct,osl,rfl,lk,hcd⟩:=F.ex;exact .all (h kV doc pm an cdv ct)
theorem jD {x qual:Str}{st:Stmt}{f:Addr}{oc:Value}{od an:Option Addr}{osl:Array (Option Value)}{kV doc pm cdv ct:Value}(l:K.lookup f=some ⟨oc,od,.func (Cm x qual (dX st) (dN st) (aH st) .none kV doc pm an cdv ct),osl⟩)
  (c:DR K cdv qual=true) (k:Cw K (.ref f)=true):Fun K x qual st f (Cm x qual (dX st) (dN st) (aH st) .none kV doc pm an cdv ct):=⟨⟨oc,od,kV,doc,pm,an,cdv,ct,osl,rfl,l,c⟩,k⟩
end
theorem jH {k:Nat}(hr:Room k A):A.units+1 < cLine:=DF (Nat.add_le_add_left (by decide:1<=64) _) hr.units
theorem bO {n:Nat}(h:n<=1000):n < Aw:=DF h (by decide)
section
variable {X:Cx}
theorem pv (i:Nat)(hN:X.N[i]?=some x:=by rfl)(hv:Vis X.env.scope x:=by first | exact Or.inl rfl | exact Or.inr (Or.inl rfl) | exact Or.inr (Or.inr rfl))(hd:(x == ("__debug__" : Str))=false:=by decide)(hcd:(x == ("__classdict__" : Str))=false:=by decide):PE X (.Name x pos) (tVar i):=vC hN hv hd hcd
end
theorem iteF {A B:Prop}(h:B):if false=true then A else B:=by
 rw [if_neg Az];exact h
theorem iteT {A B:Prop}(h:A):if true=true then A else B:=by
 rw [if_pos rfl];exact h
theorem ite2 {c A B:Prop}[Decidable c](h1:c->A)(h2 : ¬ c->B):if c then A else B:=by
 by_cases h:c
 ·rw [if_pos h]
  exact h1 h
 ·rw [if_neg h]
  exact h2 h
def Same (H H':Hp):Prop:=∀ b o,H b=some o->H' b=some o
theorem Same.refl (H:Hp):Same H H:=fun _ _ h=>h
theorem Same.trans (a:Same H H1)(b:Same H1 H2):Same H H2:=fun c o h=>b c o (a c o h)
theorem Same.seq {K:Aa}{H H':Hp}{a:Addr}{xs:List V}(e:Same H H')(h:SqL K H a xs):SqL K H' a xs:=by
 rcases h with (h | ⟨o,h⟩) | h
 ·exact .inl (.inl (e _ _ h))
 ·exact .inl (.inr ⟨o,e _ _ h⟩)
 ·exact .inr h
end L2
namespace GM
def G (a b:Int):Int:=(Int.gcd a b:Int)
theorem aBt {a:Int}(h:0<=a):G a 0=a:=by
 unfold G;rw [Int.gcd_zero_right];omega
theorem aF6 (a b:Int):G b (a % b)=G a b:=by
 unfold G
 congr 1
 have e:a % b=a - b*(a / b):=by
  have:=Int.emod_add_mul_ediv a b;omega
 rw [e,Int.gcd_sub_mul_left_right,Int.gcd_comm]
theorem nU {a b:Int}(h:0 < b):0 < G a b:=by
 unfold G;have:0 < Int.gcd a b:=Int.gcd_pos_of_ne_zero_right a (by omega);omega
theorem yF (a b:Int):G a b ∣ a:=Int.gcd_dvd_left a b
theorem pL (a b:Int):G a b ∣ b:=Int.gcd_dvd_right a b
theorem yE {a b:Int}(h:0 < b):G a b<=b:=Int.le_of_dvd h (pL a b)
structure Amt (t b:Int):Prop where
 t0:0<=t
 b1:1<=b
 g:G t b=1
theorem iX {t b:Int}(h0:0<=t)(h1:1<=b):Amt (t / G t b) (b / G t b):=by
 have gp:=nU (a:=t) (b:=b) (by omega);refine ⟨DM h0 (by omega),Int.ediv_pos_of_pos_of_dvd (by omega) (by omega) (pL t b),?_⟩;unfold G at *
 have:=Int.gcd_ediv_gcd_ediv_gcd (i:=t) (j:=b) (by omega);omega
theorem aFl (t b:Int):t / G t b*G t b=t:=Int.ediv_mul_cancel (yF t b)
theorem aFk (t b:Int):b / G t b*G t b=b:=Int.ediv_mul_cancel (pL t b)
theorem xC {t b x:Int}(h:Amt t b)(d:b ∣ t*x):b ∣ x:=by
 have g1:Int.gcd b t=1:=by have:=h.g; unfold G at this; rw [Int.gcd_comm]; omega
 have:=Int.dvd_gcd_mul_iff_dvd_mul.mpr d;rw [g1] at this
 simpa using this
theorem tK {t b t' b':Int}(h:Amt t b)(h':Amt t' b')(e:t*b'=t'*b):t=t'/\b=b':=by
 have d1:b ∣ b':=xC h ⟨t',by rw [e,BO]⟩;have d2:b' ∣ b:=xC h' ⟨t,by rw [<- e,BO]⟩;have p:=h.b1;have p':=h'.b1;have eb:b=b':=Int.dvd_antisymm (by omega) (by omega) d1 d2;subst eb;exact ⟨BC (by omega) e,rfl⟩
theorem fW (t b:Int):t / G t b*b=t*(b / G t b):=by
 have e1:=aFl t b;have e2:=aFk t b
 calc t / G t b*b=t / G t b*(b / G t b*G t b):=by rw [e2]
  _=t / G t b*G t b*(b / G t b):=by rw [BO (b / G t b),BF]
  _=t*(b / G t b):=by rw [e1]
theorem aDw {t:Int}(h:0<=t):Amt t 1:=by
 refine ⟨h,by omega,?_⟩;unfold G;rw [Int.gcd_one_right];rfl
theorem jS {t b x y:Int}(h0:0<=t)(h1:1<=b)(h:Amt x y)(e:x*b=t*y):t / G t b=x/\b / G t b=y:=by
 have a:=iX h0 h1;refine tK a h ?_;have c:=fW t b;have gp:=nU (a:=t) (b:=b) (by omega);have e1:=aFl t b;have e2:=aFk t b;refine BC (a:=G t b) (by omega) ?_
 calc t / G t b*y*G t b=t / G t b*G t b*y:=by rw [BF,BO y,<- BF]
  _=x*b:=by rw [e1,e]
  _=x*(b / G t b)*G t b:=by rw [BF,e2]
end GM
namespace L2
open PySem PySem.Spec PyProof.Rows
inductive Isi (K:Aa)(H:Hp):V->String->Bool->Prop where
 | int_int {n}:Isi K H (.int n) "int" true
 | int_bool {n}:Isi K H (.int n) "bool" false
 | int_tuple {n}:Isi K H (.int n) "tuple" false
 | int_str {n}:Isi K H (.int n) "str" false
 | int_list {n}:Isi K H (.int n) "list" false
 | bl_int {b}:Isi K H (.bl b) "int" true
 | bl_bool {b}:Isi K H (.bl b) "bool" true
 | bl_tuple {b}:Isi K H (.bl b) "tuple" false
 | bl_str {b}:Isi K H (.bl b) "str" false
 | str_int {x}:Isi K H (.str x) "int" false
 | str_bool {x}:Isi K H (.str x) "bool" false
 | str_tuple {x}:Isi K H (.str x) "tuple" false
 | str_str {x}:Isi K H (.str x) "str" true
 | non_int:Isi K H .non "int" false
 | non_str:Isi K H .non "str" false
 | non_tuple:Isi K H .non "tuple" false
 | tup_tuple {a xs}:SqT K H a xs->Isi K H (.ref a) "tuple" true
 | tup_int {a xs}:SqT K H a xs->Isi K H (.ref a) "int" false
 | tup_str {a xs}:SqT K H a xs->Isi K H (.ref a) "str" false
 | tup_list {a xs}:SqT K H a xs->Isi K H (.ref a) "list" false
 | lst_tuple {a xs}:SqL K H a xs->Isi K H (.ref a) "tuple" false
 | lst_int {a xs}:SqL K H a xs->Isi K H (.ref a) "int" false
 | lst_str {a xs}:SqL K H a xs->Isi K H (.ref a) "str" false
 | lst_list {a xs}:SqL K H a xs->Isi K H (.ref a) "list" true
section
variable {X:Cx}
theorem dY:eQ X (.builtin "isinstance") (fun xs H Q=>∃ x T b,xs=[x,.ty T]/\Isi X.K H x T b/\Q (.bl b) H):=by
 intro pins s σ H xs us Q I r h;obtain ⟨x,T,b,rfl,hi,q⟩:=h;obtain ⟨u,w',rfl,rx,ry⟩:=vals2 r;cases ry;have f1:EP X pins σ Q (.bool b) s:=⟨.bl b,H,I,rfl,q⟩;have f2:EP X pins σ Q (.bool b) { s with toks:=s.toks+1 }:=⟨.bl b,H,I.tok _,rfl,q⟩;cases hi with
 | int_int=>obtain ⟨t,rfl⟩:=rx; exact IsiPair.int_int f1
 | int_bool=>obtain ⟨t,rfl⟩:=rx; exact IsiPair.int_bool f2
 | int_tuple=>obtain ⟨t,rfl⟩:=rx; exact IsiPair.int_tuple f2
 | int_str=>obtain ⟨t,rfl⟩:=rx; exact IsiPair.int_str f2
 | int_list=>obtain ⟨t,rfl⟩:=rx; exact IsiPair.int_list f2
 | bl_int=>cases rx; exact IsiPair.bool_int f1
 | bl_bool=>cases rx; exact IsiPair.bool_bool f1
 | bl_tuple=>cases rx; exact IsiPair.bool_tuple f2
 | bl_str=>cases rx; exact IsiPair.bool_str f2
 | str_int=>obtain ⟨t,rfl⟩:=rx; exact IsiPair.str_int f2
 | str_bool=>obtain ⟨t,rfl⟩:=rx; exact IsiPair.str_bool f2
 | str_tuple=>obtain ⟨t,rfl⟩:=rx; exact IsiPair.str_tuple f2
 | str_str=>obtain ⟨t,rfl⟩:=rx; exact IsiPair.str_str f1
 | non_int=>cases rx; exact IsiPair.NoneType_int f2
 | non_str=>cases rx; exact IsiPair.NoneType_str f2
 | non_tuple=>cases rx; exact IsiPair.NoneType_tuple f2
 | tup_tuple hq=>cases rx; obtain ⟨its,_,⟨o,e,c,_⟩,_⟩:=I.tuple hq; exact IsiPair.tuple_tuple e c f1
 | tup_int hq=>cases rx; obtain ⟨its,_,⟨o,e,c,_⟩,_⟩:=I.tuple hq; exact IsiPair.tuple_int e c f2
 | tup_str hq=>cases rx; obtain ⟨its,_,⟨o,e,c,_⟩,_⟩:=I.tuple hq; exact IsiPair.tuple_str e c f2
 | tup_list hq=>cases rx; obtain ⟨its,_,⟨o,e,c,_⟩,_⟩:=I.tuple hq; exact IsiPair.tuple_list e c f2
 | lst_tuple hq=>cases rx; obtain ⟨its,_,⟨o,n,e,c,_⟩,_⟩:=I.list hq; exact IsiPair.list_tuple e c f2
 | lst_int hq=>cases rx; obtain ⟨its,_,⟨o,n,e,c,_⟩,_⟩:=I.list hq; exact IsiPair.list_int e c f2
 | lst_str hq=>cases rx; obtain ⟨its,_,⟨o,n,e,c,_⟩,_⟩:=I.list hq; exact IsiPair.list_str e c f2
 | lst_list hq=>cases rx; obtain ⟨its,_,⟨o,n,e,c,_⟩,_⟩:=I.list hq; exact IsiPair.list_list e c f1
inductive DEq (K:Aa)(H:Hp):Nat->V->V->Bool->Prop where
 | flat {n x y}:eK x=true->eK y=true->DEq K H n x y (eqV x y)
 | same {n a}:DEq K H n (.ref a) (.ref a) true
 | tup {n a b xs ys} {e:Nat->Bool}:a ≠ b->SqT K H a xs->SqT K H b ys->(∀ (j:Nat) x y,xs[j]?=some x->ys[j]?=some y->DEq K H n x y (e j)) ->
   DEq K H (n+1) (.ref a) (.ref b) ((Bc (min xs.length ys.length)).all e && xs.length == ys.length)
 | lst {n a b xs ys} {e:Nat->Bool}:a ≠ b->SqL K H a xs->SqL K H b ys->(∀ (j:Nat) x y,xs[j]?=some x->ys[j]?=some y->DEq K H n x y (e j)) ->
   DEq K H (n+1) (.ref a) (.ref b) ((Bc (min xs.length ys.length)).all e && xs.length == ys.length)
theorem tT {σ:St}(I:Inv X pins σ H s)(hx:SqT X.K H a xs)(hy:SqT X.K H b ys)(hu:A.units < cLine)(hd : ∀ (j:Nat) x y u v,xs[j]?=some x->ys[j]?=some y->RelV x u->RelV y v->Bj A.in1 s u v (e j)) :
  SeqAt.RcAt A s (.ref a) (.ref b) ((Bc (min xs.length ys.length)).all e && xs.length == ys.length):=by
 obtain ⟨its,r,tx,_⟩:=I.tuple hx;obtain ⟨its',r',ty,_⟩:=I.tuple hy;have l1:=r.length;have l2:=r'.length;have q:=SeqAt.RcAt.tuples (A:=A) (e:=e) tx ty hu (fun j h1 h2 => ?_)
 ·rw [Aj,Aj,<- l1,<- l2] at q
  exact q
 ·rw [Aj] at h1 h2
  obtain ⟨x,hxj⟩ : ∃ x,xs[j]?=some x:=⟨_,Ae (by omega)⟩;obtain ⟨y,hyj⟩ : ∃ y,ys[j]?=some y:=⟨_,Ae (by omega)⟩;obtain ⟨u1,hu1,ru1⟩:=r.get hxj;obtain ⟨u2,hu2,ru2⟩:=r'.get hyj;have e1:its.toArray[j]=u1:=by
   have:=(Ad.mp hu1).2
   simpa using this
  have e2:its'.toArray[j]=u2:=by
   have:=(Ad.mp hu2).2
   simpa using this
  rw [e1,e2];exact hd j x y u1 u2 hxj hyj ru1 ru2
theorem dW (p:PlainL h a its):h.IsList a its:=by
 obtain ⟨o,n,e,c,_,d⟩:=p;exact ⟨o,e,c,n,d⟩
theorem aDl {σ:St}(I:Inv X pins σ H s)(hx:SqL X.K H a xs)(hy:SqL X.K H b ys)(hu:A.units < cLine)(hd : ∀ (j:Nat) x y u v,xs[j]?=some x->ys[j]?=some y->RelV x u->RelV y v->Bj A.in1 s u v (e j)) :
  SeqAt.RcAt A s (.ref a) (.ref b) ((Bc (min xs.length ys.length)).all e && xs.length == ys.length):=by
 obtain ⟨its,r,tx,_⟩:=I.list hx;obtain ⟨its',r',ty,_⟩:=I.list hy;have l1:=r.length;have l2:=r'.length
 by_cases hl:xs.length=ys.length
 ·have q:=SeqAt.RcAt.lists (A:=A) (e:=e) (dW tx) (dW ty) (by rw [Aj,Aj]; omega) hu (fun j h1 h2 => ?_)
  ·rw [Aj,<- l1] at q
   have e1:((Bc (min xs.length ys.length)).all e && xs.length == ys.length)=(Bc xs.length).all e:=by
    rw [<- hl,Nat.min_self,beq_self_eq_true,Bool.and_true]
   rw [e1];exact q
  ·rw [Aj] at h1 h2
   obtain ⟨x,hxj⟩ : ∃ x,xs[j]?=some x:=⟨_,Ae (by omega)⟩;obtain ⟨y,hyj⟩ : ∃ y,ys[j]?=some y:=⟨_,Ae (by omega)⟩;obtain ⟨u1,hu1,ru1⟩:=r.get hxj;obtain ⟨u2,hu2,ru2⟩:=r'.get hyj;have e1:its.toArray[j]=u1:=by
    have:=(Ad.mp hu1).2
    simpa using this
   have e2:its'.toArray[j]=u2:=by
    have:=(Ad.mp hu2).2
    simpa using this
   rw [e1,e2];exact hd j x y u1 u2 hxj hyj ru1 ru2
 ·have q:=SeqAt.RcAt.lists_lengths (A:=A) (dW tx) (dW ty) (by rw [Aj,Aj,<- l1,<- l2,bne_iff_ne]; exact hl) hu
  have e1:((Bc (min xs.length ys.length)).all e && xs.length == ys.length)=false:=by
   rw [beq_eq_false_iff_ne.mpr hl,Bool.and_false]
  rw [e1];exact q
theorem DEq.at {σ:St}(I:Inv X pins σ H s){n:Nat}{k:Bool}(d:DEq X.K H n x y k) : ∀ {A:Around} {u v:Value},A.units+n < cLine->RelV x u->RelV y v->Bj A s u v k:=by
 induction d with
 | flat fx fy=>intro A u v _ rx ry; exact aBj rx ry fx fy
 | same=>intro A u v _ rx ry; cases rx; cases ry; exact Bj.same _
 | @tup n a b xs ys e hne hx hy hd ih =>
  intro A u v hu rx ry;cases rx; cases ry;exact Bj.of_refs hne (tT I hx hy (by omega) fun j x y u v h1 h2 r1 r2=>ih j x y h1 h2 (by show A.units+1+n < cLine; omega) r1 r2)
 | @lst n a b xs ys e hne hx hy hd ih =>
  intro A u v hu rx ry;cases rx; cases ry;exact Bj.of_refs hne (aDl I hx hy (by omega) fun j x y u v h1 h2 r1 r2=>ih j x y h1 h2 (by show A.units+1+n < cLine; omega) r1 r2)
def rEqT (K:Aa):R2:=fun x y H Q=>∃ a b xs ys,∃ e:Nat->Bool,x = .ref a/\y = .ref b/\SqT K H a xs/\SqT K H b ys/\(∀ (j:Nat) x y,xs[j]?=some x->ys[j]?=some y->DEq K H 40 x y (e j)) /\
 Q (.bl ((Bc (min xs.length ys.length)).all e && xs.length == ys.length)) H
def rNeT (K:Aa):R2:=fun x y H Q=>∃ a b xs ys,∃ e:Nat->Bool,x = .ref a/\y = .ref b/\SqT K H a xs/\SqT K H b ys/\(∀ (j:Nat) x y,xs[j]?=some x->ys[j]?=some y->DEq K H 40 x y (e j)) /\
 Q (.bl (!((Bc (min xs.length ys.length)).all e && xs.length == ys.length))) H
theorem aA9 (hu:X.A.units+64 < cLine):OpR X (BI .Eq) (rEqT X.K):=by
 intro pins s σ H x y v u Q I rx ry h;obtain ⟨a,b,xs,ys,e,rfl,rfl,hx,hy,hd,q⟩:=h;cases rx; cases ry;exact tT I hx hy (by omega) (fun j x y u v h1 h2 r1 r2=>(hd j x y h1 h2).at I (by show X.A.units+1+40 < cLine; omega) r1 r2) X.prog X.w X.xe _ ⟨.bl _,H,I,rfl,q⟩
end
theorem gX {w:World}(I:Nat->Shared->Prop)(turn : ∀ n s,I n s->wpAny (model prog w) A (pyNext it) (fun r s₁=>match r with
   | none=>R (.ok .next) s₁
   | some v=>wpAny (model prog w) A (Fp target it v) (fun _ s₁'=>wpAny (model prog w) A (assign target env v) (fun _ s₂ =>
     wpAny (model prog w) A (forIn ifs true fun c r=>if r=true then do let ok <- isTrue c env (eval c env); pure (CZ ok) else pure (CZ r)) (fun ok s₃ =>
      if ok=true then wpAny (model prog w) A (eval elt env) (fun x s₄ =>
       wpAny (model prog w) A (call (.builtin "list.append") [acc,x]) (fun _ s₅=>∃ m,m < n/\I m s₅) (fun _ _=>False) s₄) (fun _ _=>False) s₃
      else ∃ m,m < n/\I m s₃) (fun _ _=>False) s₂) (fun _ _=>False) s₁') (fun _ _=>False) s₁) (fun _ _=>False) s)(n:Nat)(h:I n s):DJ (model prog w) A (.compLoop (.ListComp elt [⟨target,iter,ifs,0⟩] scope pos) 0 it acc env) R s:=by
 refine codeAny_loop rfl I (fun n s hI => ?_) n h;show wpAny _ A ((compTurn (.ListComp elt [⟨target,iter,ifs,0⟩] scope pos) 0 it acc env).onRaise (fun x=>do noteFrame x env; theTreesLotGoes x)) _ _ s;refine wpAny_noted ?_;rw [compTurn_list];refine Ab (Fg (Ab (BV (turn n s hI) (fun r s₁ h₁ => ?_) fun _ _ z=>z.elim)));cases r with
 | none=>exact Af h₁
 | some v =>
  refine Ab (BV h₁ (fun _ s₁' h₁' => ?_) fun _ _ z=>z.elim);refine Ab (BV h₁' (fun _ s₂ h₂=>Ab (BV h₂ (fun ok s₃ h₃ => ?_) fun _ _ z=>z.elim)) fun _ _ z=>z.elim);cases ok with
  | false=>exact Af ⟨rfl,h₃⟩
  | true =>
   exact Ab (Ab (BV h₃ (fun x s₄ h₄=>Ab (BV h₄ (fun _ s₅ h₅=>Af (Af ⟨rfl,h₅⟩)) fun _ _ z=>z.elim)) fun _ _ z=>z.elim))
def blk (X:Cx)(N':List Str)(scope:Scope)(cl:List (Str × Addr))(C:Addr)(s₀:Shared)(H₀:Hp)(ex:List Addr)(pn:List (Addr × Obj)):Cx where
 prog:=X.prog
 w:=X.w
 K:=X.K
 mg:=X.mg
 base:=X.base
 A:=X.A
 N:=N'
 s₀:=s₀
 H₀:=H₀
 env:=compEnvC scope cl C X.env
 outer:=X.stack
 stack:=X.stack
 ex:=ex
 fn:=fun _=>false
 calm:=X.calm
 pn:=pn
 xe:=fun _ _=>False
structure ClOk (X:Cx)(scope:Scope)(cl:List (Str × Addr)):Prop where
 run:closureFor scope X.env=pure cl
 sub : ∀ x c,cl.lookup x=some c->X.env.cells.lookup x=some c
 has : ∀ x,((relabel scope X.env).names.lookup x=some .cell\/(relabel scope X.env).names.lookup x=some .free)->∃ c,cl.lookup x=some c
structure BlkN (X:Cx)(N':List Str)(scope:Scope)(cl:List (Str × Addr))(σ σ':St):Prop where
 len:σ'.length=N'.length
 from' : ∀ (i:Nat) (x:Str) (v:V),N'[i]?=some x->σ'[i]?=some (some v)->∃ j:Nat,X.N[j]?=some x/\σ[j]?=some (some v)/\Vis X.env.scope x/\X.env.kindOf x ≠ some .local /\
  ((relabel scope X.env).names.lookup x=some .cell\/(relabel scope X.env).names.lookup x=some .free)
section
variable {X:Cx}{pins:List (Addr × Obj)}{σ σ':St}{H:Hp}{s:Shared}
theorem nM {t':Nat}(I:Inv X pins σ H s)(hkind:scope.kind = .function)(hcl:ClOk X scope cl)(hN:BlkN X N' scope cl σ σ')(hf : ∀ b ∈ fp,FpOk X pins H b)(hfo : ∀ b ∈ fp,b < s.heap.objs.size)(hns:h₁.Ns s.heap.objs.size (fun _=>none))(hk : ∀ b o,s.heap.get? b=some o->h₁.get? b=some o) :
  Inv (blk X N' scope cl s.heap.objs.size s H fp (X.pn ++ pins)) [] σ' H { s with heap:=h₁,toks:=t' }:=by
 have hfs : ∀ b,b ∉ (X.env.locals :: X.fs)->b ∉ frs X.stack:=fun b hb z=>hb (I.stkSub b z);refine ⟨⟨I.ok.mod,hkind,I.ok.glob,I.ok.blt,Ak _,?_,hcl.has,fun _ _ h=>absurd h (by intro z; cases z),I.ok.hd,I.ok.frames,.inl rfl,?_,I.bs,AX I.ok.bsz I.sz,?_,?_,I.stack,I.stkFree⟩,
  rfl,I.bare,Un.kept hk,⟨_,hns,?_⟩,?_,I.hok.fresh (Ak _),fun x c e=>I.freeC x c (hcl.sub x c e),?_,I.hok.kept hk,hN.len⟩
 ·intro x y c h1 h2
  exact I.ok.inj x y c (hcl.sub x c h1) (hcl.sub y c h2)
 ·intro b hb
  exact ⟨Av (hfo b hb),fun x c e=>(hf b hb).2.2.2.2.1 x c (hcl.sub x c e)⟩
 ·intro b o e hb
  rcases (hf b hb).2.2.2.1 with q | q
  ·exact I.ok.noex b o e q
  ·exact absurd (AQ (Aq e) (AX I.ok.bsz q)) (CB _)
 ·intro b hb
  refine hfs b fun z => ?_
  rcases AD.mp z with z | z
  ·exact (hf b hb).2.1 z
  ·exact (hf b hb).2.2.1 z
 ·intro i x v h1 h2 _
  obtain ⟨j,hj,hσ,hv,hnl,hk'⟩:=hN.from' i x v h1 h2;obtain ⟨m,hn,hl⟩:=I.loc;obtain ⟨u,r,l⟩:=hl j x v hj hσ hv;refine ⟨u,r,.inr ⟨hk',?_⟩⟩;obtain ⟨c,hc⟩:=hcl.has x hk'
  rcases l with ⟨hloc,_⟩ | ⟨_,c',hc',hcell⟩
  ·exact absurd hloc hnl
  ·have e:=hcl.sub x c hc
   rw [hc'] at e;cases e;obtain ⟨o,ho,hd⟩:=hcell;exact ⟨_,hc,o,hk _ _ ho,hd⟩
 ·intro x c e
  obtain ⟨v,o,ho,hd⟩:=I.cell x c (hcl.sub x c e);exact ⟨v,o,hk _ _ ho,hd⟩
 ·intro p hp
  rw [show (blk X N' scope cl s.heap.objs.size s H fp (X.pn ++ pins)).pn=X.pn ++ pins from rfl,BZ] at hp;obtain ⟨a1,a2,a3,a4,a5⟩:=I.pin p hp;refine ⟨hk _ _ a1,a2,Av (Aq a1),hfs _ fun z => ?_,a5⟩
  rcases AD.mp z with z | z
  ·exact a3 z
  ·exact a4 z
theorem xZ (I:Inv X pins σ H s)(hf : ∀ b ∈ fp,FpOk X pins H b)(J:Inv (blk X N' scope cl s.heap.objs.size s H fp (X.pn ++ pins)) pl σ' H' s')(hs:Ci s.heap.objs.size s'.heap h''):Inv X pins σ H' { s' with heap:=h'' }:=by
 have hne : ∀ b o,s.heap.get? b=some o->b ≠ s.heap.objs.size:=fun b o e=>Av (Aq e);have hC:H' s.heap.objs.size=none:=J.free;have ub:Un (frs X.stack) fp H H' s.heap s'.heap:=J.base;have u:Un (frs X.stack) fp H H' s.heap h'':={
  keep:=fun b o e n hb hx=>hs.extBut b o (hne b o e) (ub.keep b o e n hb hx)
  slot:=fun b o e n hb hx=>by
   obtain ⟨sl,q⟩:=ub.slot b o e n hb hx;exact ⟨sl,hs.extBut b _ (hne b o e) q⟩
  free:=ub.free
  there:=fun b o e hx=>by
   obtain ⟨o',q⟩:=ub.there b o e hx;exact ⟨o',hs.extBut b _ (hne b o e) q⟩
  tups:=ub.tups
  frzs:=ub.frzs
  tbls:=ub.tbls }
 have hok:HOk X.prog X.w H' h'':=fun a o e=>(J.hok a o e).stay (fun b ob hb q=>hs.extBut b ob (fun z=>by
  rw [z] at hb
  rcases hb with hb | hb
  ·rw [<- hb,hC] at e; cases e
  ·rw [hC] at hb; cases hb) q) (fun _ h=>h) (fun _ _ h=>h)
 exact I.call' (s':={ s' with heap:=h'' }) J.os u hok J.bare fun b hb=>by
  obtain ⟨f0,f1,f2,f3,f4,f5⟩:=hf b hb;exact ⟨f3,f1,f4,f5⟩
end
def PIfs (X:Cx)(ifs:List Expr)(t:TT):Prop :=
 ∀ (pins:List (Addr × Obj)) (s:Shared) (σ:St) (H:Hp) (Q:Bool->Hp->Prop),Inv X pins σ H s->t σ H Q ->
  wpAny (model X.prog X.w) X.A (forIn ifs true fun c r=>if r=true then do let ok <- isTrue c X.env (eval c X.env); pure (CZ ok) else pure (CZ r)) (TP X pins σ Q) X.xe s
def yM:TT:=fun _ H Q=>Q true H
theorem eN :PIfs X [] yM:=fun _ _ _ H _ I h=>wpAny_tests_nil ⟨H,I,h⟩
theorem zC (h:PT X c t):PIfs X [c] t:=fun pins s σ H Q I hw=>wpAny_tests_one (h pins s σ H Q I hw)
structure Keep (σa σb:St):Prop where
 len:σb.length=σa.length
 at' : ∀ (i:Nat) (v:V),σa[i]?=some (some v)->σb[i]?=some (some v)
theorem Keep.refl (σ:St):Keep σ σ:=⟨rfl,fun _ _ h=>h⟩
theorem Keep.set {σa σb:St}{i:Nat}(k:Keep σa σb)(h:σa[i]?=some none):Keep σa (σb.set i (some v)):=by
 refine ⟨by rw [Cn]; exact k.len,fun j u e => ?_⟩;have hj:i ≠ j:=by
  rintro rfl
  rw [h] at e;cases e
 rw [BR hj];exact k.at' j u e
def yN (σf:St->St)(wi:TI)(g:TG)(tt:TT)(te:TE):TE:=fun σ H Q=>wi σ H fun J H1=>∀ D,H1 D=none->∃ W:Nat->Nat->List V->Hp->Prop,(∃ m,W 0 m [] (upd H1 D (.lst []))) /\
 ∀ i m ys H,W i m ys H->H D=some (.lst ys)/\ys.length < Aw /\
  ((J.stop i H/\Q (.ref D) H)\/(J.go i H/\∀ x H',J.yld i H x H'->g x (σf σ) H' fun σ2 H2=>Keep (σf σ) σ2/\tt σ2 H2 fun b H3 =>
   if b=true then te σ2 H3 fun y H4=>H4 D=some (.lst ys)/\∃ m',m' < m/\W (i+1) m' (ys ++ [y]) (upd H4 D (.lst (ys ++ [y]))) else ∃ m',m' < m/\W (i+1) m' ys H3))
theorem vG (σf:St->St)(hc:X.calm=true)(hkind:scope.kind = .function)(hcell : ∀ y ∈ scope.names,y.2 ≠ .cell)(hnames : ∀ y ∈ scope.names,y.2 = .local->scope.names.lookup y.1=some .local)(hcl:ClOk X scope cl)(hN : ∀ σ:St,σ.length=X.N.length->BlkN X N' scope cl σ (σf σ))(hi:PI X tg iter wi)(hg : ∀ C s₀ H₀ ex pn,PG (blk X N' scope cl C s₀ H₀ ex pn) tg g)(ht : ∀ C s₀ H₀ ex pn,PIfs (blk X N' scope cl C s₀ H₀ ex pn) ifs tt)(he : ∀ C s₀ H₀ ex pn,PE (blk X N' scope cl C s₀ H₀ ex pn) elt te)(hs : ∀ x,EO iter X.env x=pure x:=by intro _; rfl):PE X (.ListComp elt [⟨tg,iter,ifs,0⟩] scope pos) (yN σf wi g tt te):=by
 intro pins s σ H Q I h;rw [eval_ListComp];refine wpAny_comprehension_free (use:=none) rfl hs hcl.run hkind hnames (thn (hi pins s σ H _ I h) fun v s1 h1=>thn h1 fun itv s2 h2 => ?_);obtain ⟨it,fp,tn,J,H2,rfl,I2,T,st2,f2,q⟩:=h2;refine AY (wpAny_newFunctionEnv hcell (by intro y hy; simp at hy) (fun h₁ hns₁ hsb₁ => ?_) hkind);dsimp only at hns₁ hsb₁ ⊢;have hfo : ∀ b ∈ fp,b < s2.heap.objs.size:=fun b hb=>by
  obtain ⟨o,e,_⟩:=T.obj _ _ st2 b hb;exact Aq e
 have hDf:H2 s2.heap.objs.size=none:=I2.hok.fresh (Ak _);obtain ⟨W,⟨m0,w0⟩,turn⟩:=q s2.heap.objs.size hDf;have I3:Inv X pins σ (upd H2 s2.heap.objs.size (.lst [])) { s2 with heap:=s2.heap.push { cls:=.type "list",data:=.seq ([]:List Value).toArray } }:=I2.lnew (its:=[]) (t':=s2.toks) .nil (BM _);have f3 : ∀ b ∈ fp,FpOk X pins (upd H2 s2.heap.objs.size (.lst [])) b:=fun b hb=>⟨by rw [aI (Av (hfo b hb))]; exact (f2 b hb).1,(f2 b hb).2⟩;generalize hD:s2.heap.objs.size=D at *
 generalize hs3:({ s2 with heap:=s2.heap.push { cls:=.type "list",data:=.seq ([]:List Value).toArray } }:Shared)=s3 at *
 have hh3:s3.heap=s2.heap.push { cls:=.type "list",data:=.seq ([]:List Value).toArray }:=by rw [<- hs3]
 have hsz3:s2.heap.objs.size < s3.heap.objs.size:=by rw [hh3,BE]; exact Co _
 have e3 : ∀ h t,({ s2 with heap:=h,toks:=t }:Shared)={ s3 with heap:=h,toks:=t }:=fun h t=>by rw [<- hs3]
 rw [<- hh3] at hns₁ hsb₁ ⊢;have hk3 : ∀ b o,s3.heap.get? b=some o->h₁.get? b=some o:=fun b o e=>hsb₁.extBut b o (Av (Aq e)) (Ac _ e);have I4:=nM (t':=s3.toks) I3 hkind hcl (hN σ I.len) f3 (fun b hb=>CC (hfo b hb) (hD ▸ hsz3)) (hns:=by simpa using hns₁) hk3;generalize hB:blk X N' scope cl s3.heap.objs.size s3 (upd H2 D (.lst [])) fp (X.pn ++ pins)=B at *
 have hBp:B.prog=X.prog:=by rw [<- hB]; rfl
 have hBw:B.w=X.w:=by rw [<- hB]; rfl
 have hBK:B.K=X.K:=by rw [<- hB]; rfl
 have hBA:B.A=X.A:=by rw [<- hB]; rfl
 have hBc:B.calm=true:=by rw [<- hB]; exact hc
 have hBe:B.env=compEnvC scope cl s3.heap.objs.size X.env:=by rw [<- hB]; rfl
 have hBx:B.xe=fun _ _=>False:=by rw [<- hB]; rfl
 have hGB:PG B tg g:=hB ▸ hg _ _ _ _ _;have hTB:PIfs B ifs tt:=hB ▸ ht _ _ _ _ _;have hEB:PE B elt te:=hB ▸ he _ _ _ _ _;have stat : ∀ {H':Hp},(∀ b ∈ fp,H' b=none)->∀ b ∈ fp,FpOk B [] H' b:=fun {H'} hn b hb=>by
  obtain ⟨f0,f1,f2',f3',f4,f5⟩:=f3 b hb;rw [<- hB];refine ⟨hn b hb,Av (CC (hfo b hb) (hD ▸ hsz3)),fun z => ?_,.inl hb,fun x c e=>f4 x c (hcl.sub x c e),fun p hp => ?_⟩
  ·rcases AD.mp (I.stkSub b z) with z | z
   ·exact f1 z
   ·exact f2' z
  ·rw [show (blk X N' scope cl s3.heap.objs.size s3 (upd H2 D (.lst [])) fp (X.pn ++ pins)).pn=X.pn ++ pins from rfl,BZ] at hp
   exact f5 p hp
 have loop : ∀ s4:Shared,Inv B [] (σf σ) (upd H2 D (.lst [])) s4->tn 0 s4.heap ->
   DJ (model X.prog X.w) X.A (.compLoop (.ListComp elt [⟨tg,iter,ifs,0⟩] scope pos) 0 (.ref it) (.ref D) (compEnvC scope cl s3.heap.objs.size X.env)) (compPost (model X.prog X.w) X.A X.xe none (EP X pins σ Q) (.ref D) s3.heap.objs.size) s4:=by
  intro s4 I4 st4;refine gX (I:=fun n s'=>∃ i ys H',Inv B [] (σf σ) H' s'/\tn i s'.heap/\(∀ b ∈ fp,H' b=none)/\W i n ys H') ?_ m0 ⟨0,[],_,I4,st4,fun b hb=>(f3 b hb).1,w0⟩
  rintro n s5 ⟨i,ys,H5,I5,st5,fr5,w5⟩
  obtain ⟨hD5,hlen5,alt⟩:=turn i n ys H5 w5
  rcases alt with ⟨stop,qn⟩ | ⟨go,step⟩
  ·have z:=T.done B hBp hBw hBK hBc i [] s5 (σf σ) H5 (fun _ _=>False) I5 (stat fr5) st5 stop
   rw [hBA] at z;refine thn z fun r s6 ⟨hr,I6⟩ => ?_;subst hr;obtain ⟨m6,hn6,_⟩:=I6.loc;rw [hBe] at hn6;refine ⟨m6,hn6,fun h' hs' => ?_⟩;subst hB;exact ⟨.ref D,H5,xZ I3 f3 I6 hs',rfl,qn⟩
  ·have z:=T.item B hBp hBw hBK hBc i [] s5 (σf σ) H5 (fun _ _=>False) I5 (stat fr5) st5 go
   rw [hBA] at z;refine thn z fun r s6 ⟨u,hr,h6⟩ => ?_;subst hr;refine thn h6 fun _ s7 ⟨x,H7,I7,r7,y7,st7,fr7⟩ => ?_;have I7':=I7.pinned (stat fr7) (T.obj _ _ st7);have z8:=hGB _ s7 (σf σ) H7 x u _ I7' r7 (step x H7 y7);rw [hBp,hBw,hBA,hBe,hBx] at z8;refine thn z8 fun _ s8 ⟨σ8,H8,I8,k8,q8⟩ => ?_;have z9:=hTB _ s8 σ8 H8 _ I8 q8;rw [hBp,hBw,hBA,hBe,hBx] at z9;refine thn z9 fun ok s9 ⟨H9,I9,q9⟩ => ?_;have again : ∀ {ys':List V} {H':Hp} {s':Shared},Inv B ([] ++ jM fp s7.heap) σ8 H' s'->(∃ m',m' < n/\W (i+1) m' ys' H')->∃ m,m < n/\∃ i ys H',Inv B [] (σf σ) H' s'/\tn i s'.heap/\(∀ b ∈ fp,H' b=none)/\W i m ys H':=fun {ys' H' s'} J ⟨m',hm,w'⟩=>by
    refine ⟨m',hm,i+1,ys',H',J.unpinned.weak k8.len.symm k8.at',T.keep _ _ _ st7 fun b hb o e=>(J.pin (b,o) (AK _ (AK _ (dQ hb e)))).1,fun b hb => ?_,w'⟩;obtain ⟨o,e,d⟩:=T.obj _ _ st7 b hb;exact (J.pin (b,o) (AK _ (AK _ (dQ hb e)))).2.1
   cases ok with
   | false=>exact again I9 q9
   | true =>
    have z10:=hEB _ s9 σ8 H9 _ I9 q9;rw [hBp,hBw,hBA,hBe,hBx] at z10;refine thn z10 fun y10 s10 ⟨y,H10,I10,r10,hD10,q10⟩ => ?_;have z11:=bW (X:=B) _ s10 σ8 H10 (.ref D) [y] (.ref D) [y10] (fun _ H'=>∃ m',m' < n/\W (i+1) m' (ys ++ [y]) H') I10 rfl (.cons r10 .nil) ⟨D,ys,y,rfl,rfl,hD10,hlen5,q10⟩;rw [hBp,hBw,hBA,hBx] at z11;refine thn z11 fun _ s11 ⟨_,H11,I11,_,q11⟩=>again I11 q11
 have st4:tn 0 ({ s3 with heap:=h₁,toks:=s3.toks }:Shared).heap:=T.keep _ _ _ st2 fun b hb o e=>hk3 b o (by rw [hh3]; exact Ac _ e);have L4:=loop _ I4 st4;subst hs3;exact codeAny_compStart_list L4 (T.self _ 0 _ _ _ st4 L4)
def Bt (n:Nat)(x:Int):Prop:=x.natAbs < 2 ^ n
theorem Bt.bits {n:Nat}{x:Int}(h:Bt n x):AF.Int.intBits x<=n:=intBits_le_iff.mpr h
theorem Bt.of_bits {n:Nat}{x:Int}(h:AF.Int.intBits x<=n):Bt n x:=intBits_le_iff.mp h
theorem Bt.mono {m n:Nat}{x:Int}(h:Bt m x)(hn:m<=n):Bt n x:=AQ h (Nat.pow_le_pow_right (by decide) hn)
theorem Bt.mul {m n:Nat}{x y:Int}(h:Bt m x)(h':Bt n y):Bt (m+n) (x*y):=.of_bits (intBits_mul_le h.bits h'.bits)
theorem Bt.add {m:Nat}{x y:Int}(h:Bt m x)(h':Bt m y):Bt (m+1) (x+y):=.of_bits (by have:=intBits_add_le h.bits h'.bits; rwa [Nat.max_self] at this)
theorem Bt.le {m:Nat}{x y:Int}(h:Bt m y)(h0:0<=x)(hy:x<=y):Bt m x:=by
 unfold Bt at *
 omega
theorem aFm {n:Nat}{x:Int}(h:Bt n x)(hp:0 < x)(hn:n<=9000):x.natAbs.log2 < 9000:=by
 have:x.natAbs.log2 < n:=(Nat.log2_lt (by omega)).mpr h;omega
def aHo (i j:Int):Prop:=Bt 1000000 i/\Bt 1000000 j
def aHp (_i j:Int):Prop:=0 < j/\Bt 9000 j
def aHn (i j:Int):Prop:=0<=j/\j<=1000/\Bt 1000 i
section
variable {X:Cx}
theorem bI:OpR X (Eb .Mult) (rI aHo fun i j=>.int (i*j)):=opI fun _ _ _ _ _ _ _ hc q=>mul_int q (.of_bits (AX hc.1.bits (by decide)) (AX hc.2.bits (by decide)))
theorem aY:OpR X (Eb .FloorDiv) (rI aHp fun i j=>.int (i / j)):=opI fun i j _ _ _ _ _ hc q=>by
 have h1:(0:Int) < j:=hc.1;rw [<- Int.fdiv_eq_ediv_of_nonneg i (Int.le_of_lt h1)] at q;exact floordiv_int (by omega) q (.inl (PyProof.noPylong_of_log2 (aFm hc.2 h1 (Ak _))))
theorem iV:OpR X (Eb .Pow) (rI aHn fun i j=>.int (i ^ j.toNat)):=opI fun i j _ _ _ _ _ hc q=>by
 obtain ⟨h0,h1,h2⟩:=hc;refine PyProof.Rows.pow_int h0 ?_ q;have b:=h2.bits;have e:(2:Int) ^ 27=134217728:=by decide
 have:=Int.mul_le_mul (show (AF.Int.intBits i:Int)<=1000 by omega) h1 h0 (by decide);omega
theorem rG {K:Aa}{H:Hp}{n:Nat}(ns ms:List Int) : ∀ (j:Nat) x y,(ns.map V.int)[j]?=some x->(ms.map V.int)[j]?=some y->DEq K H n x y (ns[j]? == ms[j]?):=by
 intro j x y h1 h2;rw [As] at h1 h2;cases e1:ns[j]? with
 | none=>rw [e1] at h1; cases h1
 | some a =>
  cases e2:ms[j]? with
  | none=>rw [e2] at h2; cases h2
  | some b =>
   rw [e1] at h1;rw [e2] at h2;cases h1;cases h2;have:(some a == some b)=eqV (V.int a) (V.int b):=by
    show (a == b)=(a == b);rfl
   rw [this];exact DEq.flat rfl rfl
theorem all_ints : ∀ (ns ms:List Int),((Bc (min ns.length ms.length)).all (fun j=>ns[j]? == ms[j]?) && ns.length == ms.length)=decide (ns=ms):=by
 intro ns ms;rw [DI];simp only [Cc,CG,Dd,beq_iff_eq,decide_eq_true_eq];constructor
 ·rintro ⟨h,hl⟩
  refine List.ext_getElem? fun i => ?_
  by_cases hi:i < ns.length
  ·exact h i (by omega)
  ·rw [Bp (by omega),Bp (by omega)]
 ·rintro rfl
  exact ⟨fun _ _=>rfl,rfl⟩
def rEqI (K:Aa):R2:=fun x y H Q=>∃ a b,∃ ns ms:List Int,x = .ref a/\y = .ref b/\SqT K H a (ns.map V.int)/\SqT K H b (ms.map V.int)/\Q (.bl (decide (ns=ms))) H
def rNeI (K:Aa):R2:=fun x y H Q=>∃ a b,∃ ns ms:List Int,x = .ref a/\y = .ref b/\SqT K H a (ns.map V.int)/\SqT K H b (ms.map V.int)/\Q (.bl (!decide (ns=ms))) H
theorem aBa (hu:X.A.units+64 < cLine):OpR X (BI .Eq) (rEqI X.K):=by
 intro pins s σ H x y v u Q I rx ry h;obtain ⟨a,b,ns,ms,rfl,rfl,hx,hy,q⟩:=h;refine aA9 hu pins s σ H _ _ v u Q I rx ry ⟨a,b,_,_,fun j=>ns[j]? == ms[j]?,rfl,rfl,hx,hy,rG ns ms,?_⟩;rw [Ag,Ag,all_ints];exact q
theorem aFh {σ:St}(I:Inv X pins σ H s)(hx:SqT X.K H a xs)(hy:SqT X.K H b ys)(hu:A.units < cLine)(hd : ∀ (j:Nat) x y u v,xs[j]?=some x->ys[j]?=some y->RelV x u->RelV y v->Bj A.in1 s u v (e j)) :
  SeqAt.RcNeAt A s (.ref a) (.ref b) (!((Bc (min xs.length ys.length)).all e && xs.length == ys.length)):=by
 obtain ⟨its,r,tx,_⟩:=I.tuple hx;obtain ⟨its',r',ty,_⟩:=I.tuple hy;have l1:=r.length;have l2:=r'.length;have q:=SeqAt.RcNeAt.tuples (A:=A) (e:=e) tx ty hu (fun j h1 h2 => ?_)
 ·rw [Aj,Aj,<- l1,<- l2] at q
  exact q
 ·rw [Aj] at h1 h2
  obtain ⟨x,hxj⟩ : ∃ x,xs[j]?=some x:=⟨_,Ae (by omega)⟩;obtain ⟨y,hyj⟩ : ∃ y,ys[j]?=some y:=⟨_,Ae (by omega)⟩;obtain ⟨u1,hu1,ru1⟩:=r.get hxj;obtain ⟨u2,hu2,ru2⟩:=r'.get hyj;have e1:its.toArray[j]=u1:=by
   have:=(Ad.mp hu1).2
   simpa using this
  have e2:its'.toArray[j]=u2:=by
   have:=(Ad.mp hu2).2
   simpa using this
  rw [e1,e2];exact hd j x y u1 u2 hxj hyj ru1 ru2
theorem aE5 (hu:X.A.units+64 < cLine):OpR X (BI .NotEq) (rNeT X.K):=by
 intro pins s σ H x y v u Q I rx ry h;obtain ⟨a,b,xs,ys,e,rfl,rfl,hx,hy,hd,q⟩:=h;cases rx; cases ry;exact aFh I hx hy (by omega) (fun j x y u v h1 h2 r1 r2=>(hd j x y h1 h2).at I (by show X.A.units+1+40 < cLine; omega) r1 r2) X.prog X.w X.xe _ ⟨.bl _,H,I,rfl,q⟩
theorem vJ (hu:X.A.units+64 < cLine):OpR X (BI .NotEq) (rNeI X.K):=by
 intro pins s σ H x y v u Q I rx ry h;obtain ⟨a,b,ns,ms,rfl,rfl,hx,hy,q⟩:=h;refine aE5 hu pins s σ H _ _ v u Q I rx ry ⟨a,b,_,_,fun j=>ns[j]? == ms[j]?,rfl,rfl,hx,hy,rG ns ms,?_⟩;rw [Ag,Ag,all_ints];exact q
end
section
variable {X:Cx}
def tIt (K:Aa)(i k:Nat):TE:=fun σ H Q=>∃ p xs v,σ[i]?=some (some (.ref p))/\SqT K H p xs/\xs[k]?=some v/\Q v H
theorem pit (i k:Nat){p q:Pos}{j:Nat}(hN:X.N[i]?=some x:=by rfl)(hv:Vis X.env.scope x:=by first | exact Or.inl rfl | exact Or.inr (Or.inl rfl) | exact Or.inr (Or.inr rfl))(hd:(x == ("__debug__" : Str))=false:=by decide)(hcd:(x == ("__classdict__" : Str))=false:=by decide):PE X (.Subscript (.Name x p) (.Constant (.int (k:Int)) j q) pos) (tIt X.K i k):=by
 intro pins s σ H Q I h;obtain ⟨a,xs,v,e,hs,hk,q⟩:=h;exact bU eJ (vC hN hv hd hcd) aG (fun _ _=>rfl) pins s σ H Q I ⟨_,e,a,xs,(k:Int),v,rfl,rfl,hs,bK hk,q⟩
structure Cal (P:Ax)(w:World)(K:Aa)(mg:Str->Option Value)(base:Heap)(CX:CXT)(k:Nat)(x:Str)(ps:List Str)(sp:Sp):Prop where
 ex : ∃ (f:Addr) (fd:Bf),mg x=some (.ref f)/\Cw K (.ref f)=true/\Binds K fd ps []/\FnOk P w K mg base CX k f fd ps sp
theorem aJ {k:Nat}{p pos:Pos}(C:Cal X.prog X.w X.K X.mg X.base CX k x ps sp)(hr:Room k X.A)(hg:Gl X x)(hx:gZ CX X E)(ha:PA X (e :: es) t)(hdb:(x == ("__debug__" : Str))=false:=by decide)(he:AS (e :: es) X.env=(false,eval e X.env) :: AS es X.env:=by rfl)(hpl:(backTo pos (AS es X.env)).any (·.1)=false:=by rfl) :
  PE X (.Call (.Name x p) (e :: es) [] pos) (aB1 sp [] E t):=by
 obtain ⟨f,fd,hm,hk,hb,F⟩:=C.ex;exact aCu F hr hg hm hk hb .nil hx ha hdb he hpl
theorem Cal.mono {P:Ax}{w:World}{K:Aa}{mg:Str->Option Value}{base:Heap}{CX:CXT}{j k:Nat}{x:Str}{ps:List Str}{sp:Sp}(C:Cal P w K mg base CX j x ps sp)(h:j<=k):Cal P w K mg base CX k x ps sp:=by
 obtain ⟨f,fd,hm,hk,hb,F⟩:=C.ex;exact ⟨f,fd,hm,hk,hb,F.mono h⟩
end
theorem Same.tup {K:Aa}{H H':Hp}{a:Addr}{xs:List V}(e:Same H H')(h:SqT K H a xs):SqT K H' a xs:=by
 rcases h with (h | ⟨o,h⟩) | h
 ·exact .inl (.inl (e _ _ h))
 ·exact .inl (.inr ⟨o,e _ _ h⟩)
 ·exact .inr h
theorem Same.upd (h:H a=none):Same H (upd H a o):=fun b u e=>by
 rw [aI (bE e h)];exact e
def RetT (H:Hp)(Q:VK)(ns:List Int):Prop:=∀ p H',Same H H'->H' p=some (.tup (ns.map V.int))->Q (.ref p) H'
end L2
namespace L2
open PySem PySem.Spec PyProof.Rows PySem.W
structure ExK (K:Frag)(C:Addr):Prop where
 ga:findIn K (.ref C) "__getattribute__" = some (some (.builtin "BaseException.__getattribute__"))
 gt:findIn K (.ref C) "__getattr__" = some none
 cl:findIn K (.ref C) "__class__" = some (some (.builtin "object.__class__"))
 sb:subIn K (.ref C) (.type "BaseException")=some true
 so:subIn K (.ref C) (.type "object")=some true
 ci:(clsIn K C).isSome=true
structure ExAt (h:Heap)(a:Addr)(o:Obj)(C:Addr):Prop where
 at_:h.get? a=some o
 cls:o.cls = .ref C
theorem ExAt.type (I:ExAt h a o C):Looks M h (typeOf (.ref a)) (.ref C):=by
 rw [<- I.cls];exact (Looks.ld I.at_).andThen .now
section
variable {prog:Ax}{w:World}{A:Around}{E:Value->Shared->Prop}{h:Heap}{g:Array GenState}{d:Drawn}{t:Nat}{os:OsState}{a C:Addr}{o:Obj}{K:Frag}
theorem lJ (X:K.In h)(F:ExK K C)(I:ExAt h a o C)(hq:R (.ok (.ret (.ref C))) ⟨h,g,d,t,os⟩) :
  DJ (model prog w) A (.call (.builtin "getset_descriptor.__get__") ⟨[.builtin "object.__class__",.ref a,.ref C],[]⟩) R ⟨h,g,d,t,os⟩:=by
 have hT5:(⟨h,g,d,t,os⟩:Shared).TypeIs (.builtin "object.__class__") "getset_descriptor" := ET;have hx:=I.at_;have hc:=I.cls;have L1:=looks_subIn (M:=model prog w) X F.so;rw [<- PySem.F.owner_object_class] at L1;refine Cv PySem.F.slot_gs_get.plain PySem.F.entry_gs_get (PySem.F.slot_gs_get.check _ _ _ _ _ _ _ _ hT5 (PySem.F.args_gs_get _ _ _) ?_)
 repeat (any_goals (first | assumption | (with_reducible refine Bd hx ?_; rw [hc]) | with_reducible refine L1.at ?_ | wp_step))
 refine ⟨DD _ (by decide +kernel),Cr PySem.F.entry_object_class ?_⟩
 repeat (any_goals (first | assumption | (with_reducible refine Bd hx ?_; rw [hc]) | wp_step))
theorem jE {tk:Tok}(X:K.In h)(F:ExK K C)(I:ExAt h a o C)(hq:Q (.done (.ret (.ref C))) ⟨h,g,d,t,os⟩) :
  wpAny (model prog w) A (AF.«object.__getattribute__» ⟨[.ref a,.str "__class__" tk],[]⟩) Q E ⟨h,g,d,t,os⟩:=by
 have L1:=looks_findIn (M:=model prog w) X F.cl;have hT5:(⟨h,g,d,t,os⟩:Shared).TypeIs (.builtin "object.__class__") "getset_descriptor" := ET;have f5:=ET;have f6:=PySem.F.slot_gs_get.lookup;have f7:=PySem.F.slot_gs_set.lookup;have hx:=I.at_;have hc:=I.cls
 repeat (any_goals (first | assumption | (with_reducible refine Bd hx ?_; rw [hc]) | with_reducible refine L1.at ?_ | wp_step))
 refine lJ X F I ?_
 repeat (any_goals (first | assumption | wp_step))
theorem gW (X:K.In h)(F:ExK K C)(I:ExAt h a o C)(hq:Q () ⟨h,g,d,t,os⟩):wpAny M A (checkBuiltinCall "BaseException.__getattribute__" ⟨[.ref a,nameV],[]⟩) Q E ⟨h,g,d,t,os⟩:=by
 have hk:builtinKind "BaseException.__getattribute__" = some .slot:=by decide +kernel
 have hsplit:splitId "BaseException.__getattribute__" = some ("BaseException","__getattribute__"):=by decide +kernel
 have L2':=looks_subIn (M:=M) X F.sb;have ha:=PySem.F.args_bexc_ga (.ref a) nameV;have hx:=I.at_;have hc:=I.cls;simp only [checkBuiltinCall,hk,hsplit];refine Ab ?_
 ·unfold isInstance
  repeat (first | (with_reducible refine Bd hx ?_; rw [hc]) | with_reducible refine L2'.at ?_ | wp_step)
  exact hq
theorem jI {tk:Tok}(X:K.In h)(F:ExK K C)(I:ExAt h a o C)(hq:R (.ok (.ret (.ref C))) ⟨h,g,d,t,os⟩) :
  DJ (model prog w) A (.call (.builtin "BaseException.__getattribute__") ⟨[.ref a,.str "__class__" tk],[]⟩) R ⟨h,g,d,t,os⟩ :=
 Cv Ei.ga.plain PySem.F.entry_bexc_ga (gW X F I (jE X F I hq))
theorem mZ {tk:Tok}{fill expr:Bool}(X:K.In h)(F:ExK K C)(I:ExAt h a o C)(hq:Q (.ref C) ⟨h,g,d,t,os⟩) :
  wpAny (model prog w) A (getAttrBy (.ref a) (.str "__class__" tk) fill expr) Q E ⟨h,g,d,t,os⟩:=by
 have f3:=Ei.ga.bind (.ref a);have hx0:(expr && onTheHeap (CU "BaseException.__getattribute__"))=false:=by cases expr <;> rfl
 have hx2:(CU "BaseException.__getattribute__" == CU "object.__getattribute__")=false:=by decide +kernel
 have hx1:(onTheHeap (AC C) && CU "BaseException.__getattribute__" == CU "object.__getattribute__")=false:=by rw [hx2]; rfl
 have L1:=looks_findIn (M:=model prog w) X F.ga;have L2':=looks_findIn (M:=model prog w) X F.gt;have hx:=I.at_;have hc:=I.cls
 repeat (any_goals (first | assumption | (with_reducible refine Bd hx ?_; rw [hc]) | with_reducible refine L1.at ?_ | with_reducible refine L2'.at ?_ | wp_step))
 refine jI X F I ?_
 repeat (any_goals (first | assumption | wp_step))
theorem jJ (X:K.In h)(F:ExK K C)(I:ExAt h a o C)(hq:Q (some (.ref C)) ⟨h,g,d,t+1,os⟩) :
  wpAny (model prog w) A (getAttr? (.ref a) "__class__") Q E ⟨h,g,d,t,os⟩:=by
 unfold getAttr? getAttrBy?
 repeat (any_goals (first | assumption | with_reducible apply mZ X F I | wp_step))
end
theorem aAd {K:Frag}{a C:Addr}{o:Obj}(F:ExK K C):KitX K (.ref a) (.ref C) (fun h=>ExAt h a o C) where
 ty:=fun M h X I=>I.type
 it:=fun M h X I=>by
  have hcD:=F.ci;unfold clsIn at hcD;split at hcD
  ·rename_i c' d' cd' sl' ho
   intro A' Q' E' s' k q;unfold isType loadHead;exact Ab (wpAny_loadPart (k _ _ (X _ _ ho)) (Af q))
  ·cases hcD
 ne:=fun h tp dd its n sl X htp=>by
  have hcD:=F.ci;refine Bool.eq_false_iff.mpr fun q => ?_;have e:C=tp:=AC.inj (beq_iff_eq.mp q);subst e;unfold clsIn at hcD;split at hcD
  ·rename_i c' d' cd' sl' ho
   have:=X _ _ ho;rw [htp] at this;cases this
  ·cases hcD
 ca:=fun {prog w A E Q s} X I hq=>by
  obtain ⟨hh,g,d,t,os⟩:=s;exact jJ X F I hq
def excO (a C:Addr):HO:=.ext fun h=>∃ o,ExAt h a o C
section
variable {X:Cx}
end
theorem xG (o:Obj)(f:Array Value->Array Value):(DT f o).dict=o.dict:=by
 unfold DT;split <;> rfl
def TrD (h base:Heap)(e:Addr)(cls:Value)(dd:Option Addr)(fl:Value):Prop :=
 ∃ (ob tb:Obj) (us ts:Array Value) (T:Addr),(h.get? e=some ob/\ob.data = .fields us/\ob.cls=cls/\ob.dict=dd)/\us[1]?=some (.ref T)/\(base.get? T=none/\T ≠ e)/\h.get? T=some tb/\tb.data = .fields ts/\ts[3]?=some fl
structure FlyD (base:Heap)(l:List Env)(e:Addr)(cls:Value)(dd:Option Addr)(fl:Value)(h:Heap):Prop where
 st:base.StaysIn h
 no:base.get? e=none
 fr:h.FunFrames base l
 tr:TrD h base e cls dd fl
theorem FlyD.at {l:List Env}{dd:Option Addr}(x:FlyD base l e cls dd fl h) : ∃ ob us,h.get? e=some ob/\ob.cls=cls/\ob.dict=dd/\ob.data = .fields us:=by
 obtain ⟨ob,_,us,_,_,⟨a,b,c,d⟩,_⟩:=x.tr;exact ⟨ob,us,a,c,d,b⟩
section
variable {M:Model}{A:Around}{E:Value->Shared->Prop}{s:Shared}{base:Heap}{env:Env}{outer:List Env}{L e:Addr}{Q:Unit->Shared->Prop}{cls:Value}{dd:Option Addr}
theorem aBk {had:Bool}(frs:A.frames=some (env :: outer))(ff:s.heap.FunFrames base (env :: outer))(fL:env.frame=some L)(ge:s.heap.get? e=some ob)(st:base.StaysIn s.heap)(no:base.get? e=none)(du:ob.data = .fields us)(sz:1 < us.size)(k : ∀ h',FlyD base (env :: outer) e ob.cls ob.dict (rawInt L) h'->s.heap.UpToSlots h'->Q () { s with heap:=h' }) :
  wpAny M A (do let fo <- frameOf env; let pl <- entryPlaceOf L had; let row <- EntryCells.newEntry head fo .none (rawInt L) .none pl; setField (.ref e) 1 row) Q E s:=by
 have eNot:e ∉ (env :: outer).filterMap (·.frame):=fun mem=>by
  obtain ⟨_,o',g',nf⟩:=ff.mem mem;cases ge.symm.trans g';exact nf us du
 refine Ab (wpAny_frameOf_fun frs ff fL fun h1 only=>Ab (wpAny_entryPlaceOf fun pl plOk => ?_));unfold EntryCells.newEntry newFields;refine Ab (AY ?_ (plOk.sizeOk5 _ _ _ _ _));have g1:h1.get? e=some ob:=(only.2.1 e eNot).trans ge;have st1:base.StaysIn h1:=fun b o q=>(only.2.1 b fun mem=>by
  rw [(ff.mem mem).1] at q;cases q).trans (st b o q)
 generalize hrow:({ cls:=.type "traceback",dict:=none,data:=.fields ([head,.ref L,.none,rawInt L,.none] ++ (if pl.isEmpty then CL 6 BP else pl)).toArray }:Obj)=row;have g2:(h1.push row).get? e=some ob:=Ac row g1;have Tne:h1.objs.size ≠ e:=Dq (Aq g1);have du':=Eu du (·.setIfInBounds 1 (AC h1.objs.size));have gT:(h1.push row).get? h1.objs.size=some row:=Ah h1 (by rw [<- hrow]; rfl);have old : ∀ b o,b ≠ e->h1.get? b=some o->((h1.push row).update e (DT (·.setIfInBounds 1 (AC h1.objs.size)))).get? b=some o:=fun b o nb q=>by
  rw [AW _ _ (AM nb)];exact Ac row q
 have nofld : ∀ b o,s.heap.get? b=some o->(∀ vs,o.data ≠ .fields vs)->b ≠ e:=fun b o q nf z=>by
  subst z;cases ge.symm.trans q;exact nf us du
 refine EW g2 du sz (k _ ⟨fun b o q=>old b o ?_ (st1 b o q),no,ff.of_keeps fun b o q nf => ?_,?_⟩ fun b o q nf => ?_)
 ·rintro rfl
  rw [no] at q;cases q
 ·obtain ⟨sl,z⟩:=only.2.2 b o q
  exact ⟨_,old b _ (nofld b o q nf) z,rfl⟩
 ·refine ⟨_,row,_,([head,.ref L,.none,rawInt L,.none] ++ (if pl.isEmpty then CL 6 BP else pl)).toArray,h1.objs.size,⟨BK _ g2 (EG du'),du',Obj.cls_mapFields _ _,xG _ _⟩,by simp [sz],⟨?_,Tne⟩,?_,by rw [<- hrow],by simp⟩
  ·cases z:base.get? h1.objs.size with
   | none=>rfl
   | some o=>exact absurd (Aq (st1 _ _ z)) (CB _)
  ·rw [AW _ _ (AM Tne)]
   exact gT
 ·obtain ⟨sl,z⟩:=only.2.2 b o q
  exact ⟨sl,old b _ (nofld b o q nf) z⟩
theorem lG {l:List Env}(F:FlyD base l e cls dd fl s.heap)(k : ∀ h',FlyD base l e cls dd .none h'->s.heap.UpToSlots h'->Q () { s with heap:=h' }):wpAny M A (setFlight (.ref e) none) Q E s:=by
 obtain ⟨st,no,ff,ob,tb,us,ts,T,⟨ge,du,cc,cd⟩,u1,⟨nT,Tne⟩,gT,dt,t3⟩:=F;unfold setFlight;refine Ab (BH ge du u1 ?_);rw [if_pos (show (AC T != BP)=true from rfl)];have z3:3 < ts.size:=(Cp.mp t3).1;have dt':=Eu dt (·.setIfInBounds 3 ((none:Option Addr).elim BP fun f=>rawInt f));have old : ∀ b,b ≠ T->(s.heap.update T (DT (·.setIfInBounds 3 ((none:Option Addr).elim BP fun f=>rawInt f)))).get? b=s.heap.get? b:=fun b nb=>AW _ _ (AM nb);have nofld : ∀ b o,s.heap.get? b=some o->(∀ vs,o.data ≠ .fields vs)->b ≠ T:=fun b o q nf z=>by
  subst z;cases gT.symm.trans q;exact nf ts dt
 refine EW gT dt z3 (k _ ⟨fun b o q => ?_,no,ff.of_keeps fun b o q nf=>⟨o,(old b (nofld b o q nf)).trans q,rfl⟩,?_⟩ fun b o q nf=>⟨o.slots,(old b (nofld b o q nf)).trans q⟩)
 ·refine (old b ?_).trans (st b o q)
  rintro rfl
  rw [nT] at q;cases q
 ·exact ⟨ob,_,us,_,T,⟨(old e (AM Tne)).trans ge,du,cc,cd⟩,u1,⟨nT,Tne⟩,BK _ gT (EG dt'),dt',by simp [z3]⟩
theorem aFf (frs:A.frames=some (env :: outer))(ff:s.heap.FunFrames base (env :: outer))(fL:env.frame=some L)(ge:s.heap.get? e=some ob)(st:base.StaysIn s.heap)(no:base.get? e=none)(du:ob.data = .fields us)(u1:us[1]?=some .none)(k : ∀ h',FlyD base (env :: outer) e ob.cls ob.dict (rawInt L) h'->s.heap.UpToSlots h'->Q () { s with heap:=h' }):wpAny M A (noteFrame (.ref e) env) Q E s:=by
 unfold noteFrame;simp only [fL];refine Ab (BH ge du u1 ?_);rw [if_neg (by decide)];exact aBk frs ff fL ge st no du (Cp.mp u1).1 k
theorem aFe (frs:A.frames=some (env :: outer))(fL:env.frame=some L)(F:FlyD base (env :: outer) e cls dd .none s.heap)
  (k : ∀ h',FlyD base (env :: outer) e cls dd (rawInt L) h'->s.heap.UpToSlots h'->Q () { s with heap:=h' }):wpAny M A (noteFrame (.ref e) env) Q E s:=by
 obtain ⟨st,no,ff,ob,tb,us,ts,T,⟨ge,du,cc,cd⟩,u1,⟨nT,Tne⟩,gT,dt,t3⟩:=F;subst cc cd;unfold noteFrame;simp only [fL];refine Ab (BH ge du u1 ?_);rw [if_pos (show (AC T != BP)=true from rfl)];refine Ab (BH gT dt t3 ?_);rw [if_neg (show ¬ ((BP == rawInt L)=true) from by simp [rawInt])];have z3:3 < ts.size:=(Cp.mp t3).1;have old : ∀ b,b ≠ T->(s.heap.update T (DT (·.setIfInBounds 3 BP))).get? b=s.heap.get? b:=fun b nb=>AW _ _ (AM nb);have nofld : ∀ b o,s.heap.get? b=some o->(∀ vs,o.data ≠ .fields vs)->b ≠ T:=fun b o q nf z=>by
  subst z;cases gT.symm.trans q;exact nf ts dt
 refine Ab (EW gT dt z3 ?_);refine aBk frs (ff.of_keeps fun b o q nf=>⟨o,(old b (nofld b o q nf)).trans q,rfl⟩) fL ((old e (AM Tne)).trans ge) (fun b o q => ?_) no du (Cp.mp u1).1 fun h' F' up=>k h' F' fun b o q nf=>up b o ((old b (nofld b o q nf)).trans q) nf;refine (old b ?_).trans (st b o q)
 rintro rfl
 rw [nT] at q;cases q
theorem FlyD.tail (F:FlyD base (env :: outer) e cls dd fl h):FlyD base outer e cls dd fl h:=⟨F.st,F.no,F.fr.2.2,F.tr⟩
theorem aDn (frs:A.frames=some (env :: outer))(ff:s.heap.FunFrames base (env :: outer))(fL:env.frame=some L)(ge:s.heap.get? e=some ob)(st:base.StaysIn s.heap)(no:base.get? e=none)(du:ob.data = .fields us)(u1:us[1]?=some .none)(k : ∀ h',FlyD base outer e ob.cls ob.dict .none h'->s.heap.UpToSlots h'->Q () { s with heap:=h' }):wpAny M A (leaving env (.ref e)) Q E s:=by
 unfold leaving;exact Ab (aFf frs ff fL ge st no du u1 fun h' F' up=>lG F' fun h'' F'' up'=>k h'' F''.tail (up.trans up'))
theorem aFn (frs:A.frames=some (env :: outer))(fL:env.frame=some L)(F:FlyD base (env :: outer) e cls dd .none s.heap)
  (k : ∀ h',FlyD base outer e cls dd .none h'->s.heap.UpToSlots h'->Q () { s with heap:=h' }):wpAny M A (leaving env (.ref e)) Q E s:=by
 unfold leaving;exact Ab (aFe frs fL F fun h' F' up=>lG F' fun h'' F'' up'=>k h'' F''.tail (up.trans up'))
end
structure Flx (P:Ax)(w:World)(outer:List Env)(H:Hp)(s:Shared)(H':Hp)(ea:Addr)(cls:Value)(dd:Option Addr)(s':Shared):Prop where
 os:s'.os=s.os
 bare:AllBare s'.gens
 un:Un (frs outer) [] H H' s.heap s'.heap
 fl : ∃ B:Heap,HOk P w H' B/\FlyD B outer ea cls dd .none s'.heap/\(∀ b o,s.heap.get? b=some o->H b=none->b ∉ frs outer->B.get? b=some o)/\(∀ b o,s.heap.get? b=some o->b ∉ frs outer->∃ o',B.get? b=some o')
def CXg (P:Ax)(w:World):CXT:=fun outer H s E e s'=>∃ (ea C:Addr) (dd:Option Addr) (H':Hp),e = .ref ea/\Flx P w outer H s H' ea (.ref C) dd s'/\E (.ref C) dd H'
structure OwnF (X:Cx):Prop where
 stk:X.stack=X.env :: X.outer
 fr:X.env.frame=some X.env.locals
 ex:X.ex=[]
section
variable {X:Cx}{pins:List (Addr × Obj)}{σ:St}{H H':Hp}{s s':Shared}
theorem qS (O:OwnF X)(I:Inv X pins σ H s)(e:X.s₀.heap.get? b=some o)(hb:b ∉ frs X.outer):b ∉ frs X.stack:=by
 rw [O.stk];intro z;unfold frs at z hb;rw [CQ,O.fr] at z
 rcases AD.mp z with z | z
 ·exact absurd (AQ (Aq e) I.ok.above) (by rw [z]; exact CB _)
 ·exact hb z
theorem aG7 (O:OwnF X)(hb:b ∈ frs X.outer):b ∈ frs X.stack:=by
 rw [O.stk];unfold frs at *
 rw [CQ,O.fr];exact Al _ hb
theorem aD6 (O:OwnF X)(I:Inv X pins σ H s){B h':Heap}(u:Un (frs X.stack) [] H H' s.heap s'.heap)(bk : ∀ b o,X.s₀.heap.get? b=some o->X.H₀ b=none->b ∉ frs X.outer->B.get? b=some o)
  (th : ∀ b o,X.s₀.heap.get? b=some o->b ∉ frs X.outer->∃ o',B.get? b=some o') (st:B.StaysIn h') (up:s'.heap.UpToSlots h'):Un (frs X.outer) [] X.H₀ H' X.s₀.heap h':=by
 have noex : ∀ b:Addr,b ∉ X.ex:=fun b z=>by rw [O.ex] at z; cases z
 have slot : ∀ b o,X.s₀.heap.get? b=some o->X.H₀ b=none->b ∈ frs X.outer->∃ sl,h'.get? b=some { o with slots:=sl }:=fun b o e n hb=>by
  obtain ⟨sl,e1⟩:=I.base.slot b o e n hb (noex b);have n1:=I.base.free b o e n (noex b);obtain ⟨sl2,e2⟩:=u.slot b _ e1 n1 (aG7 O hb) (by simp);obtain ⟨_,o',ho',hnf⟩:=I.ok.funs.mem hb;rw [e] at ho';cases ho';obtain ⟨sl3,e3⟩:=up b _ e2 (fun vs q=>hnf vs q);exact ⟨sl3,e3⟩
 refine ⟨fun b o e n hb _=>st b o (bk b o e n hb),fun b o e n hb _=>slot b o e n hb,fun b o e n _ => ?_,fun b o e _ => ?_,fun b xs e=>u.tups _ _ (I.base.tups _ _ e),fun b o x e=>u.frzs _ _ _ (I.base.frzs _ _ _ e),fun b ps e => ?_⟩
 ·obtain ⟨o1,e1⟩:=I.base.there b o e (noex b)
  exact u.free b o1 e1 (I.base.free b o e n (noex b)) (by simp)
 ·by_cases hb:b ∈ frs X.outer
  ·obtain ⟨sl,q⟩:=slot b o e (I.ok.frf b hb) hb
   exact ⟨_,q⟩
  ·obtain ⟨o2,e2⟩:=th b o e hb
   exact ⟨o2,st b o2 e2⟩
 ·obtain ⟨m1,e1⟩:=I.base.tbls b ps e
  obtain ⟨m2,e2⟩:=u.tbls _ _ e1;exact ⟨m1 ++ m2,by rw [e2,Array.append_assoc]⟩
theorem aHg (I:Inv X pins σ H s)(hea:H ea=none):HOk X.prog X.w H (hideAll s.heap (ea :: frs X.stack)):=fun a o e=>(I.hok a o e).stay (fun b u hb q=>hideAll_get _ q fun z=>by
 have n:H b=none:=by
  rcases AD.mp z with z | z
  ·rw [z]; exact hea
  ·exact I.stkFree b z
 rcases hb with hb | hb
 ·rw [<- hb] at e; rw [e] at n; cases n
 ·rw [hb] at n; cases n) (fun _ h=>h) (fun _ _ h=>h)
theorem wZ (O:OwnF X)(I:Inv X pins σ H s){ea C:Addr}{dd:Option Addr}{ob:Obj}{us:Array Value}{E':Value->Shared->Prop}{Q:Unit->Shared->Prop}(hea:H ea=none)(n0:X.s₀.heap.get? ea=none)(ge:s.heap.get? ea=some ob)
  (hc:ob.cls = .ref C) (hdd:ob.dict=dd) (du:ob.data = .fields us) (u1:us[1]?=some .none)
  (k : ∀ h',Flx X.prog X.w X.outer X.H₀ X.s₀ H ea (.ref C) dd { s with heap:=h' }->Q () { s with heap:=h' }):wpAny (model X.prog X.w) X.A (leaving X.env (.ref ea)) Q E' s:=by
 have nfr:ea ∉ frs X.stack:=fun z=>by
  obtain ⟨_,o',ho',hnf⟩:=I.stack.mem z;rw [ge] at ho';cases ho';exact hnf us du
 have hin : ∀ env ∈ X.stack,∀ b,env.frame=some b->b ∈ ea :: frs X.stack:=fun env he b hb=>Al _ (List.mem_filterMap.mpr ⟨env,he,hb⟩);have hfr:X.A.frames=some (X.env :: X.outer):=by rw [<- O.stk]; exact I.ok.frames
 have hl:s.heap.FunFrames (hideAll s.heap (ea :: frs X.stack)) (X.env :: X.outer):=by rw [<- O.stk]; exact funFrames_hide I.stack hin
 have nB:(hideAll s.heap (ea :: frs X.stack)).get? ea=none:=hideAll_none _ (Au ..);have bk : ∀ b o,X.s₀.heap.get? b=some o->X.H₀ b=none->b ∉ frs X.outer->(hideAll s.heap (ea :: frs X.stack)).get? b=some o:=fun b o e n hb=>by
  refine hideAll_get _ (I.base.keep b o e n hb (by rw [O.ex]; simp)) fun z => ?_
  rcases AD.mp z with z | z
  ·rw [z,n0] at e; cases e
  ·exact qS O I e hb z
 have th : ∀ b o,X.s₀.heap.get? b=some o->b ∉ frs X.outer->∃ o',(hideAll s.heap (ea :: frs X.stack)).get? b=some o':=fun b o e hb=>by
  obtain ⟨o1,e1⟩:=I.base.there b o e (by rw [O.ex]; simp);refine ⟨o1,hideAll_get _ e1 fun z => ?_⟩
  rcases AD.mp z with z | z
  ·rw [z,n0] at e; cases e
  ·exact qS O I e hb z
 refine aDn (base:=hideAll s.heap (ea :: frs X.stack)) hfr hl O.fr ge (fun b o q=>of_hideAll _ q) nB du u1 fun h' F' up=>k h' ⟨I.os,I.bare,?_,hideAll s.heap (ea :: frs X.stack),aHg I hea,by rw [<- hc,<- hdd]; exact F',bk,th⟩;exact aD6 (s':=s) O I Un.refl bk th F'.st up
theorem aFw (O:OwnF X)(I:Inv X pins σ H s){ea C:Addr}{dd:Option Addr}{E':Value->Shared->Prop}{Q:Unit->Shared->Prop}(F:Flx X.prog X.w X.stack H s H' ea (.ref C) dd s')
  (k : ∀ h',Flx X.prog X.w X.outer X.H₀ X.s₀ H' ea (.ref C) dd { s' with heap:=h' }->Q () { s' with heap:=h' }):wpAny (model X.prog X.w) X.A (leaving X.env (.ref ea)) Q E' s':=by
 obtain ⟨B,hok,fl,bk,th⟩:=F.fl;have hfr:X.A.frames=some (X.env :: X.outer):=by rw [<- O.stk]; exact I.ok.frames
 have fl':FlyD B (X.env :: X.outer) ea (.ref C) dd .none s'.heap:=by rw [<- O.stk]; exact fl
 have bk0 : ∀ b o,X.s₀.heap.get? b=some o->X.H₀ b=none->b ∉ frs X.outer->B.get? b=some o:=fun b o e n hb =>
  bk b o (I.base.keep b o e n hb (by rw [O.ex]; simp)) (I.base.free b o e n (by rw [O.ex]; simp)) (qS O I e hb)
 have th0 : ∀ b o,X.s₀.heap.get? b=some o->b ∉ frs X.outer->∃ o',B.get? b=some o':=fun b o e hb=>by
  obtain ⟨o1,e1⟩:=I.base.there b o e (by rw [O.ex]; simp);exact th b o1 e1 (qS O I e hb)
 exact aFn hfr O.fr fl' fun h' F' up=>k h' ⟨F.os.trans I.os,F.bare,aD6 O I F.un bk0 th0 F'.st up,B,hok,F',bk0,th0⟩
end
abbrev cxF (P:Ax)(w:World)(K:Frag)(mg:Str->Option Value)(base:Heap)(N:List Str)(qual:Str)(scope:Scope)(f:Addr)(cd:Value)(A:Around)(outer:List Env)(s:Shared)(H:Hp)(E:XK):Cx:=cxOf (CXg P w) P w K mg base N qual scope f cd A outer s H E
section
variable {P:Ax}{w:World}{K:Frag}{mg:Str->Option Value}{base:Heap}{N:List Str}{qual:Str}{scope:Scope}{f:Addr}{cd:Value}{A:Around}{outer:List Env}{s:Shared}{H:Hp}{E:XK}
theorem vI:OwnF (cxF P w K mg base N qual scope f cd A outer s H E):=⟨rfl,rfl,rfl⟩
theorem qM:gZ (CXg P w) (cxF P w K mg base N qual scope f cd A outer s H E) E:=by
 intro pins σ Hc sc e s' I h;obtain ⟨ea,C,dd,H',rfl,F,hE⟩:=h;exact aFw (X:=cxF P w K mg base N qual scope f cd A outer s H E) vI I F fun h' F'=>⟨ea,C,dd,H',rfl,F',hE⟩
def XeOk (X:Cx)(E:XK):Prop:=∀ (pins:List (Addr × Obj)) (σ:St) (H:Hp) (s:Shared) (ea C:Addr) (ob:Obj) (us:Array Value),Inv X pins σ H s->H ea=none->X.s₀.heap.get? ea=none->s.heap.get? ea=some ob->ob.cls = .ref C->ob.data = .fields us->us[1]?=some .none->E (.ref C) ob.dict H->X.xe (.ref ea) s
theorem xe_f:XeOk (cxF P w K mg base N qual scope f cd A outer s H E) E:=by
 intro pins σ Hc sc ea C ob us I hea n0 ge hc du u1 hE;exact wZ (X:=cxF P w K mg base N qual scope f cd A outer s H E) vI I hea n0 ge hc rfl du u1 fun h'' F'=>⟨ea,C,ob.dict,Hc,rfl,F',hE⟩
theorem Fun.okF {x:Str}{st:Stmt}{fd:Bf}{ps:List Str}{k:Nat}{sp:Sp}(F:Fun K x qual st f fd)(S:FnScope N ps (aH st))(len : ∀ vs H Q E,sp vs H Q E->vs.length=ps.length)
  (hbody : ∀ (cdv:Value) (A:Around) (outer:List Env) (s:Shared) (H:Hp) (vs:List V) (Q:VK) (E:XK),Room k (A.deeper (envOfC qual (aH st) s.heap.objs.size f cdv))->sp vs H Q E ->
   ∃ t,PSs (cxF P w K mg base N qual (aH st) f cdv A outer s H E) (dN st) t/\t { nx:=fun _ H'=>Q .non H',rt:=Q } (start N vs) H):FnOk P w K mg base (CXg P w) (k+1) f fd ps sp:=by
 obtain ⟨oc,od,kV,doc,pm,an,cdv,ct,osl,rfl,lk,hcd⟩:=F.ex;exact aFv lk hcd S len fun A outer s H vs Q E hr hsp=>hbody cdv A outer s H vs Q E hr hsp
end
structure CtK (K:Frag)(D:Addr):Prop where
 ty:typeIn K (.ref D)=some (.type "type")
 ci:(clsIn K D).isSome=true
 sb:subIn K (.ref D) (.type "BaseException")=some true
theorem pB {M:Model}{A:Around}{E:Value->Shared->Prop}{h:Heap}{g:Array GenState}{d:Drawn}{t:Nat}{os:OsState}{e C D:Addr}{o:Obj}{K:Frag}{Q:Bool->Shared->Prop}(X:K.In h)(I:ExAt h e o C)(F:CtK K D)(hs:subIn K (.ref C) (.ref D)=some true)
  (hq:Q true ⟨h,g,d,t,os⟩):wpAny M A (excMatches (.ref e) (.ref D)) Q E ⟨h,g,d,t,os⟩:=by
 have L1:=looks_typeIn (M:=M) X F.ty;have L2':Looks M h (isType (.ref D)) true:=by
  have hcD:=F.ci;unfold clsIn at hcD;split at hcD
  ·rename_i c' d' cd' sl' ho
   intro A' Q' E' s' k q;unfold isType loadHead;exact Ab (wpAny_loadPart (k _ _ (X _ _ ho)) (Af q))
  ·cases hcD
 have L3:=looks_subIn (M:=M) X F.sb;have L4:=looks_subIn (M:=M) X hs;have L5:=I.type (M:=M);have f:=tc_notTuple;unfold excMatches isInstance
 repeat (first | with_reducible refine L1.at ?_ | with_reducible refine L2'.at ?_ | with_reducible refine L3.at ?_ | with_reducible refine L4.at ?_ | with_reducible refine L5.at ?_ | wp_step)
 exact hq
abbrev bmV:List Value:=[.type "ValueError",.type "Exception",.type "BaseException",.type "object"]
structure ClsObj (h:Heap)(C:Addr)(bmB:List Value)(newId:String):Prop where
 ex : ∃ (nm q:Str) (N:Addr) (bs bm:List Value) (hdct:Bool) (sn:List Str) (sub:List Value) (ab:Bool) (col:Option Bool) (dd:Option Addr) (k0 k1 k2 k3 k5:Option Value) (mN:Str->Option Value),
  h.get? C=some (excClassObj nm q C N bs bm hdct sn sub ab col dd k0 k1 k2 k3 k5 newId)/\h.Ns N mN/\mN "__init__" = none/\OwnTail h bmB bm
theorem zY {w:World}(x:ObjOk P w H h a o) : ∃ ob,h.get? a=some ob:=by
 cases o with
 | lst xs=>obtain ⟨_,_,_,_,e⟩:=x; exact ⟨_,e⟩
 | tup xs=>obtain ⟨_,_,_,ob,e,_⟩:=x; exact ⟨_,e⟩
 | dK kvs=>obtain ⟨_,_,_,_,ob,_,_,e,_⟩:=x; exact ⟨_,e⟩
 | dT kvs=>obtain ⟨_,_,_,_,ob,_,_,e,_⟩:=x; exact ⟨_,e⟩
 | set S n=>obtain ⟨ob,_,_,_,e,_⟩:=x; exact ⟨_,e⟩
 | ins C dx fs=>obtain ⟨_,_,_,e,_⟩:=x; exact ⟨_,e⟩
 | own y=>obtain ⟨_,e⟩:=x; exact ⟨_,e⟩
 | xd fs=>obtain ⟨_,⟨_,_,_,e,_⟩,_⟩:=x; exact ⟨_,e⟩
 | rng lo hi=>obtain ⟨_,_,_,e⟩:=x; exact ⟨_,e⟩
 | frz ob u=>obtain ⟨e,_⟩:=x; exact ⟨_,e⟩
 | tbl ps=>exact ⟨_,(show h.get? a=some _ from x)⟩
 | met f y=>exact ⟨_,(show h.get? a=some _ from x)⟩
 | ext φ=>obtain ⟨_,⟨_,e⟩,_⟩:=x; exact ⟨_,e⟩
def excD (a C:Addr)(dd:Option Addr):HO:=.ext fun h=>∃ o,ExAt h a o C/\o.dict=dd/\∃ us,o.data = .fields us
theorem Inv.absent0 {σ:St}(I:Inv X pins σ H s)(hex:X.ex=[])(n:s.heap.get? e=none):X.s₀.heap.get? e=none:=by
 cases q:X.s₀.heap.get? e with
 | none=>rfl
 | some o =>
  obtain ⟨ob,z⟩:=I.base.there e o q (by rw [hex]; simp);rw [n] at z;cases z
def tRaise (C:Addr)(E:XK)(t:TA):TS:=fun _ σ H=>t σ H fun vs H1=>vs.length<=Aw/\E (.ref C) none H1
section
variable {X:Cx}
theorem eC:eQ X (.builtin "isinstance") (fun xs H Q=>∃ a C dd c v b,xs=[.ref a,v]/\H a=some (excD a C dd)/\ExK X.K C/\RelV v c/\kitOne X.K (.ref C) c=some b/\Q (.bl b) H):=by
 intro pins s σ H xs us Q I r h;obtain ⟨a,C,dd,c,v,b,rfl,hH,F,rc,hk,q⟩:=h;obtain ⟨u,w',rfl,rx,ry⟩:=vals2 r;cases rx;obtain ⟨⟨o,hi,_⟩,_⟩:=I.hok a _ hH;have e:w'=c:=by
  have:=ry;cases v with
  | ref z=>cases ry; cases rc; rfl
  | ty z=>cases ry; cases rc; rfl
  | non=>cases ry; cases rc; rfl
  | bl z=>cases ry; cases rc; rfl
  | int z=>obtain ⟨_,rfl⟩:=rc; simp [kitOne,kitCls] at hk
  | str z=>obtain ⟨_,rfl⟩:=rc; simp [kitOne,kitCls] at hk
  | byt z=>obtain ⟨_,rfl⟩:=rc; simp [kitOne,kitCls] at hk
  | flt z=>obtain ⟨_,rfl⟩:=rc; simp [kitOne,kitCls] at hk
 subst e;exact kia_one (aAd F) I.kIn hi hk (by intro z; cases z) fun tk=>⟨.bl b,H,I.tok _,rfl,q⟩
end
abbrev Cx.within (X:Cx)(v:Value):Cx:={ X with A:=X.A.mark (some v),calm:=false,xe:=fun _ _=>False }
abbrev Cx.trying (X:Cx)(pins:List (Addr × Obj))(E:Value->Shared->Prop):Cx:={ X with pn:=X.pn ++ pins,xe:=E }
section
variable {X:Cx}{pins:List (Addr × Obj)}{σ:St}{H H':Hp}{s s':Shared}
theorem Inv.within (I:Inv X pins σ H s)(v:Value):Inv (X.within v) pins σ H s :=
 ⟨⟨I.ok.mod,I.ok.kind,I.ok.glob,I.ok.blt,I.ok.above,I.ok.inj,I.ok.has,I.ok.cab,(fun h=>(by cases h)),I.ok.frames,I.ok.stk,I.ok.exf,I.ok.bs,I.ok.bsz,I.ok.noex,I.ok.exfs,I.ok.funs,I.ok.frf⟩,I.os,I.bare,I.base,I.loc,I.cell,I.free,I.freeC,I.pin,I.hok,I.len⟩
theorem Inv.without (ok:X.Ok)(I:Inv (X.within v) pins σ H s):Inv X pins σ H s:=⟨ok,I.os,I.bare,I.base,I.loc,I.cell,I.free,I.freeC,I.pin,I.hok,I.len⟩
theorem Inv.trying (I:Inv X pins σ H s)(E:Value->Shared->Prop):Inv (X.trying pins E) [] σ H s :=
 ⟨⟨I.ok.mod,I.ok.kind,I.ok.glob,I.ok.blt,I.ok.above,I.ok.inj,I.ok.has,I.ok.cab,I.ok.hd,I.ok.frames,I.ok.stk,I.ok.exf,I.ok.bs,I.ok.bsz,I.ok.noex,I.ok.exfs,I.ok.funs,I.ok.frf⟩,I.os,I.bare,I.base,I.loc,I.cell,I.free,I.freeC,fun p hp=>I.pin p (by rwa [BZ] at hp),I.hok,I.len⟩
theorem Inv.tried (I:Inv (X.trying pins E) pl σ H s):Inv X pins σ H s :=
 ⟨⟨I.ok.mod,I.ok.kind,I.ok.glob,I.ok.blt,I.ok.above,I.ok.inj,I.ok.has,I.ok.cab,I.ok.hd,I.ok.frames,I.ok.stk,I.ok.exf,I.ok.bs,I.ok.bsz,I.ok.noex,I.ok.exfs,I.ok.funs,I.ok.frf⟩,I.os,I.bare,I.base,I.loc,I.cell,I.free,I.freeC,fun p hp=>I.pin p (List.mem_append_left _ hp),I.hok,I.len⟩
theorem SP.tried (h:SP (X.trying pins E) [] D f s):SP X pins D f s:=by
 cases f with
 | next=>obtain ⟨σ',H',I,q⟩:=h; exact ⟨σ',H',I.tried,q⟩
 | brk=>obtain ⟨σ',H',I,q⟩:=h; exact ⟨σ',H',I.tried,q⟩
 | cont=>obtain ⟨σ',H',I,q⟩:=h; exact ⟨σ',H',I.tried,q⟩
 | ret u=>obtain ⟨v,σ',H',I,r,q⟩:=h; exact ⟨v,σ',H',I.tried,r,q⟩
theorem Inv.track (I:Inv X pins σ H s)(hn:H a=none)(h0:X.s₀.heap.get? a=none)(hL:a ≠ X.env.locals)(hc : ∀ x c,X.env.cells.lookup x=some c->c ≠ a)(hp : ∀ p ∈ X.pn ++ pins,p.1 ≠ a)(ok:ObjOk X.prog X.w (upd H a u) s.heap a u):Inv X pins σ (upd H a u) s:=by
 have old : ∀ b o,X.s₀.heap.get? b=some o->b ≠ a:=fun b o e z=>by rw [z,h0] at e; cases e
 have trk : ∀ b o,H b=some o->b ≠ a:=fun b o e=>bE e hn;refine ⟨I.ok,I.os,I.bare,⟨I.base.keep,I.base.slot,fun b o e n hx => ?_,I.base.there,fun b xs e => ?_,fun b o x e => ?_,fun b ps e => ?_⟩,I.loc,I.cell,?_,fun x c e => ?_,fun p q => ?_,fun b o e => ?_,I.len⟩
 ·rw [aI (old b o e)]
  exact I.base.free b o e n hx
 ·have z:=I.base.tups b xs e
  rw [aI (trk _ _ z)];exact z
 ·have z:=I.base.frzs b o x e
  rw [aI (trk _ _ z)];exact z
 ·obtain ⟨m,z⟩:=I.base.tbls b ps e
  exact ⟨m,by rw [aI (trk _ _ z)]; exact z⟩
 ·rw [aI (AM hL)]
  exact I.free
 ·rw [aI (hc x c e)]
  exact I.freeC x c e
 ·obtain ⟨a1,a2,a3⟩:=I.pin p q
  exact ⟨a1,by rw [aI (hp p q)]; exact a2,a3⟩
 ·by_cases hb:b=a
  ·subst hb
   rw [aB] at e;cases e;exact ok
  ·rw [aI hb] at e
   exact (I.hok b o e).stay (fun _ _ _ q=>q) (fun c q=>by rw [aI (trk _ _ q)]; exact q) (fun c xs q=>by rw [aI (trk _ _ q)]; exact q)
theorem aBw (I:Inv X pins σ H s){B h':Heap}(u:Un (frs X.stack) [] H H' s.heap s'.heap)(bk : ∀ b o,s.heap.get? b=some o->H b=none->b ∉ frs X.stack->B.get? b=some o)
  (th : ∀ b o,s.heap.get? b=some o->b ∉ frs X.stack->∃ o',B.get? b=some o') (st:B.StaysIn h') (up:s'.heap.UpToSlots h'):Un (frs X.stack) [] H H' s.heap h':=by
 have slot : ∀ b o,s.heap.get? b=some o->H b=none->b ∈ frs X.stack->∃ sl,h'.get? b=some { o with slots:=sl }:=fun b o e n hb=>by
  obtain ⟨sl,e1⟩:=u.slot b o e n hb (by simp);obtain ⟨_,o',ho',hnf⟩:=I.stack.mem hb;rw [e] at ho';cases ho';obtain ⟨sl3,e3⟩:=up b _ e1 (fun vs q=>hnf vs q);exact ⟨sl3,e3⟩
 refine ⟨fun b o e n hb _=>st b o (bk b o e n hb),fun b o e n hb _=>slot b o e n hb,u.free,fun b o e _ => ?_,u.tups,u.frzs,u.tbls⟩
 by_cases hb:b ∈ frs X.stack
 ·obtain ⟨sl,q⟩:=slot b o e (I.stkFree b hb) hb
  exact ⟨_,q⟩
 ·obtain ⟨o2,e2⟩:=th b o e hb
  exact ⟨o2,st b o2 e2⟩
theorem wD {i:Nat}(I:Inv X pins σ H s)(hN:X.N.Nodup)(hi:X.N[i]?=some n)(hk:X.env.scope.names.lookup n=some .local)(h : ∀ s',Inv X pins (σ.set i none) H s'->Q () s'):wpAny M A (do bindName X.env n .none; unbindBehindTheSuite X.env n pos) Q E s:=by
 obtain ⟨m,hn,hl⟩:=id I.loc;have hcls:(X.env.scope.kind == .class || (X.env.scope.kind == .module && X.env.locals != X.env.globals))=false:=by rw [I.ok.kind]; rfl
 have hiσ:i < σ.length:=by rw [I.len]; exact (Ad.mp hi).1
 refine wpAny_nameGoes_keeps hk hn hcls fun h' v hn' hs => ?_;have ne : ∀ b o,X.s₀.heap.get? b=some o->b ≠ X.env.locals:=fun b o e=>Av (AQ (Aq e) I.ok.above);refine h _ ⟨I.ok,I.os,I.bare,⟨fun b o e n hb hx=>(hs.2 b (ne b o e)).trans (I.base.keep b o e n hb hx),fun b o e n hb hx => ?_,I.base.free,fun b o e hx => ?_,I.base.tups,I.base.frzs,I.base.tbls⟩,⟨_,hn',fun j y v' e1 e2 e3 => ?_⟩,fun y c e => ?_,I.free,I.freeC,fun p hp => ?_,fun b ob e => ?_,by rw [Cn]; exact I.len⟩
 ·obtain ⟨sl,e1⟩:=I.base.slot b o e n hb hx
  exact ⟨sl,(hs.2 b (ne b o e)).trans e1⟩
 ·obtain ⟨o',e1⟩:=I.base.there b o e hx
  exact ⟨o',(hs.2 b (ne b o e)).trans e1⟩
 ·by_cases hj:j=i
  ·subst hj
   rw [BY hiσ] at e2;cases e2
  ·rw [BR (AM hj)] at e2
   obtain ⟨u',r',q⟩:=hl j y v' e1 e2 e3;refine ⟨u',r',?_⟩
   rcases q with ⟨k,e⟩ | ⟨k,c,e,z⟩
   ·refine .inl ⟨k,?_⟩
    have ny:y ≠ n:=fun e=>hj (lC hN e1 (e ▸ hi));simp [ny,e]
   ·exact .inr ⟨k,c,e,z.sameBut hs (I.cne y c e)⟩
 ·obtain ⟨v',q⟩:=I.cell y c e
  exact ⟨v',q.sameBut hs (I.cne y c e)⟩
 ·obtain ⟨a1,a2,a3,a4⟩:=I.pin p hp
  exact ⟨(hs.2 p.1 a3).trans a1,a2,a3,a4⟩
 ·refine (I.hok b ob e).stay (fun c w' hc q=>(hs.2 c ?_).trans q) (fun _ q=>q) fun _ _ q=>q
  intro z;rw [z] at hc
  rcases hc with hc | hc
  ·rw [<- hc,I.free] at e
   cases e
  ·rw [I.free] at hc
   cases hc
def tTry (K:Frag)(N j:Nat)(Dc:Addr)(tb:XK->TS):TS:=fun D σ H=>tb (fun cls dd H'=>∃ C,cls = .ref C/\ExK K C/\subIn K (.ref C) (.ref Dc)=some true/\∀ a,H' a=none->D.nx ((CL N none).set j (some (.ref a))) (upd H' a (excD a C dd))) D σ H
end
def xiIn (K:Frag)(C P f:Addr):Bool:=match K.lookup C with
 | some ⟨.type "type",_,.cls cd,sl⟩=>(match cd.mro,sl.toList with
  | .ref C' :: .ref P' :: bm,[_,_,_,_,some (.builtin n),_]=>C' == C && P' == P && n == "ValueError.__new__" && !cd.hasDel && cd.hasDict && tailIn K bmV (.ref P' :: bm) && nsOkIn K cd.ns && nsIn K cd.ns "__init__" == some (some (.ref f)) && bm == bmV
  | _,_=>false)
 | _=>false
structure ClsI (h:Heap)(C P f:Addr):Prop where
 ex : ∃ (nm q:Str) (N:Addr) (bs:List Value) (sn:List Str) (sub:List Value) (ab:Bool) (col:Option Bool) (dd:Option Addr) (k0 k1 k2 k3 k5:Option Value) (mN:Str->Option Value),
  h.get? C=some (excClassObj nm q C N bs (.ref P :: bmV) true sn sub ab col dd k0 k1 k2 k3 k5 "ValueError.__new__")/\h.Ns N mN/\mN "__init__" = some (.ref f)/\OwnTail h bmV (.ref P :: bmV)
theorem hU {K:Frag}{h:Heap}{N:Addr}{x:Str}{v:Value}(X:K.In h)(hok:nsOkIn K N=true)(e:nsIn K N x=some (some v)):h.nsMap N x=some v:=by
 have G:h.Ns N (h.nsMap N):=.of_isNs (isNs_of_in X hok);obtain ⟨o,es,ep,ho,hd,_,hf⟩:=G;unfold nsIn at e;split at e
 ·rename_i c d es' n' sl q
  have z:=X _ _ q;rw [ho] at z;cases z;cases hd;split at e
  ·rename_i en he
   cases e;rw [<- hf];unfold nsFind findBy;rw [<- Array.find?_toList,he];rfl
  ·split at e <;> cases e
 ·cases e
theorem jF {K:Frag}{h:Heap}{C P f:Addr}(X:K.In h)(q:xiIn K C P f=true):ClsI h C P f:=by
 unfold xiIn at q;split at q
 case h_2=>cases q
 case h_1 dd cd sl ho =>
  split at q
  case h_2=>cases q
  case h_1 C' P' bm k0 k1 k2 k3 n k5 hm hs =>
   simp only [Cc,beq_iff_eq,Bool.not_eq_true'] at q;obtain ⟨⟨⟨⟨⟨⟨⟨⟨e1,e0⟩,e2⟩,hdel⟩,hdi⟩,ht⟩,hok⟩,hni⟩,e3⟩:=q;cases e1;cases e0;cases e2;cases e3;obtain ⟨nm,bs,mro,ns,qn,hd,sn,sub,ab,col,del⟩:=cd;obtain ⟨sl⟩:=sl;dsimp only at hm hdel hok hni hs hdi;subst hm hdel hs hdi;exact ⟨nm,qn,ns,bs,sn,sub,ab,col,dd,k0,k1,k2,k3,k5,_,X _ _ ho,.of_isNs (isNs_of_in X hok),hU X hok hni,tail_of_in X ht⟩
section
variable {prog:Ax}{w:World}{A:Around}{E:Value->Shared->Prop}{h:Heap}{g:Array GenState}{d:Drawn}{t:Nat}{os:OsState}{K:Frag}{C P f:Addr}
abbrev fZ (h:Heap)(C:Addr)(rest:List Value):Heap:=(h.push { cls:=.type "tuple",data:=.seq rest.toArray }).push { cls:=.ref C,data:=.fields #[.ref h.objs.size,.none,.none,.none,.bool false,.none] }
theorem lH {rest:List Value}(X:K.In h)(I:ClsI h C P f)(hf:typeIn K (.ref f)=some (.type "function"))(hrest:rest.length<=Aw)(hq:DJ (model prog w) A (.call (.ref f) ⟨.ref (h.objs.size+1) :: rest,[]⟩) (fun r s'=>match r with
   | .ok (.ret v)=>v = .none/\Q (.done (.ret (.ref (h.objs.size+1)))) s'
   | .ok _=>False
   | .error e=>E e s') ⟨fZ h C rest,g,d,t,os⟩) :
  wpAny (model prog w) A (AF.«type.__call__» ⟨.ref C :: rest,[]⟩) Q E ⟨h,g,d,t,os⟩:=by
 obtain ⟨nm,q,N,bs,sn,sub,ab,col,dd,k0,k1,k2,k3,k5,mN,hC,hn,hni,T⟩:=I.ex;have F:=PySem.F.excBase_ValueError
 repeat (first | with_reducible refine Bd hC ?_ | with_reducible refine wpAny_madeBy_exc hC ?_ | wp_step)
 refine codeAny_call_builtin_code (DD _ F.quiet) (wpAny_check_new_subU F F.hasB T hC ?_);refine codeAny_exc_new_subU F F.hasB F T hC ?_ hrest;show wpAny _ _ _ _ _ _;have keep : ∀ b o,h.get? b=some o->(fZ h C rest).get? b=some o:=fun b o e=>Ac _ (Ac _ e);have hC1:=keep _ _ hC;have hn1:(fZ h C rest).Ns N mN:=hn.keeps keep;have hget:(fZ h C rest).get? (h.objs.size+1)=some { cls:=.ref C,data:=.fields #[.ref h.objs.size,.none,.none,.none,.bool false,.none] }:=by unfold fZ; heap_get
 have hcC:(AC C :: AC P :: bmV).contains (.ref C)=true:=by simp
 have T1:=T.keeps keep;have B1:=bind_fn (M:=model prog w) (X.keeps keep) (.ref (h.objs.size+1)) hf;unfold isInstance
 repeat (first | with_reducible refine Bd hget ?_ | (with_reducible refine wpAny_isSubtype_exc hC1 ?_; rw [hcC]) | wp_step)
 show wpAny _ _ (typeLookup (.ref C) _) _ _ _;refine wpAny_typeLookup_tail hC1 hn1 T1 F.mroIs F.init.lookup ?_;rw [hni];refine Br (Ab (B1.at ?_));refine Ab (Ew (Ck hq fun r s' z => ?_));cases r with
 | error e=>exact z
 | ok fl =>
  cases fl with
  | ret v =>
   obtain ⟨rfl,z⟩:=z;exact Af (Af z)
  | next=>exact z.elim
  | brk=>exact z.elim
  | cont=>exact z.elim
theorem aAl {rest:List Value}(X:K.In h)(I:ClsI h C P f)(hf:typeIn K (.ref f)=some (.type "function"))(hrest:rest.length<=Aw)(hq:DJ (model prog w) (A.under (.builtin "type.__call__" ⟨.ref C :: rest,[]⟩)) (.call (.ref f) ⟨.ref (h.objs.size+1) :: rest,[]⟩) (InitBack (h.objs.size+1) R) ⟨fZ h C rest,g,d,t,os⟩) :
  DJ (model prog w) A (.call (.ref C) ⟨rest,[]⟩) R ⟨h,g,d,t,os⟩:=by
 obtain ⟨nm,q,N,bs,sn,sub,ab,col,dd,k0,k1,k2,k3,k5,mN,hC,hn,hni,T⟩:=id I.ex;have f1:=tc_lookup;have f2:=tc_bind (.ref C);have hT:(⟨h,g,d,t,os⟩:Shared).TypeIs (.ref C) "type" := ⟨_,hC,rfl⟩;refine Fq ?_;show wpAny _ _ (callAny (.ref C) _) _ _ _
 repeat (any_goals (first | assumption | with_reducible refine Bd hC ?_ | wp_step))
 refine ⟨rfl,?_⟩;refine codeAny_call_builtin_at (DD _ (by decide +kernel)) entry_typeCall (wpAny_check_type_call_sub hC (lH X I hf hrest (Ck hq fun r s' z => ?_)));cases r with
 | error e=>exact z
 | ok fl =>
  cases fl with
  | ret v=>exact z
  | next=>exact z.elim
  | brk=>exact z.elim
  | cont=>exact z.elim
end
def exN (a C:Addr)(dd:Option Addr):HO:=.ext fun h=>∃ o t,(h.get? a=some o/\o.cls = .ref C/\o.dict=dd)/\o.data = .fields #[t,.none,.none,.none,.bool false,.none]
def rem (H:Hp)(a:Addr):Hp:=fun b=>if b=a then none else H b
theorem lY (h:b ≠ a):rem H a b=H b:=by unfold rem; rw [if_neg h]
theorem kZ :rem H a a=none:=by unfold rem; rw [if_pos rfl]
section
variable {X:Cx}{pins:List (Addr × Obj)}{σ:St}{H:Hp}{s:Shared}
theorem Inv.drop (I:Inv X pins σ H s){φ:Heap->Prop}(ha:H a=some (.ext φ)):Inv X pins σ (rem H a) s:=by
 have nn : ∀ b,H b=none->rem H a b=none:=fun b h=>by
  by_cases z:b=a
  ·rw [z]; exact kZ
  ·rw [lY z]; exact h
 have oo : ∀ b o,H b=some o->(∀ ψ,o ≠ .ext ψ)->rem H a b=some o:=fun b o h n=>by
  by_cases z:b=a
  ·subst z; rw [h] at ha; cases ha; exact absurd rfl (n φ)
  ·rw [lY z]; exact h
 refine ⟨I.ok,I.os,I.bare,⟨I.base.keep,I.base.slot,fun b o e n hx=>nn b (I.base.free b o e n hx),I.base.there,fun b xs e=>oo b _ (I.base.tups b xs e) (fun _ z=>by cases z),fun b o x e=>oo b _ (I.base.frzs b o x e) (fun _ z=>by cases z),fun b ps e => ?_⟩,I.loc,I.cell,nn _ I.free,fun x c e=>nn _ (I.freeC x c e),fun p hp => ?_,fun b o e => ?_,I.len⟩
 ·obtain ⟨m,z⟩:=I.base.tbls b ps e
  exact ⟨m,oo b _ z (fun _ q=>by cases q)⟩
 ·obtain ⟨a1,a2,a3⟩:=I.pin p hp
  exact ⟨a1,nn _ a2,a3⟩
 ·by_cases z:b=a
  ·rw [z,kZ] at e; cases e
  ·rw [lY z] at e
   exact (I.hok b o e).stay (fun _ _ _ q=>q) (fun c q=>oo c _ q (fun _ z=>by cases z)) (fun c xs q=>oo c _ q (fun _ z=>by cases z))
theorem Inv.exnew (I:Inv X pins σ H s)(C:Addr)(us:List Value):Inv X pins σ (upd H (s.heap.objs.size+1) (exN (s.heap.objs.size+1) C none)) { s with heap:=fZ s.heap C us }:=by
 refine I.laid (a:=s.heap.objs.size+1) (t':=s.toks) (fun b u e=>Ac _ (Ac _ e)) (Dh _) ?_;have hget:(fZ s.heap C us).get? (s.heap.objs.size+1)=some { cls:=.ref C,data:=.fields #[.ref s.heap.objs.size,.none,.none,.none,.bool false,.none] }:=by unfold fZ; heap_get
 exact ⟨⟨_,_,⟨hget,rfl,rfl⟩,rfl⟩,⟨_,hget⟩,fun h1 h2 ⟨o,t,⟨e1,e2,e3⟩,e4⟩ k=>⟨o,t,⟨k o e1,e2,e3⟩,e4⟩⟩
theorem rZ {M:Model}{A:Around}{E:Value->Shared->Prop}{env:Env}{x:Sem Value}{C:Addr}{K:Frag}{s:Shared}{Q:Flow->Shared->Prop}(hh:A.handled=none)(F:ExK K C)(hk : ∃ oC,K.lookup C=some oC/\oC.cls = .type "type")
  (h:wpAny M A x (fun v s₁=>K.In s₁.heap/\∃ e ob us,v = .ref e/\s₁.heap.get? e=some ob/\ob.cls = .ref C/\ob.data = .fields us/\us[1]?=some .none/\E (.ref e) s₁) E s):wpAny M A (raiseStmt env (some x) none) Q E s:=by
 unfold raiseStmt;refine Ab (BV h (fun v s₁ h₁ => ?_) fun _ _ x=>x);obtain ⟨KX,e,ob,us,rfl,he,hc,hd,h1,hE⟩:=h₁;obtain ⟨hp,g,d,tk,os⟩:=s₁;have L1:=looks_subIn (M:=M) KX F.sb;obtain ⟨⟨cC,dC,tC,sC⟩,hkC,hkc⟩:=hk;have hC:=KX _ _ hkC;dsimp only at hkc;subst hkc;obtain ⟨oc,od,odt,osl⟩:=ob;dsimp only at hc hd;subst hc hd;have h1':=h1
 repeat (first | with_reducible refine Bd he ?_ | with_reducible refine Bd hC ?_ | with_reducible refine L1.at ?_ | wp_step)
 rw [h1];refine Af ?_;rw [if_neg (by decide)];exact Af (wpAny_raiseNew_none hh hE)
end
theorem yI {K:Frag}{C P f:Addr}(q:xiIn K C P f=true) : ∃ oC,K.lookup C=some oC/\oC.cls = .type "type" := by
 unfold xiIn at q;split at q
 ·rename_i ho
  exact ⟨_,ho,rfl⟩
 ·cases q
structure ExI (K:Frag)(C P f:Addr):Prop where
 xi:xiIn K C P f=true
 fn:typeIn K (.ref f)=some (.type "function")
 kp:keepIn K (.ref C)=true
 k:ExK K C
def aBz (C:Addr)(sp:Sp)(E:XK)(t:TA):TS:=fun _ σ H=>t σ H fun vs H1=>vs.length<=Aw/\∀ e,H1 e=none ->
 sp (.ref e :: vs) (upd H1 e (exN e C none)) (fun v H2=>v = .non/\∃ dd,H2 e=some (exN e C dd)/\E (.ref C) dd (rem H2 e)) E0
section
variable {X:Cx}
theorem iP {x:Str}{C P f:Addr}{fd:Bf}{ps:List Str}{sp:Sp}{k:Nat}{e₀:Expr}{es:List Expr}{t:TA}{E:XK}{np cpos pos:Pos}(hex:X.ex=[])(hX:XeOk X E)(hc:X.calm=true)(hr:Room (k+1) X.A)(hg:Gl X x)(hm:X.mg x=some (.ref C))(hei:ExI X.K C P f)
  (F:FnOk X.prog X.w X.K X.mg X.base CX0 k f fd ps sp) (hb:Binds X.K fd ps []) (ha:PA X (e₀ :: es) t)
  (hdb:(x == ("__debug__" : Str))=false:=by decide) (he:AS (e₀ :: es) X.env=(false,eval e₀ X.env) :: AS es X.env:=by rfl) (hpl:(backTo cpos (AS es X.env)).any (·.1)=false:=by rfl) :
  PS X (.Raise (some (.Call (.Name x np) (e₀ :: es) [] cpos)) none pos) (aBz C sp E t):=by
 intro pins s σ H D I h;rw [arm_exec_Raise];refine Ab (Fg (rZ (C:=C) (K:=X.K) (I.ok.hd hc) hei.k (yI hei.xi) ?_));refine Ab (thn (Q:=fun v s₁=>X.K.In s₁.heap/\∃ e ob us,v=AC e/\s₁.heap.get? e=some ob/\ob.cls = .ref C/\ob.data = .fields us/\us[1]?=some .none/\X.xe (.ref e) s₁) ?_ fun v s1 q=>Ab (Fg (Af q)));refine Dk (eU I hg hm ?_ hdb);refine Eh (h₀:=X.base) I.ok.mod.kin hei.kp (thn (ha cpos pins s σ H _ I h) fun us s1 ⟨vs,H1,I1,r,hl,q⟩=>⟨I1.kIn,?_⟩) he hpl;have hn:H1 (s1.heap.objs.size+1)=none:=I1.hok.fresh (Dh _);have hq:=q (s1.heap.objs.size+1) hn;have I2:=I1.exnew C us;have r2:Vals (V.ref (s1.heap.objs.size+1) :: vs) (AC (s1.heap.objs.size+1) :: us):=.cons rfl r;have hlen:(AC (s1.heap.objs.size+1) :: us ++ []).length=ps.length:=by
  have e:=r2.length;rw [F.len _ _ _ _ hq] at e;rw [BZ];exact e.symm
 have n0:X.s₀.heap.get? (s1.heap.objs.size+1)=none:=I1.absent0 hex (Heap.get?_none_of_le (Dh _));obtain ⟨hh,g,d,tk,os⟩:=s1;refine Ew (aAl (f:=f) (P:=P) I1.kIn (jF I1.kIn hei.xi) hei.fn (by show us.length<=Aw; rw [<- r.length]; exact hl) (Ck (F.run _ X.stack _ _ ⟨AC (hh.objs.size+1) :: us,[]⟩ (AC (hh.objs.size+1) :: us) _ _ E0 (hr.make C us [])
  (I2.env0.make C us []) (by have z:=hb _ (AC (hh.objs.size+1) :: us) I2.kIn hlen; rw [BZ] at z; exact z) r2 hq) fun r s' hq' => ?_))
 cases r with
 | error e=>exact hq'.elim
 | ok fl =>
  cases fl with
  | ret u =>
   obtain ⟨v,H',I3,rv,ev,dd,hd,hE⟩:=I2.after hq';subst ev;refine ⟨rv,?_⟩;obtain ⟨⟨o,t',⟨o1,o2,o3⟩,o4⟩,_⟩:=I3.hok _ _ hd;exact ⟨I3.kIn,_,o,_,rfl,o1,o2,o4,rfl,hX pins σ _ s' _ C o _ (I3.drop hd) kZ n0 o1 o2 o4 rfl (by rw [o3]; exact hE)⟩
  | next=>exact hq'.elim
  | brk=>exact hq'.elim
  | cont=>exact hq'.elim
end
end L2
namespace L2
open PySem PySem.Spec PyProof.Rows PySem.W PySem.Builtin PySem.Builtin.ObjectAttr
theorem rY (self:Value):refuseLoop self "__setattr__" bmV=pure ():=by
 kernel_rfl
section
variable {prog:Ax}{w:World}{A:Around}{E:Value->Shared->Prop}{h:Heap}{g:Array GenState}{d:Drawn}{t:Nat}{os:OsState}{K:Frag}{C P f a:Addr}{o:Obj}{name:Str}{v:Value}
theorem gU (X:K.In h)(I:ClsI h C P f)(F:ExK K C)(sa:findIn K (.ref C) "__setattr__" = some (some (.builtin "object.__setattr__")))(nn:findIn K (.ref C) name=some none)(O:ExAt h a o C)(hq : ∀ A' tk,wpAny (model prog w) A' (storeInOwnDict (.ref a) (.ref C) (.str name tk) name v false) (fun fin s'=>∃ u,fin = .done (.ret u)/\Q () s') (fun _ _=>False) ⟨h,g,d,t+1,os⟩) :
  wpAny (model prog w) A (setAttr (.ref a) name v) Q E ⟨h,g,d,t,os⟩:=by
 obtain ⟨nm,q,N,bs,sn,sub,ab,col,dd,k0,k1,k2,k3,k5,mN,hC,hn,hni,T⟩:=I.ex;have SF:=PySem.F.store_object;have L1:=O.type (M:=model prog w);have L2':=looks_findIn (M:=model prog w) X sa;have L3:=looks_findIn (M:=model prog w) X nn;have L4:Looks (model prog w) h (isInstance (.ref a) (.type "object")) true:=L1.andThen (looks_subIn X F.so);refine Ab (wpAny_mkText (Ab (Ab (Ab (L1 _ _ _ _ (fun _ _ e=>e) (L2' _ _ _ _ (fun _ _ e=>e) (Br ?_)))))));rw [SF.slot.bind];refine Ab (Af (Ab (Ew ?_)));refine Cv SF.slot.plain SF.entry (@check_slot (model prog w) _ _ _ "object.__setattr__" "object" "__setattr__" (.ref a) [.str name t,v] [] _ SF.kind SF.split L4 (SF.args (.ref a) (.str name t) v) ?_);show wpAny _ _ (AF.«object.__setattr__» ⟨[.ref a,.str name t,v],[]⟩) _ _ _;rw [osa_eq,refuse_eq];refine Ab (Ab (L1.here (Ab (wpAny_mroOf_exc hC ?_))));rw [refuseLoop_ref,refuseLoop_ref,rY];refine Af (Ab (L1.here (Ab (L3.here (Ab (Af ?_))))));refine BV (hq _ t) (fun fin s' z => ?_) fun _ _ z=>z.elim;obtain ⟨u,rfl,z⟩:=z;exact Af (Af z)
theorem wU (I:ClsI h C P f)(O:ExAt h a o C)(hd:o.dict=none)(hf:o.data = .fields us)(hq:Q (some h.objs.size) ⟨(h.push { cls:=.type "dict",data:=.dict #[] }).update a fun ob=>{ ob with dict:=some h.objs.size },g,d,t,os⟩):wpAny (model prog w) A (instanceDict a true) Q E ⟨h,g,d,t,os⟩:=by
 obtain ⟨nm,q,N,bs,sn,sub,ab,col,dd,k0,k1,k2,k3,k5,mN,hC,hn,hni,T⟩:=I.ex;have hx:=O.at_;obtain ⟨oc,od,odt,osl⟩:=o;have hc:=O.cls;dsimp only at hd hf hc;subst hd hf hc;have hx1:(h.push { cls:=.type "dict",data:=.dict #[] }).get? a=some ⟨.ref C,none,.fields us,osl⟩:=Ac _ hx;unfold instanceDict
 repeat (first | with_reducible refine Bd hx ?_ | with_reducible refine Bd hC ?_ | wp_step)
 exact hq
theorem mU (I:ClsI h C P f)(O:ExAt h a o C)(hd:o.dict=some dx)(hq:Q (some dx) ⟨h,g,d,t,os⟩)(b:Bool):wpAny (model prog w) A (instanceDict a b) Q E ⟨h,g,d,t,os⟩:=by
 obtain ⟨nm,q,N,bs,sn,sub,ab,col,dd,k0,k1,k2,k3,k5,mN,hC,hn,hni,T⟩:=I.ex;have hx:=O.at_;obtain ⟨oc,od,odt,osl⟩:=o;have hc:=O.cls;dsimp only at hd hc;subst hd hc;unfold instanceDict
 repeat (first | with_reducible refine Bd hx ?_ | with_reducible refine Bd hC ?_ | wp_step)
 exact hq
theorem pU {tk:Tok}(hn:h.Ns1 dx mA)(hw:Within mA ns)(hz:ns.length<=100)(hq : ∀ h' tk',h'.Ns1 dx (fun y=>if y=name then some v else mA y)->(∀ b ob,b ≠ dx->h.get? b=some ob->h'.get? b=some ob)->Q (.done (.ret .none)) ⟨h',g,d,tk',os⟩) :
  wpAny (model prog w) A (storeInDict dx (.str name tk) name v) Q E ⟨h,g,d,t,os⟩:=by
 unfold storeInDict newKeyGuard;refine Ab (Af (Ab (wpAny_nsSet1 hn fun h' hn' hs => ?_)));obtain ⟨oD,esD,epD,hoD,hdD,hcD⟩:=hn'.count (Within.cons name v hw);refine Ab (wpAny_lookBehind hoD (by rw [hdD]; exact pastItsLine_dict (AX hcD (by rw [AG,sizeLine_eq]; omega))) ?_);exact Af (hq h' _ hn' fun b ob nb q=>(hs.2 b nb).trans q)
theorem pA (X:K.In h)(I:ClsI h C P f)(F:ExK K C)(sa:findIn K (.ref C) "__setattr__" = some (some (.builtin "object.__setattr__")))(nn:findIn K (.ref C) name=some none)(O:ExAt h a o C)(hd:o.dict=none)(hf:o.data = .fields us)(hq : ∀ h' tk,h'.Ns1 h.objs.size (fun y=>if y=name then some v else none)->h'.get? a=some { o with dict:=some h.objs.size }->(∀ b ob,b ≠ a->h.get? b=some ob->h'.get? b=some ob)->Q () ⟨h',g,d,tk,os⟩) :
  wpAny (model prog w) A (setAttr (.ref a) name v) Q E ⟨h,g,d,t,os⟩:=by
 refine gU X I F sa nn O fun A' tk => ?_;have hx:=O.at_;have ne:a ≠ h.objs.size:=Av (Aq hx);have hx1:(h.push { cls:=.type "dict",data:=.dict #[] }).get? a=some o:=Ac _ hx;unfold storeInOwnDict;refine Ab (Af ?_);show wpAny _ _ (ownDictForStores (.ref a) >>= _) _ _ _;refine Ab (wU I O hd hf ?_);have hgd:((h.push { cls:=.type "dict",data:=.dict #[] }).update a fun ob=>{ ob with dict:=some h.objs.size }).get? h.objs.size=some { cls:=.type "dict",data:=.dict #[] } :=
  (AW _ _ ne).trans (Heap.get?_push_at rfl rfl)
 have hga:((h.push { cls:=.type "dict",data:=.dict #[] }).update a fun ob=>{ ob with dict:=some h.objs.size }).get? a=some { o with dict:=some h.objs.size }:=by
  refine BK _ hx1 ?_;obtain ⟨oc,od,odt,osl⟩:=o;dsimp only at hf;subst hf;rfl
 have hnd:((h.push { cls:=.type "dict",data:=.dict #[] }).update a fun ob=>{ ob with dict:=some h.objs.size }).Ns h.objs.size (fun _=>none):=⟨_,#[],_,hgd,rfl,fun e he=>absurd he (by simp),fun _=>rfl⟩;refine pU (Heap.Ns1.of_empty hnd) (ns:=[]) Within.nil (by decide) fun h' tk' hn' hk=>⟨_,rfl,hq h' tk' hn' (hk a _ ne hga) fun b ob nb q=>hk b ob (Av (Aq q)) ?_⟩;exact (AW _ _ (AM nb)).trans (Ac _ q)
theorem mX (X:K.In h)(I:ClsI h C P f)(F:ExK K C)(sa:findIn K (.ref C) "__setattr__" = some (some (.builtin "object.__setattr__")))(nn:findIn K (.ref C) name=some none)(O:ExAt h a o C)(hd:o.dict=some dx)(hn:h.Ns1 dx mA)(hw:Within mA ns)(hz:ns.length<=100)(hq : ∀ h' tk,h'.Ns1 dx (fun y=>if y=name then some v else mA y)->(∀ b ob,b ≠ dx->h.get? b=some ob->h'.get? b=some ob)->Q () ⟨h',g,d,tk,os⟩) :
  wpAny (model prog w) A (setAttr (.ref a) name v) Q E ⟨h,g,d,t,os⟩:=by
 refine gU X I F sa nn O fun A' tk => ?_;unfold storeInOwnDict;refine Ab (Af ?_);show wpAny _ _ (ownDictForStores (.ref a) >>= _) _ _ _;refine Ab (mU I O hd ?_ true);exact pU hn hw hz fun h' tk' hn' hk=>⟨_,rfl,hq h' tk' hn' hk⟩
theorem lI {tk:Tok}(X:K.In h)(I:ClsI h C P f)(nn:findIn K (.ref C) name=some none)(O:ExAt h a o C)(hd:o.dict=some dx)(hf:o.data = .fields us)(hn:h.Ns dx mA)(hv:mA name=some v)(hq:Q (.done (.ret v)) ⟨h,g,d,t,os⟩):wpAny (model prog w) A (AF.«object.__getattribute__» ⟨[.ref a,.str name tk],[]⟩) Q E ⟨h,g,d,t,os⟩:=by
 have L1:=O.type (M:=model prog w);have L3:=looks_findIn (M:=model prog w) X nn;have hx:=O.at_;have hc:=O.cls;refine Ab (Af (Ab (Af ?_)));refine Ab (L1.here (Ab ?_));unfold find;refine Ab (L3.here ?_);refine Ab (Af ?_);refine Ab (Af ?_);unfold ownThenClass inOwnDict ObjectAttr.ownDict;refine Ab (Ab ?_);refine Ab (Bd hx ?_);rw [hf];refine mU I O hd ?_ false;refine wpAny_nsGet hn ?_;rw [hv];exact Ab (Di (Af (Af hq)))
theorem mY {tk:Tok}(X:K.In h)(I:ClsI h C P f)(F:ExK K C)(nn:findIn K (.ref C) name=some none)(O:ExAt h a o C)(hd:o.dict=some dx)(hf:o.data = .fields us)(hn:h.Ns dx mA)(hv:mA name=some v)(hq:R (.ok (.ret v)) ⟨h,g,d,t,os⟩):DJ (model prog w) A (.call (.builtin "BaseException.__getattribute__") ⟨[.ref a,.str name tk],[]⟩) R ⟨h,g,d,t,os⟩ :=
 Cv Ei.ga.plain PySem.F.entry_bexc_ga (gW X F O (lI X I nn O hd hf hn hv hq))
theorem tE {tk:Tok}{fill expr:Bool}(X:K.In h)(I:ClsI h C P f)(F:ExK K C)(nn:findIn K (.ref C) name=some none)(O:ExAt h a o C)(hd:o.dict=some dx)(hf:o.data = .fields us)(hn:h.Ns dx mA)(hv:mA name=some v)(hh:handedIn v=true)(hq:Q v ⟨h,g,d,t,os⟩):wpAny (model prog w) A (getAttrBy (.ref a) (.str name tk) fill expr) Q E ⟨h,g,d,t,os⟩:=by
 have f3:=Ei.ga.bind (.ref a);have hx0:(expr && onTheHeap (CU "BaseException.__getattribute__"))=false:=by cases expr <;> rfl
 have hx2:(CU "BaseException.__getattribute__" == CU "object.__getattribute__")=false:=by decide +kernel
 have hx1:(onTheHeap (AC C) && CU "BaseException.__getattribute__" == CU "object.__getattribute__")=false:=by rw [hx2]; rfl
 have L1:=looks_findIn (M:=model prog w) X F.ga;have L2':=looks_findIn (M:=model prog w) X F.gt;have hx:=O.at_;have hc:=O.cls
 repeat (any_goals (first | assumption | (with_reducible refine Bd hx ?_; rw [hc]) | with_reducible refine L1.at ?_ | with_reducible refine L2'.at ?_ | wp_step))
 refine mY X I F nn O hd hf hn hv ?_
 repeat (any_goals (first | assumption | exact handed_on hh hq | wp_step))
end
structure ExF (K:Frag)(C P f:Addr)(x:Str):Prop where
 i:ExI K C P f
 sa:findIn K (.ref C) "__setattr__" = some (some (.builtin "object.__setattr__"))
 nn:findIn K (.ref C) x=some none
def xdE (a:Addr)(fs:List (Str × V)):HO:=.ext fun h=>∃ mA,h.Ns1 a mA/\(∀ g,RelO (fs.lookup g) (mA g))/\Within mA (fs.map (·.1))
theorem aAs {w:World}{fs:List (Str × V)}(n:h.Ns1 a mA)(r : ∀ g,RelO (fs.lookup g) (mA g))(wi:Within mA (fs.map (·.1))):ObjOk P w H h a (xdE a fs):=by
 obtain ⟨o,es,ep,e,q⟩:=id n;exact ⟨⟨mA,n,r,wi⟩,⟨o,e⟩,fun h1 h2 ⟨m,n1,r1,w1⟩ k=>⟨m,n1.at k,r1,w1⟩⟩
theorem aBh {w:World}{dd:Option Addr}(e:h.get? a=some o)(c:o.cls = .ref C)(dq:o.dict=dd)(fd:o.data = .fields #[t,.none,.none,.none,.bool false,.none]):ObjOk P w H h a (exN a C dd) :=
 ⟨⟨o,t,⟨e,c,dq⟩,fd⟩,⟨o,e⟩,fun h1 h2 ⟨o,t,⟨e1,e2,e3⟩,e4⟩ k=>⟨o,t,⟨k o e1,e2,e3⟩,e4⟩⟩
section
variable {X:Cx}{pins:List (Addr × Obj)}{σ:St}{H:Hp}{s:Shared}{o e value:Expr}{x:Str}{pos pos':Pos}{ta tv:TE}{C P f:Addr}
theorem Inv.trackNew (I:Inv X pins σ H s)(I':Inv X pins σ H' s')(hex:X.ex=[])(n:s.heap.get? a=none)(hn:H' a=none)(ok:ObjOk X.prog X.w (upd H' a u) s'.heap a u):Inv X pins σ (upd H' a u) s':=by
 refine I'.track hn (I.absent0 hex n) (fun z => ?_) (fun y c q z => ?_) (fun p q z => ?_) ok
 ·obtain ⟨m,⟨oL,_,_,hoL,_⟩,_⟩:=I.loc
  rw [<- z,n] at hoL;cases hoL
 ·obtain ⟨v,o,ho,_⟩:=I.cell y c q
  rw [z,n] at ho;cases ho
 ·have:=(I.pin p q).1
  rw [z,n] at this;cases this
def sExN (K:Frag)(C P f:Addr)(ta tv:TE)(x:Str):TS:=fun D σ H=>tv σ H fun y H1=>ta σ H1 fun z H2=>∃ a,z = .ref a/\H2 a=some (exN a C none)/\ExF K C P f x /\
 ∀ dx,H2 dx=none->dx ≠ a->D.nx σ (upd (upd H2 a (exN a C (some dx))) dx (xdE dx [(x,y)]))
theorem uR (hex:X.ex=[])(ha:PE X o ta)(hv:PE X value tv)(hs:swapsWith value (some (.Attribute o x pos')) pos.line X.env=pure false):PS X (.Assign [.Attribute o x pos'] value pos) (sExN X.K C P f ta tv x):=by
 intro pins s σ H D I h;refine EN (thn (hv pins s σ H _ I h) fun u s1 ⟨y,H1,I1,ry,q⟩=>thn (ha pins s1 σ H1 _ I1 q) fun ov s2 ⟨z,H2,I2,rx,a,ez,ea,F,q2⟩ => ?_) hs;subst ez;obtain rfl:ov=AC a:=rx;obtain ⟨⟨ob,t',⟨o1,o2,o3⟩,o4⟩,_⟩:=I2.hok _ _ ea;have nz:s2.heap.get? s2.heap.objs.size=none:=Heap.get?_none_of_le (Ak _);have Hz:H2 s2.heap.objs.size=none:=I2.hok.fresh (Ak _);have ne:s2.heap.objs.size ≠ a:=Dq (Aq o1);obtain ⟨hh,g,d,tk,os⟩:=s2;refine pA I2.kIn (jF I2.kIn F.i.xi) F.i.k F.sa F.nn ⟨o1,o2⟩ o3 o4 fun h' tk' hn' ga ks => ?_;have J1:Inv X pins σ (upd H2 a (exN a C (some hh.objs.size))) ⟨h',g,d,tk',os⟩:=by
  refine I2.write (x:=a) (e:=a) (t':=tk') (by rw [ea]; exact Dx) (.inl rfl) ks ⟨_,ga⟩ ?_;exact aBh ga o2 rfl o4
 have J2:=I2.trackNew J1 (a:=hh.objs.size) (u:=xdE hh.objs.size [(x,y)]) hex nz (by rw [aI ne]; exact Hz) (aAs hn' (fun g => ?_) (fun g hg => ?_))
 ·exact ⟨σ,_,J2,q2 _ Hz ne⟩
 ·by_cases z:g=x
  ·subst z
   simp only [Dr,beq_self_eq_true,if_true];exact ry
  ·have:([(x,y)]:List (Str × V)).lookup g=none:=by
    simp only [Dr];rw [beq_eq_false_iff_ne.mpr z]
   rw [this,if_neg z];exact Dx
 ·by_cases z:g=x
  ·rw [z]; simp
  ·rw [if_neg z] at hg
   exact absurd rfl hg
end
section
variable {prog:Ax}{w:World}{A:Around}{E:Value->Shared->Prop}{h:Heap}{g:Array GenState}{d:Drawn}{t:Nat}{os:OsState}{K:Frag}{C P f a:Addr}{o:Obj}{v:Value}
theorem tJ {rest:List Value}(I:ClsI h C P f)(O:ExAt h a o C)(hf:o.data = .fields us)(h0:us[0]?=some a0)(hz:rest.length<=Aw)(hq:Q .none ⟨(h.push { cls:=.type "tuple",data:=.seq rest.toArray }).update a (DT (·.setIfInBounds 0 (.ref h.objs.size))),g,d,t,os⟩) :
  wpAny (model prog w) A (call (.builtin "ValueError.__init__") (.ref a :: rest)) Q E ⟨h,g,d,t,os⟩:=by
 obtain ⟨nm,q,N,bs,sn,sub,ab,col,dd,k0,k1,k2,k3,k5,mN,hC,hn,hni,T⟩:=I.ex;have F:=PySem.F.excBase_ValueError;have z0:0 < us.size:=(Cp.mp h0).1;have g1:=Ac (h:=h) { cls:=.type "tuple",data:=.seq rest.toArray } O.at_;refine Ew (Cv F.init.plain F.initEntry (wpAny_check_init_subU F T hC O.at_ O.cls ?_));unfold AF.«BaseException.__init__»;dsimp only;rw [if_neg (by simp)];unfold newTuple AF.BaseException.bexcPut;refine Ab (AY ?_ (by show rest.toArray.size<=Aw; rw [Aj]; exact hz));refine Ab (Ab (BH g1 hf h0 (Ab (EW g1 hf z0 ?_))));split
 ·refine wpAny_letGo ?_
  exact Af hq
 ·exact Af (Af hq)
end
structure BaseI (K:Frag)(P:Addr):Prop where
 rd:readsIn K P (.type "type")=true
 fc:findCls K (.ref P) (.type "type") "__init__" = some (.val (.builtin "ValueError.__init__"))
 ga:specialIn K (.ref P) "__getattribute__" = some (some (.builtin "type.__getattribute__"))
section
variable {X:Cx}{C P f:Addr}{x:Str}{p apos pos:Pos}{e₁ e₂:Expr}{t:TA}
def aEg (K:Frag)(P:Addr)(t:TA):TE:=fun σ H Q=>t σ H fun vs H1=>∃ a C dd f txt,vs=[.ref a,.str txt]/\H1 a=some (exN a C dd)/\ExI K C P f/\Q .non H1
theorem aD3 (h:H a=some o):upd H a o=H:=by
 funext b
 by_cases z:b=a
 ·rw [z,aB,h]
 ·rw [aI z]
theorem lA {pl:Sem Bool}(hg:Gl X x)(hm:X.mg x=some (.ref P))(B:BaseI X.K P)(ha:PA X [e₁,e₂] t)(hdb:(x == ("__debug__" : Str))=false:=by decide)
  (hst:AS [e₁,e₂] X.env=(false,eval e₁ X.env) :: AS [e₂] X.env:=by rfl) (hpl:(backTo pos (AS [e₂] X.env)).any (·.1)=false:=by rfl)
  (ht:eval (.Call (.Attribute (.Name x p) "__init__" apos) [e₁,e₂] [] pos) X.env=(do
   let ov <- eval (.Name x p) X.env
   standAt apos.atName
   let (f,first) <- holding [ov] (getMethod ov "__init__" pl)
   callWith pos f first (backTo pos (AS [e₁,e₂] X.env)) (backToKw pos (keywordEach [] X.env))):=by rfl) :
  PE X (.Call (.Attribute (.Name x p) "__init__" apos) [e₁,e₂] [] pos) (aEg X.K P t):=by
 intro pins s σ H Q I h;refine PySem.W.methodCall_KW (pl:=pl) (eU I hg hm ?_ hdb) ht;refine method_cls I.kIn B.ga (cls_value I.kIn B.rd B.fc rfl ?_);have I0:=I.tok (s.toks+1);have hA:=ha pos pins _ σ H _ I0 h;rw [hst] at hA ⊢;refine Dy (by show (false || (backTo pos (AS [e₂] X.env)).any (·.1))=false; rw [hpl] <;> rfl) (EL (thn hA fun us s2 ⟨vs,H2,I2,r2,a,C,dd,f,txt,e1,ea,F,q2⟩ => ?_));subst e1;obtain ⟨u1,u2,rfl,ra,rt⟩:=r2.two;obtain rfl:u1=AC a:=ra;obtain ⟨⟨ob,t',⟨o1,o2,o3⟩,o4⟩,_⟩:=I2.hok _ _ ea;obtain ⟨hh,g,d,tk,os⟩:=s2;refine tJ (jF I2.kIn F.xi) ⟨o1,o2⟩ o4 rfl zLn1 ?_;have g1:=Ac (h:=hh) { cls:=.type "tuple",data:=.seq [u2].toArray } o1;have d1:=Eu o4 (·.setIfInBounds 0 (AC hh.objs.size));have g2:=BK (DT (·.setIfInBounds 0 (AC hh.objs.size))) g1 (EG d1);have J:Inv X pins σ (upd H2 a (exN a C dd)) ⟨(hh.push { cls:=.type "tuple",data:=.seq [u2].toArray }).update a (DT (·.setIfInBounds 0 (.ref hh.objs.size))),g,d,tk,os⟩:=by
  refine I2.write (x:=a) (e:=a) (t':=tk) (by rw [ea]; exact Dx) (.inl rfl) (fun b u nb q => ?_) ⟨_,g2⟩ ?_
  ·exact (AW _ _ (AM nb)).trans (Ac _ q)
  ·exact aBh g2 ((Obj.cls_mapFields _ _).trans o2) ((xG _ _).trans o3) d1
 rw [aD3 ea] at J;exact ⟨.non,H2,J,rfl,q2⟩
def tExF (K:Frag)(ta:TE)(x:Str):TE:=fun σ H Q=>ta σ H fun z H1=>∃ a C P f dx fs v,z = .ref a/\H1 a=some (excD a C (some dx))/\H1 dx=some (xdE dx fs)/\ExF K C P f x/\fs.lookup x=some v/\Q v H1
theorem jP {e:Expr}{ta:TE}(he:PE X e ta)(hb:Ed e x X.env (eval e X.env)=eval e X.env):PE X (.Attribute e x pos) (tExF X.K ta x):=by
 intro pins s σ H Q I h;refine yA hb (thn (he pins s σ H _ I h) fun u s1 ⟨z,H1,I1,rx,a,C,P,f,dx,fs,v,ez,ea,ed,F,l,q⟩ => ?_);subst ez;obtain rfl:u=AC a:=rx;obtain ⟨⟨ob,O,od,us,ou⟩,_⟩:=I1.hok _ _ ea;obtain ⟨⟨mA,n1,r1,_⟩,_⟩:=I1.hok _ _ ed;obtain ⟨w',hw,rw'⟩:=RelO.some_of (by rw [<- l]; exact r1 x);unfold getAttr;refine Ab (wpAny_mkText ?_);have I2:=I1.tok (s1.toks+1);obtain ⟨hh,g,d,tk,os⟩:=s1;exact tE I1.kIn (jF I1.kIn F.i.xi) F.i.k F.nn O od ou n1.ns hw (mV rw') ⟨v,H1,I2,rw',q⟩
end
end L2
namespace L2
open PySem PySem.Spec PyProof.Rows PySem.W
def FmtV:V->Str->Prop
 | .int i,x=>i.natAbs.log2 < 1920/\x=(toString i:String)
 | .str y,x=>y.length<=Aw/\x=y
 | .non,x=>x = "None"
 | _,_=>False
def tFmt (ta:TE):TE:=fun σ H Q=>ta σ H fun v H1=>∃ x,FmtV v x/\Q (.str x) H1
abbrev TJ:=Str->St->Hp->(Str->Hp->Prop)->Prop
def PJ (X:Cx)(es:List Expr)(t:TJ):Prop :=
 ∀ (acc:Str) (pins:List (Addr × Obj)) (s:Shared) (σ:St) (H:Hp) (Q:Str->Hp->Prop),Inv X pins σ H s->t acc σ H Q->wpAny (model X.prog X.w) X.A (joinParts acc (evalEach es X.env)) (EP X pins σ fun v H'=>∃ x,v = .str x/\Q x H') X.xe s
def jNil:TJ:=fun acc _ H Q=>acc.length<=Aw/\Q acc H
def aG6 (te:TE)(tr:TJ):TJ:=fun acc σ H Q=>te σ H fun v H1=>∃ x,v = .str x/\(acc ++ x).length<=Aw/\tr (acc ++ x) σ H1 Q
def aGh (t:TJ):TE:=fun σ H Q=>t Str.empty σ H fun x H'=>Q (.str x) H'
section
variable {X:Cx}{value e e':Expr}{es:List Expr}{ta te:TE}{tr t:TJ}{pos:Pos}
theorem jN (ha:PE X value ta):PE X (.FormattedValue value (-1) none pos) (tFmt ta):=by
 intro pins s σ H Q I h;refine FormattedValue_plain (thn (ha pins s σ H _ I h) fun u s1 ⟨v,H1,I1,rv,x,fx,q⟩ => ?_);cases v with
 | int i =>
  obtain ⟨t,rfl⟩:=rv;obtain ⟨hl,rfl⟩:=fx;exact formatField_int_small hl ⟨.str _,H1,I1.tok _,⟨_,rfl⟩,q⟩
 | str y =>
  obtain ⟨t,rfl⟩:=rv;obtain ⟨hl,rfl⟩:=fx;exact formatField_str (fun t' tk=>⟨.str x,H1,I1.tok _,⟨_,rfl⟩,q⟩) hl
 | non =>
  cases rv;cases fx;exact wpAny_formatField_none ⟨.str _,H1,I1.tok _,⟨_,rfl⟩,q⟩
 | bl _=>exact fx.elim
 | byt _=>exact fx.elim
 | flt _=>exact fx.elim
 | ref _=>exact fx.elim
 | ty _=>exact fx.elim
theorem uW:PJ X [] jNil:=fun acc pins s σ H Q I h=>joinParts_nil ⟨.str acc,H,I.tok _,⟨_,rfl⟩,acc,rfl,h.2⟩ h.1
theorem cV (he:PE X e te)(hr:PJ X es tr):PJ X (e :: es) (aG6 te tr):=by
 intro acc pins s σ H Q I h;show wpAny _ _ (joinParts acc (eval e X.env :: evalEach es X.env)) _ _ _;refine joinParts_cons (thn (he pins s σ H _ I h) fun u s1 ⟨v,H1,I1,rv,x,ev,hz,q⟩ => ?_);subst ev;obtain ⟨t,rfl⟩:=rv;exact ⟨hz,hr _ pins s1 σ H1 Q I1 q⟩
theorem oP (h:PJ X (e :: e' :: es) t):PE X (.JoinedStr (e :: e' :: es) pos) (aGh t):=by
 intro pins s σ H Q I hw;refine JoinedStr_many (thn (h _ pins s σ H _ I hw) fun u s1 ⟨v,H1,I1,rv,x,ev,q⟩ => ?_);subst ev;exact ⟨.str x,H1,I1,rv,q⟩
end
def Its (x:Str):It:=⟨fun i _=>∃ c,x.cps[i]?=some c,fun i H v H'=>H'=H/\∃ c,x.cps[i]?=some c/\v = .str ⟨#[c]⟩,fun i _=>x.cps[i]?=none⟩
theorem yJ {P:Ax}{w:World}{K:Frag}{tg:Expr}(x:Str)(t:Tok)(it:Addr)(b:Bool) :
  Turn P w K tg (Its x) [it] it (fun i h=>h.IsStrIter it (if b then "str_ascii_iterator" else "str_iterator") x t i) where
 mem:=by simp
 obj:=fun i h st a ha=>by
  have e:a=it:=by simpa using ha
  subst e;obtain ⟨o,e,c,d⟩:=st;exact ⟨o,e,fun v z=>by rw [d] at z; cases z⟩
 keep:=fun i h h' ⟨o,e,r⟩ k=>⟨o,k it (by simp) o e,r⟩
 item:=by
  intro X hP hw hK hc i pins s σ H E I hf st hg;subst hP hw hK;obtain ⟨c,hx⟩:=hg;obtain ⟨f0,f1,f2,f3,f4,f5⟩:=hf it (by simp);have go : ∀ h',h'.IsStrIter it (if b then "str_ascii_iterator" else "str_iterator") x t (i+1)->Ci it s.heap h' ->
    ∃ u,(some (Value.str ⟨#[c]⟩ s.toks))=some u/\wpAny (model X.prog X.w) X.A (Fp tg (.ref it) u) (fun _ s2=>∃ v H',Inv X pins σ H' s2/\RelV v u/\(Its x).yld i H v H'/\s2.heap.IsStrIter it (if b then "str_ascii_iterator" else "str_iterator") x t (i+1)/\∀ b ∈ [it],H' b=none) E { s with heap:=h',toks:=s.toks+1 }:=by
   intro h' st' sb;have I1:Inv X pins σ H { s with heap:=h',toks:=s.toks+1 }:=I.turned (t':=s.toks+1) (fun b o hb e=>(sb.2 b hb).trans e) f0 f1 f3 f4 f5;obtain ⟨o,e,cc,d⟩:=id st';exact ⟨_,rfl,wW (s:={ s with heap:=h',toks:=s.toks+1 }) e cc d (by cases b <;> decide) ⟨.str ⟨#[c]⟩,H,I1,⟨_,rfl⟩,⟨rfl,c,hx,rfl⟩,st',fun b hb=>(hf b hb).1⟩⟩
  cases b with
  | true=>exact wpAny_pyNext_ascii_item st hx go
  | false=>exact wpAny_pyNext_wide_item st hx go
 done:=by
  intro X hP hw hK hc i pins s σ H E I hf st hg;subst hP hw hK;obtain ⟨f0,f1,f2,f3,f4,f5⟩:=hf it (by simp);cases b with
  | true=>exact wpAny_pyNext_ascii_end (I.ok.hd hc) st hg fun h' eb=>⟨rfl,I.turned (t':=s.toks) (fun b o hb e=>eb b o hb e) f0 f1 f3 f4 f5⟩
  | false=>exact wpAny_pyNext_wide_end (I.ok.hd hc) st hg fun h' eb=>⟨rfl,I.turned (t':=s.toks) (fun b o hb e=>eb b o hb e) f0 f1 f3 f4 f5⟩
 self:=fun _ _ _ _ _ st h=>by
  cases b with
  | true=>exact wpAny_pyIter_striter_ascii st h
  | false=>exact wpAny_pyIter_striter_wide st h
def iStr (tl:TE):TI:=fun σ H R=>tl σ H fun v H1=>∃ x,v = .str x/\R (Its x) H1
section
variable {X:Cx}
theorem aA5 {tg l:Expr}{tl:TE}(hl:PE X l tl):PI X tg l (iStr tl):=by
 intro pins s σ H R I h;refine thn (hl pins s σ H _ I h) fun v s1 ⟨y,H1,I1,r1,x,ey,q⟩ => ?_;subst ey;obtain ⟨t,rfl⟩:=r1;have fin : ∀ b:Bool,PIE X pins σ tg R (.ref s1.heap.objs.size) { s1 with heap:=s1.heap.push { cls:=.type (if b then "str_ascii_iterator" else "str_iterator"),data:=.fields #[.str x t,.int 0 0] } }:=by
  intro b;refine ⟨s1.heap.objs.size,[s1.heap.objs.size],_,_,H1,rfl,I1.kept (t':=s1.toks) fun b o e=>Ac _ e,yJ x t _ b,⟨_,Ah _ rfl,rfl,rfl⟩,fun b hb => ?_,q⟩;have e:b=s1.heap.objs.size:=by simpa using hb
  subst e;exact I1.fpOk (Ak _) (I1.hok.fresh (Ak _))
 cases ha:x.cps.all (· < 128) with
 | true=>exact wpAny_pyIter_ascii ha (fin true)
 | false=>exact wpAny_pyIter_wide ha (fin false)
end
def rPart:V->List V->Hp->VK->Prop:=fun z vs H Q=>∃ x y,z = .str x/\vs=[.str y]/\(y.length == 0)=false/\x.length<=Aw/\∀ p,H p=none->Q (.ref p) (upd H p (.tup [.str (Txt.partition x y).1,.str (Txt.partition x y).2.1,.str (Txt.partition x y).2.2]))
def rSplit:V->List V->Hp->VK->Prop:=fun z vs H Q=>∃ x y,z = .str x/\vs=[.str y]/\(y.length == 0)=false/\x.length+2<=Aw/\∀ p,H p=none->Q (.ref p) (upd H p (.lst ((Txt.split x y).map V.str)))
section
variable {X:Cx}
end
section
variable {X:Cx}
theorem yK {w:World}{b:Bool}(h:Q b s):wpAny (model prog w) A (truthy (.bool b)) Q E s:=by
 cases b <;> exact Af h
theorem range_any {bs:List Bool}:(Bc bs.length).any (fun i=>bs.getD i false)=bs.any id:=by
 rw [DI];simp only [List.any_eq_true,Dd,id];constructor
 ·rintro ⟨i,hi,h⟩
  exact ⟨bs[i],Dw hi,by simpa [List.getD,hi] using h⟩
 ·rintro ⟨b,hb,h⟩
  obtain ⟨i,hi,rfl⟩:=List.getElem_of_mem hb;exact ⟨i,hi,by simpa [List.getD,hi] using h⟩
theorem range_all {bs:List Bool}:(Bc bs.length).all (fun i=>bs.getD i false)=bs.all id:=by
 rw [DI];simp only [CG,Dd,id];constructor
 ·intro h b hb
  obtain ⟨i,hi,rfl⟩:=List.getElem_of_mem hb
  simpa [List.getD,hi] using h i hi
 ·intro h i hi
  simpa [List.getD,hi] using h bs[i] (Dw hi)
theorem rP {σ:St}(I:Inv X pins σ H s)(hc:X.calm=true){p:Addr}{bs:List Bool}(hq:SqL X.K H p (bs.map V.bl)){E:Value->Shared->Prop}{k:(Nat->Bool)->Nat->Bool}(q:Q (.bl (k (fun i=>bs.getD i false) bs.length)) H) :
  wpAny (model X.prog X.w) X.A.in1 (pyIter (.ref p)) (fun it s₂=>∃ J fp wr n P St tr,it = .ref J/\Walks X.prog X.w X.A.in1 J fp wr n P St/\St 0 s₂.heap/\TruthOf X.prog X.w X.A.in1 P tr /\
   ∀ h' tk,(∀ b o,b ∉ wr->s₂.heap.get? b=some o->h'.get? b=some o)->EP X pins σ Q (.bool (k tr n)) { s₂ with heap:=h',toks:=tk }) E s:=by
 obtain ⟨its,rv,pl,hz⟩:=I.list hq;have hl:=rv.length;rw [Ag] at hl;have ne:p ≠ s.heap.objs.size:=by
  obtain ⟨o,n,e,_⟩:=pl;exact Av (Aq e)
 refine wpAny_pyIter_list pl.isList ?_;have keep : ∀ b o,s.heap.get? b=some o->(s.heap.push { cls:=.type "list_iterator",data:=.fields #[.ref p,.int 0 0] }).get? b=some o:=fun b o e=>Ac _ e;refine ⟨s.heap.objs.size,_,_,_,_,_,fun i=>bs.getD i false,rfl,Walks.list (A:=X.A.in1) (show X.A.in1.handled=none from I.ok.hd hc) s.heap.objs.size p ne its.toArray,⟨⟨_,Ah _ rfl,rfl,rfl⟩,pl.isList.at fun o e=>keep p o e⟩,?_,?_⟩
 ·intro i v s' Q' E' hv hQ
  have hv':its[i]?=some v:=by simpa using hv
  have hi:i < bs.length:=by rw [hl]; exact (Ad.mp hv').1
  obtain ⟨u,hu,ru⟩:=rv.get (show (bs.map V.bl)[i]?=some (.bl bs[i]) by simp [hi]);rw [hv'] at hu;cases hu;cases ru;have e:bs.getD i false=bs[i]:=by simp [List.getD,hi]
  dsimp only at hQ;rw [e] at hQ;exact yK hQ
 ·intro h' tk kp
  have J:Inv X pins σ H { s with heap:=h',toks:=tk }:=I.kept (t':=tk) fun b o e=>kp b o (by
   have lt:=Aq e;intro z;have z':b=s.heap.objs.size:=by simpa using z
   rw [z'] at lt;exact CB _ lt) (keep b o e)
  have es:its.toArray.size=bs.length:=by rw [Aj]; omega
  rw [es];exact ⟨.bl _,H,J,rfl,q⟩
theorem nJ (hc:X.calm=true):eQ X (.builtin "all") (fun xs H Q=>∃ p,∃ bs:List Bool,xs=[.ref p]/\SqL X.K H p (bs.map V.bl)/\Q (.bl (bs.all id)) H):=by
 intro pins s σ H xs us Q I r h;obtain ⟨p,bs,rfl,hq,q⟩:=h;obtain ⟨u,rfl,rx⟩:=vals1 r;cases rx;exact call_all_walk (rP I hc hq (k:=fun tr n=>(Bc n).all tr) (by rw [range_all]; exact q))
end
end L2
namespace TM
open PySem PySem.NumText
def dg (n:Nat):List Nat:=(Nat.toDigits 10 n).map Char.toNat
theorem aFz {n:Nat}(h:n < 10 ^ 60):(dg n).length<=60:=by
 unfold dg;rw [Ag];exact PyProof.Rows.digits10_le (by decide) h
structure Fig (cs:List Nat):Prop where
 ne:cs ≠ []
 len:cs.length<=60
 all:AllDigits cs
 no:cs.head?=some 48->cs.length=1
def Reads (L:List Nat)(t b:Nat):Prop :=
 (Fig L/\t=digitsVal L/\b=1)\/∃ p q,L=p ++ 47 :: q/\Fig p/\Fig q/\t=digitsVal p/\b=digitsVal q/\2<=b/\Nat.gcd t b=1
def showL (t b:Nat):List Nat:=if b=1 then dg t else dg t ++ 47 :: dg b
end TM
namespace TM
open PySem PySem.StrLaws PySem.Builtin PySem.Builtin.Str
abbrev cps (x:Str):List Nat:=x.cps.toList
abbrev sl:Str:=⟨#[47]⟩
theorem ext (h:cps x=cps y):x=y:=by
 obtain ⟨⟨a⟩⟩:=x;obtain ⟨⟨b⟩⟩:=y;have h':a=b:=h;rw [h']
theorem dR (x y:Str):cps (x ++ y)=cps x ++ cps y:=by
 show (x.cps ++ y.cps).toList=_;rw [Array.toList_append]
end TM
namespace L2
open PySem PySem.Spec PyProof.Rows PySem.W
def rCount:V->List V->Hp->VK->Prop:=fun x vs H Q=>∃ l xs y,x = .ref l/\vs=[y]/\H l=some (.lst xs)/\eK y=true/\xs.all eK=true/\Q (.int ((xs.countP fun z=>eqV z y:Nat):Int)) H
def rIndex:V->List V->Hp->VK->Prop:=fun x vs H Q=>∃ l xs y,∃ j:Nat,∃ z,x = .ref l/\vs=[y]/\H l=some (.lst xs)/\eK y=true/\xs.all eK=true/\xs[j]?=some z/\eqV z y=true /\
 (∀ m z,m < j->xs[m]?=some z->eqV z y=false)/\Q (.int (j:Int)) H
section
variable {X:Cx}
end
theorem aF3:Cb "ValueError" = some (.type "ValueError"):=by decide +kernel
def Nx (n i:Nat)(P:Prop):Prop:=∃ m',m' < n - i/\m'=n - (i+1)/\i+1<=n/\P
theorem Nx.mk {n i:Nat}{P:Prop}(h:i < n)(p:P):Nx n i P:=⟨n - (i+1),by omega,rfl,h,p⟩
theorem nN {σ:St}:BlkN X N' scope cl σ (CL N'.length none):=by
 refine ⟨by simp,fun i x v h1 h2 => ?_⟩;rw [Eo] at h2;split at h2 <;> cases h2
theorem aAp {D:Addr}{x:Str}{g:TG}{tt:TT}{te:TE}{σ0:St}{QD:Hp->Prop}{H1:Hp}(Pv:Nat->List V->Hp->Prop)(h0:Pv 0 [] (upd H1 D (.lst [])))
  (hl : ∀ i ys H,i<=x.cps.toList.length->Pv i ys H->H D=some (.lst ys)/\ys.length < Aw)
  (hs : ∀ i c ys H,x.cps.toList[i]?=some c->Pv i ys H->g (.str ⟨#[c]⟩) σ0 H fun σ2 H2=>Keep σ0 σ2/\tt σ2 H2 fun b H3=>if b=true then te σ2 H3 fun y H4=>H4 D=some (.lst ys)/\Nx x.cps.toList.length i (Pv (i+1) (ys ++ [y]) (upd H4 D (.lst (ys ++ [y])))) else Nx x.cps.toList.length i (Pv (i+1) ys H3))
  (hd : ∀ ys H,Pv x.cps.toList.length ys H->QD H) :
  ∃ W:Nat->Nat->List V->Hp->Prop,(∃ m,W 0 m [] (upd H1 D (.lst []))) /\
   ∀ i m ys H,W i m ys H->H D=some (.lst ys)/\ys.length < Aw /\
    (((Its x).stop i H/\QD H)\/((Its x).go i H/\∀ v H',(Its x).yld i H v H'->g v σ0 H' fun σ2 H2=>Keep σ0 σ2/\tt σ2 H2 fun b H3 =>
     if b=true then te σ2 H3 fun y H4=>H4 D=some (.lst ys)/\∃ m',m' < m/\W (i+1) m' (ys ++ [y]) (upd H4 D (.lst (ys ++ [y]))) else ∃ m',m' < m/\W (i+1) m' ys H3)):=by
 refine ⟨fun i m ys H=>m=x.cps.toList.length - i/\i<=x.cps.toList.length/\Pv i ys H,⟨x.cps.toList.length,by simp,BM _,h0⟩,?_⟩
 rintro i m ys H ⟨rfl,hi,p⟩
 obtain ⟨hD,hz⟩:=hl i ys H hi p;refine ⟨hD,hz,?_⟩
 by_cases hlt:i < x.cps.toList.length
 ·have e:x.cps[i]?=some x.cps.toList[i]:=by rw [<- Bm]; exact Ae hlt
  refine .inr ⟨⟨_,e⟩,fun v H' y => ?_⟩;obtain ⟨rfl,c,hc,rfl⟩:=y;exact hs i c ys _ (by rw [Bm]; exact hc) p
 ·have e:i=x.cps.toList.length:=by omega
  subst e;refine .inl ⟨?_,hd ys H p⟩;show x.cps[x.cps.toList.length]?=none;rw [<- Bm];exact Bp (Ak _)
end L2
namespace L2
open PySem PySem.Spec PyProof.Rows
def dcE (a:Addr):HO:=.ext fun h=>∃ o,h.get? a=some o/\o.cls = .type "dict"
def tDict0:TE:=fun _ H Q=>∀ p,H p=none->Q (.ref p) (upd H p (dcE p))
section
variable {X:Cx}{pos:Pos}
def IsiD (K:Aa)(H:Hp)(v:V)(T:String)(b:Bool):Prop:=Isi K H v T b\/∃ a,v = .ref a/\H a=some (dcE a)/\T = "str" /\ b=false
theorem xU:eQ X (.builtin "isinstance") (fun xs H Q=>∃ x T b,xs=[x,.ty T]/\IsiD X.K H x T b/\Q (.bl b) H):=by
 intro pins s σ H xs us Q I r h;obtain ⟨x,T,b,rfl,hi | ⟨a,rfl,hH,rfl,rfl⟩,q⟩:=h
 ·exact dY pins s σ H _ us Q I r ⟨x,T,b,rfl,hi,q⟩
 ·obtain ⟨u,w',rfl,rx,ry⟩:=vals2 r
  cases ry;cases rx;obtain ⟨⟨o,e,c⟩,_⟩:=I.hok a _ hH;exact IsiPair.dict_str e c ⟨.bl false,H,I.tok _,rfl,q⟩
end
def rEqL (K:Aa):R2:=fun x y H Q=>∃ a b xs ys,∃ e:Nat->Bool,x = .ref a/\y = .ref b/\SqL K H a xs/\SqL K H b ys/\(∀ (j:Nat) x y,xs[j]?=some x->ys[j]?=some y->DEq K H 40 x y (e j)) /\
 Q (.bl ((Bc (min xs.length ys.length)).all e && xs.length == ys.length)) H
def rNeL (K:Aa):R2:=fun x y H Q=>∃ a b xs ys,∃ e:Nat->Bool,x = .ref a/\y = .ref b/\SqL K H a xs/\SqL K H b ys/\(∀ (j:Nat) x y,xs[j]?=some x->ys[j]?=some y->DEq K H 40 x y (e j)) /\
 Q (.bl (!((Bc (min xs.length ys.length)).all e && xs.length == ys.length))) H
section
variable {X:Cx}
theorem aDh {σ:St}(I:Inv X pins σ H s)(hx:SqL X.K H a xs)(hy:SqL X.K H b ys)(hu:A.units < cLine)(hd : ∀ (j:Nat) x y u v,xs[j]?=some x->ys[j]?=some y->RelV x u->RelV y v->Bj A.in1 s u v (e j)) :
  SeqAt.RcNeAt A s (.ref a) (.ref b) (!((Bc (min xs.length ys.length)).all e && xs.length == ys.length)):=by
 obtain ⟨its,r,tx,_⟩:=I.list hx;obtain ⟨its',r',ty,_⟩:=I.list hy;have l1:=r.length;have l2:=r'.length
 by_cases hl:xs.length=ys.length
 ·have q:=SeqAt.RcNeAt.lists (A:=A) (e:=e) (dW tx) (dW ty) (by rw [Aj,Aj]; omega) hu (fun j h1 h2 => ?_)
  ·rw [Aj,<- l1] at q
   have e1:((Bc (min xs.length ys.length)).all e && xs.length == ys.length)=(Bc xs.length).all e:=by
    rw [<- hl,Nat.min_self,beq_self_eq_true,Bool.and_true]
   rw [e1];exact q
  ·rw [Aj] at h1 h2
   obtain ⟨x,hxj⟩ : ∃ x,xs[j]?=some x:=⟨_,Ae (by omega)⟩;obtain ⟨y,hyj⟩ : ∃ y,ys[j]?=some y:=⟨_,Ae (by omega)⟩;obtain ⟨u1,hu1,ru1⟩:=r.get hxj;obtain ⟨u2,hu2,ru2⟩:=r'.get hyj;have e1:its.toArray[j]=u1:=by
    have:=(Ad.mp hu1).2
    simpa using this
   have e2:its'.toArray[j]=u2:=by
    have:=(Ad.mp hu2).2
    simpa using this
   rw [e1,e2];exact hd j x y u1 u2 hxj hyj ru1 ru2
 ·have q:=SeqAt.RcNeAt.lists_lengths (A:=A) (dW tx) (dW ty) (by rw [Aj,Aj,<- l1,<- l2,bne_iff_ne]; exact hl) hu
  have e1:((Bc (min xs.length ys.length)).all e && xs.length == ys.length)=false:=by
   rw [beq_eq_false_iff_ne.mpr hl,Bool.and_false]
  rw [e1];exact q
theorem aA6 (hu:X.A.units+64 < cLine):OpR X (BI .NotEq) (rNeL X.K):=by
 intro pins s σ H x y v u Q I rx ry h;obtain ⟨a,b,xs,ys,e,rfl,rfl,hx,hy,hd,q⟩:=h;cases rx; cases ry;exact aDh I hx hy (by omega) (fun j x y u v h1 h2 r1 r2=>(hd j x y h1 h2).at I (by show X.A.units+1+40 < cLine; omega) r1 r2) X.prog X.w X.xe _ ⟨.bl _,H,I,rfl,q⟩
end
def Sf (v:V):Prop:=eK v=true\/∃ a,v = .ref a
theorem aAm (h:eK v=true):eqV v v=true:=by
 cases v <;> simp_all [eK,eqV]
theorem DEq.self {K:Aa}{H:Hp}{n:Nat}{v:V}(h:Sf v):DEq K H n v v true:=by
 rcases h with h | ⟨a,rfl⟩
 ·have:=DEq.flat (K:=K) (H:=H) (n:=n) h h
  rwa [aAm h] at this
 ·exact .same
theorem all_true (n:Nat)(m:Nat)(h:n=m):((Bc (min n m)).all (fun _=>true) && n == m)=true:=by
 subst h;rw [beq_self_eq_true,Bool.and_true,CG];exact fun _ _=>rfl
def aGu (K:Aa):R2:=fun x y H Q=>∃ a b xs,x = .ref a/\y = .ref b/\SqL K H a xs/\SqL K H b xs/\(∀ v ∈ xs,Sf v)/\Q (.bl false) H
theorem aCx (hu:X.A.units+64 < cLine):OpR X (BI .NotEq) (aGu X.K):=by
 intro pins s σ H x y v u Q I rx ry h;obtain ⟨a,b,xs,rfl,rfl,hx,hy,hd,q⟩:=h;refine aA6 hu pins s σ H _ _ v u Q I rx ry ⟨a,b,xs,xs,fun _=>true,rfl,rfl,hx,hy,fun j x y h1 h2 => ?_,?_⟩
 ·rw [h1] at h2
  cases h2;exact DEq.self (hd _ (Ay h1))
 ·rw [all_true _ _ rfl]
  exact q
theorem eG:Cb "list" = some (.type "list"):=by decide +kernel
def Tk (H H':Hp):Prop:=∀ b ys,H b=some (.tup ys)->H' b=some (.tup ys)
theorem Same.tk (s:Same H H'):Tk H H':=fun b ys e=>s b _ e
theorem Tk.lst {l:Addr}(h:H l=some (.lst xs)):Tk H (upd H l o):=fun b ys e=>by
 have ne:b ≠ l:=fun z=>by rw [z,h] at e; cases e
 rw [aI ne];exact e
theorem bL {n:Nat}(h:n<=1000):n<=Aw:=AX h (by decide)
def pV:Expr->Bool
 | .Starred .. => false
 | _=>true
theorem tZ (h:pV e=true):AS (e :: es) env=(false,eval e env) :: AS es env:=by
 cases e <;> first | rfl | cases h
theorem pa_c (h:PE X e te)(hr:PA X es t)(hf:pV e=true:=by rfl):PA X (e :: es) (aEe te t):=aA h hr (tZ hf)
inductive Dt where
 | i (n:Int)
 | s (x:Str)
 | b (k:Bool)
 | n
 | t (l:List Dt)
def SqZ (K:Aa)(H:Hp)(a:Addr)(xs:List V):Prop:=H a=some (.tup xs)\/∃ (o:Obj) (its:Array Value) (n:Nat),K.lookup a=some o/\o.cls = .type "tuple" /\ o.data = .seq its n/\its.size<=Aw/\Vals xs its.toList
theorem SqZ.of {K:Aa}{H:Hp}{a:Addr}{xs:List V}(h:H a=some (.tup xs)):SqZ K H a xs:=.inl h
theorem SqZ.sq {K:Aa}{H:Hp}{a:Addr}{xs:List V}(h:SqZ K H a xs):SqT K H a xs:=by
 rcases h with h | h
 ·exact .inl (.inl h)
 ·exact .inr h
inductive Dv (K:Aa)(H:Hp):Nat->V->Dt->Prop where
 | i {n m}:Dv K H n (.int m) (.i m)
 | s {n x}:Dv K H n (.str x) (.s x)
 | b {n k}:Dv K H n (.bl k) (.b k)
 | n {n}:Dv K H n .non .n
 | t {n a xs ds}:SqZ K H a xs->xs.length=ds.length->(∀ (j:Nat) x d,xs[j]?=some x->ds[j]?=some d->Dv K H n x d)->Dv K H (n+1) (.ref a) (.t ds)
theorem Dv.up {K:Aa}{H:Hp}{n:Nat}{v:V}{d:Dt}(h:Dv K H n v d):Dv K H (n+1) v d:=by
 induction h with
 | i=>exact .i
 | s=>exact .s
 | b=>exact .b
 | n=>exact .n
 | t h1 h2 _ ih=>exact .t h1 h2 ih
theorem Dv.mono {K:Aa}{H:Hp}{n m:Nat}{v:V}{d:Dt}(h:Dv K H n v d)(hm:n<=m):Dv K H m v d:=by
 induction hm with
 | refl=>exact h
 | step _ ih=>exact ih.up
theorem Dv.eq {K:Aa}{H:Hp}{n:Nat}{x:V}{d:Dt}(h:Dv K H n x d) : ∀ {m:Nat} {y:V},Dv K H m y d->DEq K H n x y true:=by
 induction h with
 | i=>intro m y k; cases k; exact DEq.self (.inl rfl)
 | s=>intro m y k; cases k; exact DEq.self (.inl rfl)
 | b=>intro m y k; cases k; exact DEq.self (.inl rfl)
 | n=>intro m y k; cases k; exact DEq.self (.inl rfl)
 | @t n a xs ds h1 h2 h3 ih =>
  intro m y k;cases k with
  | @t m b ys _ k1 k2 k3 =>
   by_cases e:a=b
   ·subst e
    exact .same
   ·have q:=DEq.tup (n:=n) (e:=fun _=>true) e h1.sq k1.sq fun j x y hx hy => ?_
    ·rwa [all_true _ _ (h2.trans k2.symm)] at q
    ·obtain ⟨d,hd⟩ : ∃ d,ds[j]?=some d:=⟨_,Ae (by have:=(Ad.mp hx).1; omega)⟩
     exact ih j x d hx hd (k3 j y d hy hd)
def DL (K:Aa)(H:Hp)(n:Nat)(xs:List V)(ds:List Dt):Prop:=xs.length=ds.length/\∀ (j:Nat) x d,xs[j]?=some x->ds[j]?=some d->Dv K H n x d
theorem DL.nil {K:Aa}{H:Hp}{n:Nat}:DL K H n [] []:=⟨rfl,fun j x d h=>by simp at h⟩
theorem DL.cons {K:Aa}{H:Hp}{n:Nat}{x:V}{d:Dt}{xs:List V}{ds:List Dt}(h:Dv K H n x d)(k:DL K H n xs ds):DL K H n (x :: xs) (d :: ds):=by
 refine ⟨by rw [AG,AG,k.1],fun j y e hy he => ?_⟩;cases j with
 | zero =>
  simp at hy he;subst hy he;exact h
 | succ j=>exact k.2 j y e (by simpa using hy) (by simpa using he)
theorem Dv.tup {K:Aa}{H:Hp}{n:Nat}{a:Addr}{xs:List V}{ds:List Dt}(h:SqZ K H a xs)(k:DL K H n xs ds):Dv K H (n+1) (.ref a) (.t ds):=.t h k.1 k.2
theorem Dv.two {K:Aa}{H:Hp}{n:Nat}{a:Addr}{x y:V}{d e:Dt}(h:SqZ K H a [x,y])(h1:Dv K H n x d)(h2:Dv K H n y e):Dv K H (n+1) (.ref a) (.t [d,e]):=.tup h (.cons h1 (.cons h2 .nil))
def rEqDL (K:Aa):R2:=fun x y H Q=>∃ a b xs ys ds,x = .ref a/\y = .ref b/\SqL K H a xs/\SqL K H b ys/\DL K H 40 xs ds/\DL K H 40 ys ds/\Q (.bl true) H
def aGv (K:Aa):R2:=fun x y H Q=>∃ a b xs ys ds,x = .ref a/\y = .ref b/\SqL K H a xs/\SqL K H b ys/\DL K H 40 xs ds/\DL K H 40 ys ds/\Q (.bl false) H
def aGw (K:Aa):R2:=fun x y H Q=>∃ a b xs ys ds,x = .ref a/\y = .ref b/\SqT K H a xs/\SqT K H b ys/\DL K H 40 xs ds/\DL K H 40 ys ds/\Q (.bl true) H
def rNeDT (K:Aa):R2:=fun x y H Q=>∃ a b xs ys ds,x = .ref a/\y = .ref b/\SqT K H a xs/\SqT K H b ys/\DL K H 40 xs ds/\DL K H 40 ys ds/\Q (.bl false) H
theorem DL.deq {K:Aa}{H:Hp}{n m:Nat}{xs ys:List V}{ds:List Dt}(h:DL K H n xs ds)(k:DL K H m ys ds) : ∀ (j:Nat) x y,xs[j]?=some x->ys[j]?=some y->DEq K H n x y true:=fun j x y hx hy=>by
 obtain ⟨d,hd⟩ : ∃ d,ds[j]?=some d:=⟨_,Ae (by have:=(Ad.mp hx).1; have:=h.1; omega)⟩;exact (h.2 j x d hx hd).eq (k.2 j y d hy hd)
section
variable {X:Cx}
theorem vK (hu:X.A.units+64 < cLine):OpR X (BI .NotEq) (aGv X.K):=by
 intro pins s σ H x y v u Q I rx ry h;obtain ⟨a,b,xs,ys,ds,rfl,rfl,hx,hy,k1,k2,q⟩:=h;refine aA6 hu pins s σ H _ _ v u Q I rx ry ⟨a,b,xs,ys,fun _=>true,rfl,rfl,hx,hy,k1.deq k2,?_⟩;rw [all_true _ _ (k1.1.trans k2.1.symm)];exact q
theorem aC0 (hu:X.A.units+64 < cLine):OpR X (BI .Eq) (aGw X.K):=by
 intro pins s σ H x y v u Q I rx ry h;obtain ⟨a,b,xs,ys,ds,rfl,rfl,hx,hy,k1,k2,q⟩:=h;refine aA9 hu pins s σ H _ _ v u Q I rx ry ⟨a,b,xs,ys,fun _=>true,rfl,rfl,hx,hy,k1.deq k2,?_⟩;rw [all_true _ _ (k1.1.trans k2.1.symm)];exact q
end
theorem gM  : ∀ (names:List (Str × Be)) (acc:List (Str × Addr)),(∀ y ∈ names,y.2=AV->∃ c,env.cells.lookup y.1=some c)->(∀ x c,acc.lookup x=some c->env.cells.lookup x=some c) ->
  ∃ cl,(forIn (m:=Sem) names acc (fun x r=>do if (x.2 == AV)=true then do let c <- cellOf env x.1; pure (CZ ((x.1,c) :: r)) else pure (CZ r)))=pure cl /\
   (∀ x c,cl.lookup x=some c->env.cells.lookup x=some c)/\(∀ y ∈ names,y.2=AV->∃ c,cl.lookup y.1=some c)/\∀ x,(∃ c,acc.lookup x=some c)->∃ c,cl.lookup x=some c
 | [],acc,_,h2=>⟨acc,rfl,h2,(fun y hy=>by simp at hy),fun _ h=>h⟩
 | y :: r,acc,h1,h2=>by
  by_cases e:y.2=AV
  ·obtain ⟨c,hc⟩:=h1 y Au e
   obtain ⟨cl,e1,e2,e3,e4⟩:=gM r ((y.1,c) :: acc) (fun z hz=>h1 z (Al _ hz)) (fun x d hx=>by
    rw [CV] at hx;split at hx
    ·rename_i hb
     have:x=y.1:=Ek hb;rw [this,hc];exact hx
    ·exact h2 x d hx)
   refine ⟨cl,?_,e2,fun z hz ez => ?_,fun x hx=>e4 x ?_⟩
   ·rw [List.forIn_cons,if_pos (by rw [e]; rfl)]
    unfold cellOf;rw [hc];simp only [pure_bind];exact e1
   ·rcases AD.mp hz with rfl | hz
    ·exact e4 z.1 ⟨c,by rw [CV,beq_self_eq_true]⟩
    ·exact e3 z hz ez
   ·obtain ⟨d,hd⟩:=hx
    rw [CV];split
    ·exact ⟨c,rfl⟩
    ·exact ⟨d,hd⟩
  ·obtain ⟨cl,e1,e2,e3,e4⟩:=gM r acc (fun z hz=>h1 z (Al _ hz)) h2
   refine ⟨cl,?_,e2,fun z hz ez => ?_,e4⟩
   ·rw [List.forIn_cons,if_neg (by intro z; exact e (Ek z))]
    simp only [pure_bind];exact e1
   ·rcases AD.mp hz with rfl | hz
    ·exact absurd ez e
    ·exact e3 z hz ez
theorem tG (h : ∀ y ∈ scope.names,y.2=AV->∃ c,env.cells.lookup y.1=some c) :
  ∃ cl,closureFor scope env=pure cl/\(∀ x c,cl.lookup x=some c->env.cells.lookup x=some c)/\∀ y ∈ scope.names,y.2=AV->∃ c,cl.lookup y.1=some c:=by
 obtain ⟨cl,e1,e2,e3,_⟩:=gM (env:=env) scope.names [] h (fun x c e=>by simp at e);refine ⟨cl,?_,e2,e3⟩;simp only [closureFor];rw [show (forIn (m:=Sem) scope.names [] fun x r=>if (x.2 == AV)=true then (do let c <- cellOf env x.1; pure (CZ ((x.1,c) :: r))) else pure (CZ r))=pure cl from e1];rfl
theorem lZ (hc : ∀ y ∈ scope.names,y.2 ≠ CF)(h:(relabel scope env).names.lookup x=some .cell\/(relabel scope env).names.lookup x=some .free) : ∃ y ∈ scope.names,y.1=x/\y.2=AV:=by
 have e' : ∃ k,(k=CF\/k=AV)/\(relabel scope env).names.lookup x=some k:=by
  rcases h with e | e
  ·exact ⟨_,.inl rfl,e⟩
  ·exact ⟨_,.inr rfl,e⟩
 obtain ⟨k,hk,e⟩:=e';have hm:=CO e;obtain ⟨y,hy,hy2⟩:=AJ.mp hm;obtain ⟨n,kk⟩:=y;have hn:=hc _ hy;simp only at hy2 hn;split at hy2
 ·rename_i hf
  injection hy2 with a1 a2;subst a1;simp only [Cc] at hf;exact ⟨(n,kk),hy,rfl,Ek hf.1.1⟩
 ·injection hy2 with a1 a2
  subst a1 a2
  rcases hk with rfl | rfl
  ·exact absurd rfl hn
  ·exact ⟨_,hy,rfl,rfl⟩
theorem xR (ok:X.Ok)(hc : ∀ y ∈ scope.names,y.2 ≠ CF)(h : ∀ y ∈ scope.names,y.2=AV->X.env.kindOf y.1=some .cell\/X.env.kindOf y.1=some .free) : ∃ cl,ClOk X scope cl:=by
 obtain ⟨cl,e1,e2,e3⟩:=tG (scope:=scope) (env:=X.env) fun y hy ey=>ok.has y.1 (h y hy ey);refine ⟨cl,e1,e2,fun x hx => ?_⟩;obtain ⟨y,hy,rfl,ey⟩:=lZ hc hx;exact e3 y hy ey
theorem hZ (σf:St->St)(hc:X.calm=true)(hkind:scope.kind = .function)(hcell : ∀ y ∈ scope.names,y.2 ≠ .cell)(hnames : ∀ y ∈ scope.names,y.2 = .local->scope.names.lookup y.1=some .local)(hk : ∀ y ∈ scope.names,y.2=AV->X.env.kindOf y.1=some .cell\/X.env.kindOf y.1=some .free)(hN : ∀ cl (σ:St),σ.length=X.N.length->BlkN X N' scope cl σ (σf σ))(hi:PI X tg iter wi)(hg : ∀ cl C s₀ H₀ ex pn,PG (blk X N' scope cl C s₀ H₀ ex pn) tg g)(ht : ∀ cl C s₀ H₀ ex pn,PIfs (blk X N' scope cl C s₀ H₀ ex pn) ifs tt)(he : ∀ cl C s₀ H₀ ex pn,PE (blk X N' scope cl C s₀ H₀ ex pn) elt te)(hs : ∀ x,EO iter X.env x=pure x:=by intro _; rfl):PE X (.ListComp elt [⟨tg,iter,ifs,0⟩] scope pos) (yN σf wi g tt te):=by
 intro pins s σ H Q I h;obtain ⟨cl,hcl⟩:=xR I.ok hcell hk;exact vG σf hc hkind hcell hnames hcl (hN cl) hi (hg cl) (ht cl) (he cl) hs pins s σ H Q I h
theorem sX {X:Cx}{scope sc:Scope}(hs:X.env.scope=sc)(h:(scope.names.all fun y=>y.2 != AV || sc.names.lookup y.1 == some CF || sc.names.lookup y.1 == some AV)=true) :
  ∀ y ∈ scope.names,y.2=AV->X.env.kindOf y.1=some .cell\/X.env.kindOf y.1=some .free:=fun y hy ey=>by
 have q:=CG.mp h y hy;unfold Env.kindOf;rw [hs];rw [ey] at q;simp only [bne_self_eq_false,Bool.false_or,Bool.or_eq_true] at q
 rcases q with q | q
 ·exact .inl (Ek q)
 ·exact .inr (Ek q)
theorem eB {env:Env}{x:Str}(hk:env.scope.kind = .function)(hx:env.kindOf x=some .cell) : ∀ {names:List (Str × Be)},names.lookup x=some .free ->
    (names.map fun (n,k)=>if (k == AV && env.scope.kind == .function && env.kindOf n == some .cell) then (n,CF) else (n,k)).lookup x=some .cell
  | [],h=>by simp at h
  | (n,k) :: r,h=>by
    rw [Ai];rw [CV] at h
    by_cases e:(x == n)=true
    · rw [e] at h;have e':x=n:=Ek e;subst e';have hf:k=AV:=AH h;subst hf;have c:(AV == AV && env.scope.kind == .function && env.kindOf x == some .cell)=true:=by rw [hk,hx]; rfl
      rw [show (match ((x,AV):Str × Be) with | (n,k)=>if (k == AV && env.scope.kind == .function && env.kindOf n == some .cell)=true then (n,CF) else (n,k))=(x,CF) from if_pos c];rw [CV,beq_self_eq_true]
    · have e0:(x == n)=false:=by simpa using e
      rw [e0] at h;have ih:=eB hk hx h;have en : ∀ q:Str × Be,q.1=n->(q :: (r.map fun (n,k)=>if (k == AV && env.scope.kind == .function && env.kindOf n == some .cell) then (n,CF) else (n,k))).lookup x=some .cell:=fun q hq=>by
        obtain ⟨q1,q2⟩:=q;simp only at hq;subst hq;rw [CV,e0];exact ih
      refine en _ ?_;show (if _ then (n,CF) else (n,k)).1=n;split <;> rfl
theorem gN {X:Cx}{N' N:List Str}{scope sc:Scope}{cl:List (Str × Addr)}{σ:St}(ts:List (Option Nat))(hN:X.N=N)(hsc:X.env.scope=sc)(hl:ts.length=N'.length)(hk:sc.kind = .function)
  (h:((ts.zip N').all fun p=>match p.1 with | none=>true | some j=>N[j]? == some p.2 && sc.names.lookup p.2 == some CF && scope.names.lookup p.2 == some AV)=true) :
  BlkN X N' scope cl σ (ts.map fun t=>t.bind fun j=>(σ[j]?).join):=by
 refine ⟨by rw [Ag,hl],fun i x v h1 h2 => ?_⟩;rw [As] at h2;cases ht:ts[i]? with
 | none=>rw [ht] at h2; cases h2
 | some t =>
  rw [ht] at h2;have h2':(t.bind fun j=>(σ[j]?).join)=some v:=AH h2;cases t with
  | none=>cases h2'
  | some j =>
   have hm:(some j,x) ∈ ts.zip N':=Ay (by rw [Fm]; exact ⟨ht,h1⟩:(ts.zip N')[i]?=some (some j,x));have q:=CG.mp h _ hm;simp only [Cc] at q;obtain ⟨⟨q1,q2⟩,q3⟩:=q;have q1':=Ek q1;have q2':=Ek q2;have q3':=Ek q3;have kd:X.env.kindOf x=some .cell:=by
    unfold Env.kindOf;rw [hsc];exact q2'
   refine ⟨j,by rw [hN]; exact q1',?_,by rw [hsc]; exact .inr (.inl q2'),(by rw [kd]; decide),.inl (eB (by rw [hsc]; exact hk) kd q3')⟩;have h3:(σ[j]?).join=some v:=h2';cases hj:σ[j]? with
   | none=>rw [hj] at h3; cases h3
   | some o=>rw [hj] at h3; cases o with
    | none=>cases h3
    | some u=>cases h3; rfl
theorem uS {iy:Nat}(σf:St->St)(hc:X.calm=true)(hkind:scope.kind = .function)(hcell : ∀ y ∈ scope.names,y.2 ≠ .cell)(hnames : ∀ y ∈ scope.names,y.2 = .local->scope.names.lookup y.1=some .local)(hcl:ClOk X scope cl)(hN : ∀ σ:St,σ.length=X.N.length->BlkN X N' scope cl σ (σf σ))(hi:PI X tg iter wi)(hg : ∀ C s₀ H₀ ex pn,PG (blk X N' scope cl C s₀ H₀ ex pn) tg g)(ht : ∀ C s₀ H₀ ex pn,PIfs (blk X N' scope cl C s₀ H₀ ex pn) ifs tt)(he : ∀ C s₀ H₀ ex pn,PE (blk X N' scope cl C s₀ H₀ ex pn) elt te)(hnd:X.N.Nodup)(hiy:X.N[iy]?=some y)(hy:Loc X.env.scope y)(hfy:X.fn y=true\/X.env.scope.names.lookup y=some .local)(hsw:swapsWith (.ListComp elt [⟨tg,iter,ifs,0⟩] scope pos) (some (.Name y py)) spos.line X.env=pure true)(hs : ∀ x,EO iter X.env x=pure x:=by intro _; rfl):PS X (.Assign [.Name y py] (.ListComp elt [⟨tg,iter,ifs,0⟩] scope pos) spos) (tAsg (yN σf wi g tt te) (gName iy)):=by
 intro pins s σ H Dn I h;rw [exec_Assign_Name_used _ _ _ _ hsw];refine Ab (Fg (Ab ?_));show wpAny _ X.A (do let _ <- comprehension (.ListComp elt [⟨tg,iter,ifs,0⟩] scope pos) scope X.env _ (newList []) false (eval iter X.env) (some (assign (.Name y py) X.env))) _ _ s;refine Ab (BV (wpAny_comprehension_free (use:=some (assign (.Name y py) X.env)) (Q:=fun _ s'=>SP X pins Dn .next s') rfl hs hcl.run hkind hnames
  (thn (hi pins s σ H _ I h) fun v s1 h1=>thn h1 fun itv s2 h2 => ?_)) (fun _ s' hq=>Af (Af hq)) fun _ _ e=>e)
 obtain ⟨it,fp,tn,J,H2,rfl,I2,T,st2,f2,q⟩:=h2;refine AY (wpAny_newFunctionEnv hcell (by intro y hy; simp at hy) (fun h₁ hns₁ hsb₁ => ?_) hkind);dsimp only at hns₁ hsb₁ ⊢;have hfo : ∀ b ∈ fp,b < s2.heap.objs.size:=fun b hb=>by
  obtain ⟨o,e,_⟩:=T.obj _ _ st2 b hb;exact Aq e
 have hDf:H2 s2.heap.objs.size=none:=I2.hok.fresh (Ak _);obtain ⟨W,⟨m0,w0⟩,turn⟩:=q s2.heap.objs.size hDf;have I3:Inv X pins σ (upd H2 s2.heap.objs.size (.lst [])) { s2 with heap:=s2.heap.push { cls:=.type "list",data:=.seq ([]:List Value).toArray } }:=I2.lnew (its:=[]) (t':=s2.toks) .nil (BM _);have f3 : ∀ b ∈ fp,FpOk X pins (upd H2 s2.heap.objs.size (.lst [])) b:=fun b hb=>⟨by rw [aI (Av (hfo b hb))]; exact (f2 b hb).1,(f2 b hb).2⟩;generalize hD:s2.heap.objs.size=D at *
 generalize hs3:({ s2 with heap:=s2.heap.push { cls:=.type "list",data:=.seq ([]:List Value).toArray } }:Shared)=s3 at *
 have hh3:s3.heap=s2.heap.push { cls:=.type "list",data:=.seq ([]:List Value).toArray }:=by rw [<- hs3]
 have hsz3:s2.heap.objs.size < s3.heap.objs.size:=by rw [hh3,BE]; exact Co _
 have e3 : ∀ h t,({ s2 with heap:=h,toks:=t }:Shared)={ s3 with heap:=h,toks:=t }:=fun h t=>by rw [<- hs3]
 rw [<- hh3] at hns₁ hsb₁ ⊢;have hk3 : ∀ b o,s3.heap.get? b=some o->h₁.get? b=some o:=fun b o e=>hsb₁.extBut b o (Av (Aq e)) (Ac _ e);have I4:=nM (t':=s3.toks) I3 hkind hcl (hN σ I.len) f3 (fun b hb=>CC (hfo b hb) (hD ▸ hsz3)) (hns:=by simpa using hns₁) hk3;generalize hB:blk X N' scope cl s3.heap.objs.size s3 (upd H2 D (.lst [])) fp (X.pn ++ pins)=B at *
 have hBp:B.prog=X.prog:=by rw [<- hB]; rfl
 have hBw:B.w=X.w:=by rw [<- hB]; rfl
 have hBK:B.K=X.K:=by rw [<- hB]; rfl
 have hBA:B.A=X.A:=by rw [<- hB]; rfl
 have hBc:B.calm=true:=by rw [<- hB]; exact hc
 have hBe:B.env=compEnvC scope cl s3.heap.objs.size X.env:=by rw [<- hB]; rfl
 have hBx:B.xe=fun _ _=>False:=by rw [<- hB]; rfl
 have hGB:PG B tg g:=hB ▸ hg _ _ _ _ _;have hTB:PIfs B ifs tt:=hB ▸ ht _ _ _ _ _;have hEB:PE B elt te:=hB ▸ he _ _ _ _ _;have stat : ∀ {H':Hp},(∀ b ∈ fp,H' b=none)->∀ b ∈ fp,FpOk B [] H' b:=fun {H'} hn b hb=>by
  obtain ⟨f0,f1,f2',f3',f4,f5⟩:=f3 b hb;rw [<- hB];refine ⟨hn b hb,Av (CC (hfo b hb) (hD ▸ hsz3)),fun z => ?_,.inl hb,fun x c e=>f4 x c (hcl.sub x c e),fun p hp => ?_⟩
  ·rcases AD.mp (I.stkSub b z) with z | z
   ·exact f1 z
   ·exact f2' z
  ·rw [show (blk X N' scope cl s3.heap.objs.size s3 (upd H2 D (.lst [])) fp (X.pn ++ pins)).pn=X.pn ++ pins from rfl,BZ] at hp
   exact f5 p hp
 have loop : ∀ s4:Shared,Inv B [] (σf σ) (upd H2 D (.lst [])) s4->tn 0 s4.heap ->
   DJ (model X.prog X.w) X.A (.compLoop (.ListComp elt [⟨tg,iter,ifs,0⟩] scope pos) 0 (.ref it) (.ref D) (compEnvC scope cl s3.heap.objs.size X.env)) (compPost (model X.prog X.w) X.A X.xe (some (assign (.Name y py) X.env)) (fun _ s'=>SP X pins Dn .next s') (.ref D) s3.heap.objs.size) s4:=by
  intro s4 I4 st4;refine gX (I:=fun n s'=>∃ i ys H',Inv B [] (σf σ) H' s'/\tn i s'.heap/\(∀ b ∈ fp,H' b=none)/\W i n ys H') ?_ m0 ⟨0,[],_,I4,st4,fun b hb=>(f3 b hb).1,w0⟩
  rintro n s5 ⟨i,ys,H5,I5,st5,fr5,w5⟩
  obtain ⟨hD5,hlen5,alt⟩:=turn i n ys H5 w5
  rcases alt with ⟨stop,qn⟩ | ⟨go,step⟩
  ·have z:=T.done B hBp hBw hBK hBc i [] s5 (σf σ) H5 (fun _ _=>False) I5 (stat fr5) st5 stop
   rw [hBA] at z;refine thn z fun r s6 ⟨hr,I6⟩ => ?_;subst hr;obtain ⟨m6,hn6,_⟩:=I6.loc;rw [hBe] at hn6;subst hB;have I6x:Inv X pins σ H5 s6:=xZ I3 f3 I6 (h'':=s6.heap) ⟨rfl,fun _ _=>rfl⟩;have fC:FpOk X pins H5 s3.heap.objs.size:=I3.fpOk (Ak _) I6.free;obtain ⟨g0,g1,g2,g3,g4,g5⟩:=id fC;obtain ⟨oC,es,ep,hoC,hdC,rest⟩:=hn6;have I6p:=I6x.pinned (fp:=[s3.heap.objs.size]) (fun b hb=>by rw [AE.mp hb]; exact fC) (fun b hb=>⟨oC,by rw [AE.mp hb]; exact hoC,fun v e=>by rw [hdC] at e; cases e⟩);show wpAny (model X.prog X.w) X.A (assign (.Name y py) X.env (.ref D)) _ X.xe s6;refine thn (aV (i:=iy) (pos:=py) hnd hiy hy hfy _ s6 σ H5 (.ref D) (.ref D) (fun σ' H'=>Dn.nx σ' H') I6p rfl qn) fun _ s7 ⟨σ7,H7,I7,q7⟩ => ?_;have pc:=I7.pin (s3.heap.objs.size,oC) (AK _ (AK _ (dQ (by simp) hoC)));refine ⟨m6,⟨oC,es,ep,pc.1,hdC,rest⟩,fun h' hs'=>⟨σ7,H7,?_,q7⟩⟩;exact I7.unpinned.turned (t':=s7.toks) (fun b o hb e=>hs'.extBut b o hb e) pc.2.1 g1 g3 g4 g5
  ·have z:=T.item B hBp hBw hBK hBc i [] s5 (σf σ) H5 (fun _ _=>False) I5 (stat fr5) st5 go
   rw [hBA] at z;refine thn z fun r s6 ⟨u,hr,h6⟩ => ?_;subst hr;refine thn h6 fun _ s7 ⟨x,H7,I7,r7,y7,st7,fr7⟩ => ?_;have I7':=I7.pinned (stat fr7) (T.obj _ _ st7);have z8:=hGB _ s7 (σf σ) H7 x u _ I7' r7 (step x H7 y7);rw [hBp,hBw,hBA,hBe,hBx] at z8;refine thn z8 fun _ s8 ⟨σ8,H8,I8,k8,q8⟩ => ?_;have z9:=hTB _ s8 σ8 H8 _ I8 q8;rw [hBp,hBw,hBA,hBe,hBx] at z9;refine thn z9 fun ok s9 ⟨H9,I9,q9⟩ => ?_;have again : ∀ {ys':List V} {H':Hp} {s':Shared},Inv B ([] ++ jM fp s7.heap) σ8 H' s'->(∃ m',m' < n/\W (i+1) m' ys' H')->∃ m,m < n/\∃ i ys H',Inv B [] (σf σ) H' s'/\tn i s'.heap/\(∀ b ∈ fp,H' b=none)/\W i m ys H':=fun {ys' H' s'} J ⟨m',hm,w'⟩=>by
    refine ⟨m',hm,i+1,ys',H',J.unpinned.weak k8.len.symm k8.at',T.keep _ _ _ st7 fun b hb o e=>(J.pin (b,o) (AK _ (AK _ (dQ hb e)))).1,fun b hb => ?_,w'⟩;obtain ⟨o,e,d⟩:=T.obj _ _ st7 b hb;exact (J.pin (b,o) (AK _ (AK _ (dQ hb e)))).2.1
   cases ok with
   | false=>exact again I9 q9
   | true =>
    have z10:=hEB _ s9 σ8 H9 _ I9 q9;rw [hBp,hBw,hBA,hBe,hBx] at z10;refine thn z10 fun y10 s10 ⟨y,H10,I10,r10,hD10,q10⟩ => ?_;have z11:=bW (X:=B) _ s10 σ8 H10 (.ref D) [y] (.ref D) [y10] (fun _ H'=>∃ m',m' < n/\W (i+1) m' (ys ++ [y]) H') I10 rfl (.cons r10 .nil) ⟨D,ys,y,rfl,rfl,hD10,hlen5,q10⟩;rw [hBp,hBw,hBA,hBx] at z11;refine thn z11 fun _ s11 ⟨_,H11,I11,_,q11⟩=>again I11 q11
 have st4:tn 0 ({ s3 with heap:=h₁,toks:=s3.toks }:Shared).heap:=T.keep _ _ _ st2 fun b hb o e=>hk3 b o (by rw [hh3]; exact Ac _ e);have L4:=loop _ I4 st4;subst hs3;exact codeAny_compStart_list L4 (T.self _ 0 _ _ _ st4 L4)
theorem qG {iy:Nat}(σf:St->St)(hc:X.calm=true)(hkind:scope.kind = .function)(hcell : ∀ y ∈ scope.names,y.2 ≠ .cell)(hnames : ∀ y ∈ scope.names,y.2 = .local->scope.names.lookup y.1=some .local)(hk : ∀ y ∈ scope.names,y.2=AV->X.env.kindOf y.1=some .cell\/X.env.kindOf y.1=some .free)(hN : ∀ cl (σ:St),σ.length=X.N.length->BlkN X N' scope cl σ (σf σ))(hi:PI X tg iter wi)(hg : ∀ cl C s₀ H₀ ex pn,PG (blk X N' scope cl C s₀ H₀ ex pn) tg g)(ht : ∀ cl C s₀ H₀ ex pn,PIfs (blk X N' scope cl C s₀ H₀ ex pn) ifs tt)(he : ∀ cl C s₀ H₀ ex pn,PE (blk X N' scope cl C s₀ H₀ ex pn) elt te)(hnd:X.N.Nodup)(hiy:X.N[iy]?=some y)(hy:Loc X.env.scope y)(hfy:X.fn y=true\/X.env.scope.names.lookup y=some .local)(hsw:swapsWith (.ListComp elt [⟨tg,iter,ifs,0⟩] scope pos) (some (.Name y py)) spos.line X.env=pure true)(hs : ∀ x,EO iter X.env x=pure x:=by intro _; rfl):PS X (.Assign [.Name y py] (.ListComp elt [⟨tg,iter,ifs,0⟩] scope pos) spos) (tAsg (yN σf wi g tt te) (gName iy)):=by
 intro pins s σ H D I h;obtain ⟨cl,hcl⟩:=xR I.ok hcell hk;exact uS σf hc hkind hcell hnames hcl (hN cl) hi (hg cl) (ht cl) (he cl) hnd hiy hy hfy hsw hs pins s σ H D I h
structure Ys (J:It)(xs:List V)(H1:Hp):Prop where
 go : ∀ i H,Same H1 H->i < xs.length->J.go i H
 yld : ∀ i H x H',Same H1 H->i < xs.length->J.yld i H x H'->H'=H/\xs[i]?=some x
 stop : ∀ i H,Same H1 H->xs.length<=i->J.stop i H
theorem Ys.list {K:Aa}{a:Addr}{xs:List V}{H1:Hp}(h:SqL K H1 a xs):Ys (Itl K a) xs H1 where
 go:=fun i H s hi=>⟨xs,xs[i],s.seq h,Ae hi⟩
 yld:=fun i H x H' s _ y=>⟨y.1,y.2 xs (s.seq h)⟩
 stop:=fun i H s hi=>⟨xs,s.seq h,hi⟩
theorem Ys.tup {K:Aa}{a:Addr}{xs:List V}{H1:Hp}(h:SqT K H1 a xs):Ys (Itt K a) xs H1 where
 go:=fun i H s hi=>⟨xs,xs[i],s.tup h,Ae hi⟩
 yld:=fun i H x H' s _ y=>⟨y.1,y.2 xs (s.tup h)⟩
 stop:=fun i H s hi=>⟨xs,s.tup h,hi⟩
def rngV (lo:Int)(n:Nat):List V:=(Bc n).map fun (i:Nat)=>V.int (lo+(i:Int))
theorem fP (lo:Int)(n:Nat):(rngV lo n).length=n:=by unfold rngV; rw [Ag,List.length_range]
theorem yZ {lo:Int}{n i:Nat}(h:(rngV lo n)[i]?=some x):i < n/\x = .int (lo+i):=by
 have hi:i < n:=by rw [<- fP lo n]; exact (Ad.mp h).1
 unfold rngV at h;rw [As,List.getElem?_range hi] at h;exact ⟨hi,(AH h).symm⟩
theorem Ys.rng {lo:Int}{n:Nat}:Ys (Itr lo n) (rngV lo n) H1 where
 go:=fun i H _ hi=>by rw [fP] at hi; exact hi
 yld:=fun i H x H' _ hi y=>⟨y.1,by
  obtain ⟨_,rfl⟩:=y;rw [fP] at hi;unfold rngV;rw [As,List.getElem?_range hi];rfl⟩
 stop:=fun i H _ hi=>by rw [fP] at hi; exact hi
theorem hV {α:Type}{ys:List α}{y z:α}{j:Nat}(h:(ys ++ [y])[j]?=some z):(j < ys.length/\ys[j]?=some z)\/(j=ys.length/\z=y):=by
 by_cases hj:j < ys.length
 ·rw [De hj] at h
  exact .inl ⟨hj,h⟩
 ·rw [Cu (by omega)] at h
  have e0:j - ys.length=0:=by
   cases hz:j - ys.length with
   | zero=>rfl
   | succ n=>rw [hz] at h; simp at h
  rw [e0] at h;exact .inr ⟨by omega,by simpa using h.symm⟩
theorem gA {J:It}{xs:List V}{D:Addr}{g:TG}{te:TE}{σ0:St}{QD:Hp->Prop}{H1:Hp}(Y:Ys J xs H1)(Pr:Nat->V->V->Hp->Prop)(hP : ∀ i x y H H',Pr i x y H->Tk H H'->Pr i x y H')(hD:H1 D=none)(hl:xs.length<=1000)
  (hs : ∀ i x H' (R:VK),xs[i]?=some x->Same H1 H'->(∀ y H4,Same H' H4->Pr i x y H4->R y H4)->g x σ0 H' fun σ2 H2=>Keep σ0 σ2/\te σ2 H2 R)
  (hd : ∀ ys H',Same H1 H'->H' D=some (.lst ys)->ys.length=xs.length->(∀ i x y,xs[i]?=some x->ys[i]?=some y->Pr i x y H')->QD H') :
  ∃ W:Nat->Nat->List V->Hp->Prop,(∃ m,W 0 m [] (upd H1 D (.lst [])))/\∀ i m ys H,W i m ys H->H D=some (.lst ys)/\ys.length < Aw /\
   ((J.stop i H/\QD H)\/(J.go i H/\∀ x H',J.yld i H x H'->g x σ0 H' fun σ2 H2=>Keep σ0 σ2/\yM σ2 H2 fun b H3 =>
    if b=true then te σ2 H3 fun y H4=>H4 D=some (.lst ys)/\∃ m',m' < m/\W (i+1) m' (ys ++ [y]) (upd H4 D (.lst (ys ++ [y]))) else ∃ m',m' < m/\W (i+1) m' ys H3)):=by
 refine ⟨fun i m ys H=>m=xs.length - i/\i<=xs.length/\Same H1 H/\H D=some (.lst ys)/\ys.length=i/\∀ j x y,xs[j]?=some x->ys[j]?=some y->Pr j x y H,
  ⟨_,rfl,BM _,Same.upd hD,aB,rfl,fun j x y _ h=>by simp at h⟩,?_⟩
 rintro i m ys H ⟨rfl,hi,sm,hDH,yl,pr⟩
 refine ⟨hDH,bO (by omega),?_⟩
 by_cases hlt:i < xs.length
 ·refine .inr ⟨Y.go i H sm hlt,fun x H' y => ?_⟩
  obtain ⟨rfl,hx⟩:=Y.yld i H x H' sm hlt y;refine hs i x H' _ hx sm fun y H4 s4 py => ?_;have hD4:=s4 _ _ hDH;have tk:Tk H4 (upd H4 D (.lst (ys ++ [y]))):=Tk.lst hD4;refine ⟨hD4,xs.length - (i+1),by omega,rfl,hlt,fun b o hb => ?_,aB,by rw [AB,yl]; rfl,fun j x' y' hx' hy' => ?_⟩
  ·rw [aI (bE hb hD)]
   exact s4 _ _ (sm _ _ hb)
  ·rcases hV hy' with ⟨_,hy'⟩ | ⟨e,e'⟩
   ·exact hP _ _ _ _ _ (hP _ _ _ _ _ (pr j x' y' hx' hy') (Same.tk s4)) tk
   ·subst e'
    have:j=i:=by omega
    subst this;rw [hx] at hx';cases hx';exact hP _ _ _ _ _ py tk
 ·have e:i=xs.length:=by omega
  subst e;exact .inl ⟨Y.stop _ H sm (Ak _),hd ys H sm hDH yl pr⟩
theorem xP {J:It}{xs:List V}{D:Addr}{g:TG}{tt:TT}{te:TE}{σ0:St}{QD:Hp->Prop}{H1:Hp}(Y:Ys J xs H1)(p:V->Bool)(Pr:V->V->Hp->Prop)(hP : ∀ x y H H',Pr x y H->Tk H H'->Pr x y H')(hD:H1 D=none)(hl:xs.length<=1000)
  (hs : ∀ (i:Nat) x H' (R1:VK) (R2:Hp->Prop),xs[i]?=some x->Same H1 H'->(p x=true->∀ y H4,Same H' H4->Pr x y H4->R1 y H4)->(p x=false->∀ H4,Same H' H4->R2 H4)->g x σ0 H' fun σ2 H2=>Keep σ0 σ2/\tt σ2 H2 fun b H3=>if b=true then te σ2 H3 R1 else R2 H3)
  (hd : ∀ ys H',Same H1 H'->H' D=some (.lst ys)->ys.length=(xs.filter p).length->(∀ (i:Nat) x y,(xs.filter p)[i]?=some x->ys[i]?=some y->Pr x y H')->QD H') :
  ∃ W:Nat->Nat->List V->Hp->Prop,(∃ m,W 0 m [] (upd H1 D (.lst [])))/\∀ i m ys H,W i m ys H->H D=some (.lst ys)/\ys.length < Aw /\
   ((J.stop i H/\QD H)\/(J.go i H/\∀ x H',J.yld i H x H'->g x σ0 H' fun σ2 H2=>Keep σ0 σ2/\tt σ2 H2 fun b H3 =>
    if b=true then te σ2 H3 fun y H4=>H4 D=some (.lst ys)/\∃ m',m' < m/\W (i+1) m' (ys ++ [y]) (upd H4 D (.lst (ys ++ [y]))) else ∃ m',m' < m/\W (i+1) m' ys H3)):=by
 refine ⟨fun i m ys H=>m=xs.length - i/\i<=xs.length/\Same H1 H/\H D=some (.lst ys)/\ys.length=((xs.take i).filter p).length/\∀ (j:Nat) x y,((xs.take i).filter p)[j]?=some x->ys[j]?=some y->Pr x y H,
  ⟨_,rfl,BM _,Same.upd hD,aB,rfl,fun j x y _ h=>by simp at h⟩,?_⟩
 rintro i m ys H ⟨rfl,hi,sm,hDH,yl,pr⟩
 have yl':ys.length<=xs.length:=by
  rw [yl];exact AX (List.length_filter_le _ _) (by rw [Ef]; omega)
 refine ⟨hDH,bO (by omega),?_⟩
 by_cases hlt:i < xs.length
 ·refine .inr ⟨Y.go i H sm hlt,fun x H' y => ?_⟩
  obtain ⟨rfl,hx⟩:=Y.yld i H x H' sm hlt y;have et:xs.take (i+1)=xs.take i ++ [x]:=by rw [CN,hx]; rfl
  refine hs i x H' _ _ hx sm (fun px y H4 s4 py => ?_) (fun px H4 s4 => ?_)
  ·have hD4:=s4 _ _ hDH
   have tk:Tk H4 (upd H4 D (.lst (ys ++ [y]))):=Tk.lst hD4;refine ⟨hD4,xs.length - (i+1),by omega,rfl,hlt,fun b o hb => ?_,aB,?_,fun j x' y' hx' hy' => ?_⟩
   ·rw [aI (bE hb hD)]
    exact s4 _ _ (sm _ _ hb)
   ·rw [et,DC,AB,AB,yl,Ep px]
    rfl
   ·rw [et,DC,Ep px] at hx'
    rcases hV hx' with ⟨h1,hx'⟩ | ⟨h1,hx'⟩
    ·rcases hV hy' with ⟨_,hy'⟩ | ⟨e,_⟩
     ·exact hP _ _ _ _ (hP _ _ _ _ (pr j x' y' hx' hy') (Same.tk s4)) tk
     ·omega
    ·rcases hV hy' with ⟨h2,_⟩ | ⟨_,hy'⟩
     ·omega
     ·subst hx' hy'
      exact hP _ _ _ _ py tk
  ·refine ⟨xs.length - (i+1),by omega,rfl,hlt,sm.trans s4,s4 _ _ hDH,?_,fun j x' y' hx' hy' => ?_⟩
   ·rw [et,DC,Er (by rw [px]; exact Az),List.filter_nil,BZ,yl]
   ·rw [et,DC,Er (by rw [px]; exact Az),List.filter_nil,BZ] at hx'
    exact hP _ _ _ _ (pr j x' y' hx' hy') (Same.tk s4)
 ·have e:i=xs.length:=by omega
  subst e;rw [Bw] at yl pr;exact .inl ⟨Y.stop _ H sm (Ak _),hd ys H sm hDH yl pr⟩
section
variable {prog:Ax}{w:World}{A:Around}{E:Value->Shared->Prop}{s:Shared}
theorem aBy {i:Nat}(st:s.heap.IsTupleIter it t i)(hl:s.heap.IsTuple t its)(hx:its[i]?=some x)(q : ∀ g,g.IsTupleIter it t (i+1)->Ci it s.heap g->Q x { s with heap:=g }):wpAny (model prog w) A (Bk (.ref it)) Q E s:=by
 obtain ⟨ob,e1,e2,e3⟩:=id st;obtain ⟨ot,e4,_,m,e5⟩:=hl;unfold Bk;refine Ab (Bs (name:=CM "__next__") st.typeIs DZ (Bq DZ st.typeIs F.entry_tuple_iterator_next ?_ (F.args_tuple_iterator_next_1 _)));refine Ab (m:=field (.ref it) 0) (BH e1 e3 (x:=.ref t) rfl ?_);show wpAny _ _ (if (AC t == BP)=true then _ else (field (.ref it) 1 >>= _)) _ _ s;rw [if_neg (show ¬ (AC t == BP)=true from (fun z=>nomatch z))];refine Ab (BH e1 e3 (x:=.int i 0) rfl (Ab (m:=seqItems? (.ref t)) (CS e4 e5 ?_)));simp only [Cz,hx];refine Ab (EW e1 e3 (by simp) (Af ⟨x,rfl,Af (q _ ⟨_,BK _ e1 (EG (Eu e3 _)),(Obj.cls_mapFields ..).trans e2,?_⟩ (Ez ..))⟩));rw [Eu e3];simp [rawInt]
theorem aBx {i:Nat}(hh:A.handled=none)(st:s.heap.IsTupleIter it t i)(hl:s.heap.IsTuple t its)(hx:its[i]?=none)(q : ∀ g e,Heap.ExtBut it s.heap g->(∃ o,g.get? e=some o/\o.cls = .type "StopIteration")->E (.ref e) { s with heap:=g }):wpAny (model prog w) A (Bk (.ref it)) Q E s:=by
 obtain ⟨ob,e1,e2,e3⟩:=id st;obtain ⟨ot,e4,_,m,e5⟩:=hl;unfold Bk;refine Ab (Bs (name:=CM "__next__") st.typeIs DZ (Bq DZ st.typeIs F.entry_tuple_iterator_next ?_ (F.args_tuple_iterator_next_1 _)));refine Ab (m:=field (.ref it) 0) (BH e1 e3 (x:=.ref t) rfl ?_);show wpAny _ _ (if (AC t == BP)=true then _ else (field (.ref it) 1 >>= _)) _ _ s;rw [if_neg (show ¬ (AC t == BP)=true from (fun z=>nomatch z))];refine Ab (BH e1 e3 (x:=.int i 0) rfl (Ab (m:=seqItems? (.ref t)) (CS e4 e5 ?_)));simp only [Cz,hx];refine Ab (Di (Ab (EW e1 e3 (by simp) (Ab (m:=newExc (.type "StopIteration") []) ?_))));simp only [newExc,newTuple];refine Ab (AY (Ab (m:=firstArgMember _ _) (Et (a:=BP) (by first | rfl | (simp only [firstArgMember]; rfl)) (AY ?_ (by size_fits)))) (by size_fits));simp only [raiseNew];refine Ab (wpAny_handled ?_)
 first | rw [show A.in1.handled=none from hh] | rw [hh]
 exact Ab (Af (wpAny_throw (q _ _ (((Ez ..).extBut.push _).push _) ⟨_,Ah _ rfl,rfl⟩)))
theorem iE (hh:A.handled=none)(it t:Addr)(hne:t ≠ it)(its:Array Value) :
  Draws prog w A it [it,t] its.size (fun i v=>its[i]?=some v) (fun i h=>h.IsTupleIter it t i/\h.IsTuple t its) where
 live:=fun _ _ z=>let ⟨o,e,_⟩:=z.1; ⟨o,e⟩
 frame:=fun _ _ _ z k=>⟨z.1.at fun o e=>k it (by simp) o e,z.2.at fun o e=>k t (by simp) o e⟩
 item:=fun i s Q E hi z k=>aBy z.1 z.2 (x:=its[i]) (by simp [hi]) fun g z' sb=>k _ g s.toks (by simp [hi]) ⟨z',z.2.extBut sb.extBut hne⟩ sb
 done:=fun s Q E z k=>aBx hh z.1 z.2 (by simp) k
structure Ap (z TI TO i1 i2:Addr)(f1 f2:List Addr):Prop where
 a1 : ∀ b ∈ f1,b ≠ z/\b ≠ TO/\b ≠ i2
 a2 : ∀ b ∈ f2,b ≠ z/\b ≠ TO/\b ≠ i1
 m1:i1 ∈ f1
 m2:i2 ∈ f2
 tz:TI ≠ z
 tO:TI ≠ TO
 t1:TI ≠ i1
 t2:TI ≠ i2
 oz:TO ≠ z
section
variable {z TI TO i1 i2:Addr}{f1 f2:List Addr}{n1 n2 k:Nat}{P1 P2:Nat->Value->Prop}{S1 S2:Nat->Heap->Prop}{a b:Value}
theorem aBv {Q:Value->Shared->Prop}(D1:Draws prog w A i1 f1 n1 P1 S1)(D2:Draws prog w A i2 f2 n2 P2 S2)(ap:Ap z TI TO i1 i2 f1 f2)(hz:IsZip s.heap z TI TO .none)(hI:IsPair s.heap TI (.ref i1) (.ref i2))(hO:IsPair s.heap TO a b)
  (h1:S1 k s.heap) (h2:S2 k s.heap) (l1:k < n1) (l2:k < n2)
  (q : ∀ x y T g t',P1 k x->P2 k y->T=s.heap.objs.size->IsZip g z TI TO (rawInt T)->IsPair g TO x y->S1 (k+1) g->S2 (k+1) g->IsPair g T x y->(∀ c o,c ≠ z->c ≠ TO->c ≠ i1->c ≠ i2->s.heap.get? c=some o->g.get? c=some o)->Q (.ref T) { s with heap:=g,toks:=t' }) :
  wpAny (model prog w) A (AF.«zip.__next__» ⟨[.ref z],[]⟩) (fun fin s'=>∃ v,fin = .done (.ret v)/\Q v s') E s:=by
 have z1:=ap.a1 i1 ap.m1;have z2:=ap.a2 i2 ap.m2;refine Ab (m:=field (.ref z) 2) (BH hz rfl (x:=.bool false) rfl (Ab (m:=field (.ref z) 3) (BH hz rfl (x:=.ref TI) rfl (Ab (CS hI rfl (Ab (m:=CA (.ref z)) ?_))))));unfold CA;refine Ab (BH hz rfl (x:=.none) rfl (Af ?_));simp only [if_true];refine Ab (Di (Ab (BH hz rfl (x:=.ref TO) rfl (Ab (Cq hz (by simp) fun ga ca sa=>Ab ?_)))));replace ca:IsZip ga z TI TO .ellipsis:=ca;have ka : ∀ c o,c ≠ z->s.heap.get? c=some o->ga.get? c=some o:=fun c o n e=>sa.extBut _ _ n e;simp only [List.zipIdx_cons,List.zipIdx_nil,List.forIn_cons,List.forIn_nil];refine Ab (Ab (wpAny_onRaise (Ab (m:=Bk (.ref i1)) (D1.item k _ _ _ l1 (D1.frame _ _ _ h1 fun c hc o e=>ka c o (ap.a1 c hc).1 e) fun x gb tb px sb cb=>Af ?_))));have kb : ∀ c o,c ≠ z->c ≠ i1->s.heap.get? c=some o->gb.get? c=some o:=fun c o n n' e=>cb.extBut _ _ n' (ka c o n e);have hOb:IsPair gb TO a b:=kb _ _ ap.oz (fun e=>z1.2.1 e.symm) hO;refine Ab (CS hOb rfl (Ab (wpAny_updateSeq_pair hOb fun gc hOc cc=>Ab (wpAny_letGo (Af ?_)))));replace hOc:IsPair gc TO x b:=hOc;have kc : ∀ c o,c ≠ z->c ≠ i1->c ≠ TO->s.heap.get? c=some o->gc.get? c=some o:=fun c o n n' n2 e=>cc.extBut _ _ n2 (kb c o n n' e);have sc1:S1 (k+1) gc:=D1.frame _ _ _ sb fun c hc o e=>cc.extBut _ _ (ap.a1 c hc).2.1 e;refine Ab (Ab (wpAny_onRaise (Ab (m:=Bk (.ref i2)) (D2.item k _ _ _ l2 (D2.frame _ _ _ h2 fun c hc o e=>kc c o (ap.a2 c hc).1 (ap.a2 c hc).2.2 (ap.a2 c hc).2.1 e) fun y gd td py sd cd=>Af ?_))));have hOd:IsPair gd TO x b:=cd.extBut _ _ (fun e=>z2.2.1 e.symm) hOc;refine Ab (CS hOd rfl (Ab (wpAny_updateSeq_pair hOd fun ge hOe ce=>Ab (wpAny_letGo (Af (Af ?_))))));replace hOe:IsPair ge TO x y:=hOe;have ke : ∀ c o,c ≠ z->c ≠ TO->c ≠ i1->c ≠ i2->s.heap.get? c=some o->ge.get? c=some o:=fun c o n n1 n2 n3 e=>ce.extBut _ _ n1 (cd.extBut _ _ n3 (kc c o n n2 n1 e));have hze:IsZip ge z TI TO .ellipsis:=ce.extBut _ _ (AM ap.oz) (cd.extBut _ _ (AM z2.1) (cc.extBut _ _ (AM ap.oz) (cb.extBut _ _ (AM z1.1) ca)));have se1:S1 (k+1) ge:=D1.frame _ _ _ sc1 fun c hc o e=>ce.extBut _ _ (ap.a1 c hc).2.1 (cd.extBut _ _ (ap.a1 c hc).2.2 e);have se2:S2 (k+1) ge:=D2.frame _ _ _ sd fun c hc o e=>ce.extBut _ _ (ap.a2 c hc).2.1 e;have szs:s.heap.objs.size=ge.objs.size:=by rw [ce.1,cd.1,cc.1,cb.1,sa.1]
 refine Ab (CS hOe rfl (Ab (wpAny_newTuple (Ab (m:=Fe (.ref z) (.ref ge.objs.size)) ?_))));unfold Fe;have zl:z < ge.objs.size:=Aq hze;refine Ab (Cq (show IsZip (ge.push { cls:=.type "tuple",data:=.seq #[x,y] }) z TI TO .ellipsis from Ac _ hze) (by simp) fun gf cf sf => ?_);replace cf:IsZip gf z TI TO (rawInt ge.objs.size):=cf;refine Cq cf (by simp) fun gg cg sg=>Af ⟨_,rfl,?_⟩;replace cg:IsZip gg z TI TO (rawInt ge.objs.size):=cg;have up : ∀ c o,c ≠ z->ge.get? c=some o->gg.get? c=some o:=fun c o n e=>sg.extBut _ _ n (sf.extBut _ _ n (Ac _ e));have hT:IsPair gg ge.objs.size x y:=sg.extBut _ _ (Dq zl) (sf.extBut _ _ (Dq zl) (Ah _ rfl));exact q x y ge.objs.size gg _ px py szs.symm cg (up _ _ ap.oz hOe) (D1.frame _ _ _ se1 fun c hc o e=>up c o (ap.a1 c hc).1 e) (D2.frame _ _ _ se2 fun c hc o e=>up c o (ap.a2 c hc).1 e) hT fun c o n n1 n2 n3 e=>up c o n (ke c o n n1 n2 n3 e)
theorem aBu (D1:Draws prog w A i1 f1 n1 P1 S1)(D2:Draws prog w A i2 f2 n2 P2 S2)(ap:Ap z TI TO i1 i2 f1 f2)(hz:IsZip s.heap z TI TO .none)(hI:IsPair s.heap TI (.ref i1) (.ref i2))(hO:IsPair s.heap TO a b)(h1:S1 k s.heap)(h2:S2 k s.heap)(hk:k=n1\/(k < n1/\k=n2))(q : ∀ g e t',(∀ c o,c ≠ z->c ≠ TO->c ≠ i1->c ≠ i2->s.heap.get? c=some o->g.get? c=some o)->(∃ o,g.get? e=some o/\o.cls = .type "StopIteration")->E (.ref e) { s with heap:=g,toks:=t' }) :
  wpAny (model prog w) A (AF.«zip.__next__» ⟨[.ref z],[]⟩) Q E s:=by
 have z1:=ap.a1 i1 ap.m1;have z2:=ap.a2 i2 ap.m2;refine Ab (m:=field (.ref z) 2) (BH hz rfl (x:=.bool false) rfl (Ab (m:=field (.ref z) 3) (BH hz rfl (x:=.ref TI) rfl (Ab (CS hI rfl (Ab (m:=CA (.ref z)) ?_))))));unfold CA;refine Ab (BH hz rfl (x:=.none) rfl (Af ?_));simp only [if_true];refine Ab (Di (Ab (BH hz rfl (x:=.ref TO) rfl (Ab (Cq hz (by simp) fun ga ca sa=>Ab ?_)))));replace ca:IsZip ga z TI TO .ellipsis:=ca;have ka : ∀ c o,c ≠ z->s.heap.get? c=some o->ga.get? c=some o:=fun c o n e=>sa.extBut _ _ n e;simp only [List.zipIdx_cons,List.zipIdx_nil,List.forIn_cons,List.forIn_nil]
 rcases hk with e | ⟨l1,e⟩
 ·subst e
  refine Ab (Ab (wpAny_onRaise (Ab (m:=Bk (.ref i1)) (D1.done _ _ _ (D1.frame _ _ _ h1 fun c hc o e=>ka c o (ap.a1 c hc).1 e) fun gb e cb he => ?_))));obtain ⟨oe,h3,h4⟩:=he;have hzb:IsZip gb z TI TO .ellipsis:=cb _ _ (AM z1.1) ca;have hez:e ≠ z:=fun x=>by rw [x,hzb] at h3; cases h3; simp at h4
  exact Cq hzb (by simp) fun gc _ cc=>q gc e s.toks (fun c o n _ n2 _ x=>cc.extBut _ _ n (cb _ _ n2 (ka c o n x))) ⟨oe,cc.extBut _ _ hez h3,h4⟩
 ·subst e
  refine Ab (Ab (wpAny_onRaise (Ab (m:=Bk (.ref i1)) (D1.item k _ _ _ l1 (D1.frame _ _ _ h1 fun c hc o e=>ka c o (ap.a1 c hc).1 e) fun x gb tb px sb cb=>Af ?_))));have kb : ∀ c o,c ≠ z->c ≠ i1->s.heap.get? c=some o->gb.get? c=some o:=fun c o n n' e=>cb.extBut _ _ n' (ka c o n e);have hOb:IsPair gb TO a b:=kb _ _ ap.oz (fun e=>z1.2.1 e.symm) hO;refine Ab (CS hOb rfl (Ab (wpAny_updateSeq_pair hOb fun gc hOc cc=>Ab (wpAny_letGo (Af ?_)))));have kc : ∀ c o,c ≠ z->c ≠ i1->c ≠ TO->s.heap.get? c=some o->gc.get? c=some o:=fun c o n n' n2 e=>cc.extBut _ _ n2 (kb c o n n' e);refine Ab (Ab (wpAny_onRaise (Ab (m:=Bk (.ref i2)) (D2.done _ _ _ (D2.frame _ _ _ h2 fun c hc o e=>kc c o (ap.a2 c hc).1 (ap.a2 c hc).2.2 (ap.a2 c hc).2.1 e) fun gd e cd he => ?_))));obtain ⟨oe,h3,h4⟩:=he;have hzd:IsZip gd z TI TO .ellipsis:=cd _ _ (AM z2.1) (cc.extBut _ _ (AM ap.oz) (cb.extBut _ _ (AM z1.1) ca));have hez:e ≠ z:=fun x=>by rw [x,hzd] at h3; cases h3; simp at h4
  exact Cq hzd (by simp) fun ge _ ce=>q ge e tb (fun c o n n1 n2 n3 x=>ce.extBut _ _ n (cd _ _ n3 (kc c o n n2 n1 x))) ⟨oe,ce.extBut _ _ hez h3,h4⟩
theorem aF7 {Q:Option Value->Shared->Prop}(D1:Draws prog w A.in1 i1 f1 n1 P1 S1)(D2:Draws prog w A.in1 i2 f2 n2 P2 S2)(ap:Ap z TI TO i1 i2 f1 f2)(hz:IsZip s.heap z TI TO .none)(hI:IsPair s.heap TI (.ref i1) (.ref i2))(hO:IsPair s.heap TO a b)
  (h1:S1 k s.heap) (h2:S2 k s.heap) (l1:k < n1) (l2:k < n2)
  (q : ∀ x y T g t',P1 k x->P2 k y->T=s.heap.objs.size->IsZip g z TI TO (rawInt T)->IsPair g TO x y->S1 (k+1) g->S2 (k+1) g->IsPair g T x y->(∀ c o,c ≠ z->c ≠ TO->c ≠ i1->c ≠ i2->s.heap.get? c=some o->g.get? c=some o)->Q (some (.ref T)) { s with heap:=g,toks:=t' }) :
  wpAny (model prog w) A (pyNext (.ref z)) Q E s:=by
 have ty:s.TypeIs (.ref z) "zip" := ⟨_,hz,rfl⟩;unfold pyNext;exact Ab (Dz (Bs (name:=CM "__next__") ty F.slot_zip_next (Bq F.slot_zip_next ty F.entry_zip_next (aBv D1 D2 ap hz hI hO h1 h2 l1 l2 fun x y T g t' c1 c2 c3 c4 c5 c6 c7 c8 c9=>Af (q x y T g t' c1 c2 c3 c4 c5 c6 c7 c8 c9)) (F.args_zip_next_1 _))))
theorem tM (D1:Draws prog w A.in1 i1 f1 n1 P1 S1)(D2:Draws prog w A.in1 i2 f2 n2 P2 S2)(ap:Ap z TI TO i1 i2 f1 f2)(hz:IsZip s.heap z TI TO .none)(hI:IsPair s.heap TI (.ref i1) (.ref i2))(hO:IsPair s.heap TO a b)(h1:S1 k s.heap)(h2:S2 k s.heap)(hk:k=n1\/(k < n1/\k=n2))(q : ∀ g t',(∀ c o,c ≠ z->c ≠ TO->c ≠ i1->c ≠ i2->s.heap.get? c=some o->g.get? c=some o)->Q none { s with heap:=g,toks:=t' }):wpAny (model prog w) A (pyNext (.ref z)) Q E s:=by
 have ty:s.TypeIs (.ref z) "zip" := ⟨_,hz,rfl⟩;unfold pyNext;refine Ab (Dz (Bs (name:=CM "__next__") ty F.slot_zip_next (Bq F.slot_zip_next ty F.entry_zip_next (aBu D1 D2 ap hz hI hO h1 h2 hk fun g e t' kp he => ?_) (F.args_zip_next_1 _))));obtain ⟨o,h3,h4⟩:=he;exact Ab (Fc (T := "StopIteration") (b:=true) ⟨o,h3,h4⟩ isSubtype_stop (Af (q _ _ kp)))
end
end
def Itz (K:Aa)(a b:Addr):It :=
  ⟨fun i H=>∃ xs ys,SqT K H a xs/\SqL K H b ys/\i < xs.length/\i < ys.length,
   fun i H v H'=>∃ T,H T=none/\v = .ref T/\∀ xs ys,SqT K H a xs->SqL K H b ys->∃ x y,xs[i]?=some x/\ys[i]?=some y/\H'=upd H T (.tup [x,y]),
   fun i H=>∃ xs ys,SqT K H a xs/\SqL K H b ys/\(i=xs.length\/(i < xs.length/\i=ys.length))⟩
theorem Inv.turnedL {X:Cx}{pins:List (Addr × Obj)}{σ:St}{H:Hp}{s:Shared}{h':Heap}{t':Nat}{ch:List Addr}(I:Inv X pins σ H s)(k : ∀ b o,b ∉ ch->s.heap.get? b=some o->h'.get? b=some o)(hf : ∀ b ∈ ch,FpOk X pins H b):Inv X pins σ H { s with heap:=h',toks:=t' }:=by
 have nit : ∀ b u,H b=some u->b ∉ ch:=fun b u e z=>by rw [(hf b z).1] at e; cases e
 refine I.step (g':=s.gens) (d':=s.drawn) (ch:=ch) (fun b hb=>⟨(hf b hb).2.2.2.1,(hf b hb).2.1,(hf b hb).2.2.2.2.1,(hf b hb).2.2.2.2.2⟩) (fun b o _ _ hc e _=>k b o hc e) (fun b o _ _ hc e _=>⟨o.slots,k b o hc e⟩) (fun _ _ _ _ n=>n)
  (fun b o hc e=>⟨o,k b o hc e⟩) (fun _ _ e=>e) (fun _ _ _ e=>e) (fun b ps e=>⟨#[],by rw [e]; simp⟩) (fun m hm => ?_) (fun b u e => ?_) I.bare
 ·obtain ⟨o,es,ep,ho,r⟩:=hm
  exact ⟨o,es,ep,k _ o (fun z=>(hf _ z).2.1 rfl) ho,r⟩
 ·refine (I.hok b u e).stay (fun c v hc q=>k c v ?_ q) (fun _ q=>q) fun _ _ q=>q
  rcases hc with z | z
  ·rw [z]; exact nit b u e
  ·exact nit c _ z
def ZipSt (n a b:Nat)(i:Nat)(h:Heap):Prop:=IsZip h (n+4) (n+2) (n+3) .none/\IsPair h (n+2) (.ref n) (.ref (n+1))/\(∃ x y,IsPair h (n+3) x y)/\h.IsTupleIter n a i/\h.IsListIter (n+1) b i
theorem aBr {n a b:Nat}(ha:a < n)(hb:b < n):Ap (n+4) (n+2) (n+3) n (n+1) [n,a] [n+1,b] where
 a1:=fun c hc=>by
  have hc':c=n\/c=a:=by simpa using hc
  rcases hc' with e | e <;> (subst e; exact ⟨by show (_:Nat) ≠ _; omega,by show (_:Nat) ≠ _; omega,by show (_:Nat) ≠ _; omega⟩)
 a2:=fun c hc=>by
  have hc':c=n+1\/c=b:=by simpa using hc
  rcases hc' with e | e <;> (subst e; exact ⟨by show (_:Nat) ≠ _; omega,by show (_:Nat) ≠ _; omega,by show (_:Nat) ≠ _; omega⟩)
 m1:=by simp
 m2:=by simp
 tz:=by show (_:Nat) ≠ _; omega
 tO:=by show (_:Nat) ≠ _; omega
 t1:=by show (_:Nat) ≠ _; omega
 t2:=by show (_:Nat) ≠ _; omega
 oz:=by show (_:Nat) ≠ _; omega
abbrev zo1 (h:Heap)(a:Addr):Heap:=h.push { cls:=.type "tuple_iterator",data:=.fields #[.ref a,.int 0 0] }
abbrev zo2 (h:Heap)(a b:Addr):Heap:=(zo1 h a).push { cls:=.type "list_iterator",data:=.fields #[.ref b,.int 0 0] }
abbrev zo3 (h:Heap)(a b:Addr):Heap:=(zo2 h a b).push { cls:=.type "tuple",data:=.seq #[.ref h.objs.size,.ref (zo1 h a).objs.size] }
abbrev zo4 (h:Heap)(a b:Addr):Heap:=(zo3 h a b).push { cls:=.type "tuple",data:=.seq #[.none,.none] }
abbrev zo5 (h:Heap)(a b:Addr):Heap:=(zo4 h a b).push { cls:=.type "zip",data:=.fields #[.none,.bool false,.bool false,.ref (zo2 h a b).objs.size,.ref (zo3 h a b).objs.size] }
def iZip (K:Aa)(ta:TA):TI:=fun σ H R=>ta σ H fun vs H1=>∃ a b,vs=[.ref a,.ref b]/\(∃ xs,SqT K H1 a xs)/\(∃ ys,SqL K H1 b ys)/\R (Itz K a b) H1
theorem aF2:Cb "zip" = some (.type "zip"):=by decide +kernel
theorem aCy {X:Cx}{K:Aa}(h:X.K=K)(hu:X.A.units+64 < cLine):OpR X (BI .NotEq) (rNeI K):=h ▸ vJ hu
section
variable {κ:Type}[DecidableEq κ]
def valV (kvs:List (κ × V))(k:κ):Option V:=(kvs.find? fun kv=>decide (kv.1=k)).map (·.2)
def putK (kvs:List (κ × V))(k:κ)(v:V):List (κ × V) :=
 if (kvs.any fun kv=>decide (kv.1=k))=true then kvs.map (fun kv=>if kv.1=k then (kv.1,v) else kv) else kvs ++ [(k,v)]
def aDt (kvs:List (κ × V))(k:κ):List (κ × V):=kvs.filter fun kv=>decide (kv.1 ≠ k)
theorem dF {p:κ × V}{r:List (κ × V)}{k:κ}(e:p.1=k):valV (p :: r) k=some p.2:=by simp [valV,Dl,e]
theorem dG {p:κ × V}{r:List (κ × V)}{k:κ}(e : ¬ p.1=k):valV (p :: r) k=valV r k:=by simp [valV,Dl,e]
theorem eL (k:κ) : ∀ kvs:List (κ × V),(kvs.any fun kv=>decide (kv.1=k))=(valV kvs k).isSome
 | []=>rfl
 | p :: r=>by
  rw [List.any_cons]
  by_cases e:p.1=k
  ·simp only [dF e,decide_eq_true e,Bool.true_or,Option.isSome_some]
  ·rw [dG e,decide_eq_false e,Bool.false_or]; exact eL k r
theorem pO (k j:κ)(y:V) : ∀ kvs:List (κ × V),valV (kvs.map fun kv=>if kv.1=k then (kv.1,y) else kv) j=(valV kvs j).map fun x=>if j=k then y else x
 | []=>rfl
 | p :: r=>by
  have ih:=pO k j y r;rw [Ai]
  by_cases h:p.1=k
  ·rw [if_pos h]
   by_cases e:p.1=j
   ·rw [dF (p:=(p.1,y)) e,dF e,Dj,if_pos (e.symm.trans h)]
   ·rw [dG (p:=(p.1,y)) e,dG e,ih]
  ·rw [if_neg h]
   by_cases e:p.1=j
   ·rw [dF (p:=p) e,dF e,Dj,if_neg (fun z=>h (e.trans z))]
   ·rw [dG (p:=p) e,dG e,ih]
theorem lT (k j:κ)(y:V) : ∀ kvs:List (κ × V),valV kvs k=none->valV (kvs ++ [(k,y)]) j=if j=k then some y else valV kvs j
 | [],_=>by
  by_cases e:k=j
  ·rw [if_pos e.symm]; exact dF (p:=(k,y)) e
  ·rw [if_neg (fun z=>e z.symm)]; exact dG (p:=(k,y)) e
 | p :: r,hn=>by
  rw [List.cons_append];have hk : ¬ p.1=k:=fun z=>by rw [dF z] at hn; cases hn
  rw [dG hk] at hn;have ih:=lT k j y r hn
  by_cases e:p.1=j
  ·rw [dF e,dF e,if_neg (fun z=>hk (e.trans z))]
  ·rw [dG e,dG e,ih]
theorem pN (kvs:List (κ × V))(k j:κ)(y:V):valV (putK kvs k y) j=if j=k then some y else valV kvs j:=by
 unfold putK
 by_cases a:(kvs.any fun kv=>decide (kv.1=k))=true
 ·rw [if_pos a,pO]
  rw [eL] at a
  by_cases e:j=k
  ·obtain ⟨x,hx⟩:=Option.isSome_iff_exists.mp a
   rw [if_pos e,e,hx,Dj,if_pos rfl]
  ·rw [if_neg e]
   cases valV kvs j with
   | none=>rfl
   | some x=>rw [Dj,if_neg e]
 ·rw [if_neg a]
  refine lT k j y kvs ?_;rw [eL] at a;cases q:valV kvs k with
  | none=>rfl
  | some x=>rw [q] at a; exact (a rfl).elim
theorem fH (kvs:List (κ × V))(k:κ)(v:V):(putK kvs k v).length<=kvs.length+1:=by
 unfold putK;split
 ·rw [Ag]; omega
 ·rw [AB,AG,List.length_nil]; omega
theorem RelO.isSome_eq (r:RelO o u):o.isSome=u.isSome:=by
 cases o with
 | none=>cases u with
  | none=>rfl
  | some _=>exact (show False from r).elim
 | some _=>cases u with
  | none=>exact (show False from r).elim
  | some _=>rfl
theorem RelO.getD (r:RelO o u)(rd:RelV d d'):RelV (o.getD d) (u.getD d'):=by
 cases o with
 | none=>cases u with
  | none=>exact rd
  | some _=>exact (show False from r).elim
 | some _=>cases u with
  | none=>exact (show False from r).elim
  | some _=>exact r
theorem KV.val (r:KV kvs vs)(k:κ):RelO (valV kvs k) (valueAt vs k):=by
 unfold KV at r
 induction r with
 | nil=>exact Dx
 | @cons p q ps qs h t ih =>
  obtain ⟨h1,h2⟩:=h
  by_cases e:p.1=k
  ·have e':q.1=k:=h1.symm.trans e
   have b:valueAt (q :: qs) k=some q.2:=by simp [valueAt,Dl,e']
   rw [dF e,b]; exact h2
  ·have e' : ¬ q.1=k:=fun z=>e (h1.trans z)
   have b:valueAt (q :: qs) k=valueAt qs k:=by simp [valueAt,Dl,e']
   rw [dG e,b]; exact ih
theorem KV.any (r:KV kvs vs)(k:κ):(kvs.any fun kv=>decide (kv.1=k))=vs.any fun kv=>decide (kv.1=k):=by
 unfold KV at r
 induction r with
 | nil=>rfl
 | cons h t ih=>rw [List.any_cons,List.any_cons,ih,h.1]
theorem KV.repl (r:KV kvs vs)(k:κ)(ry:RelV y u) :
  KV (kvs.map fun kv=>if kv.1=k then (kv.1,y) else kv) (vs.map fun kv=>if kv.1=k then (kv.1,u) else kv):=by
 unfold KV at r ⊢
 induction r with
 | nil=>exact .nil
 | @cons p q ps qs h t ih =>
  rw [Ai,Ai];refine .cons ?_ ih;obtain ⟨h1,h2⟩:=h
  by_cases e:p.1=k
  ·rw [if_pos e,if_pos (h1.symm.trans e)]; exact ⟨h1,ry⟩
  ·rw [if_neg e,if_neg (fun z=>e (h1.trans z))]; exact ⟨h1,h2⟩
theorem KV.put (r:KV kvs vs)(k:κ)(ry:RelV y u):KV (putK kvs k y) (stored vs k u):=by
 unfold putK stored;rw [r.any k]
 by_cases e:(vs.any fun kv=>decide (kv.1=k))=true
 ·rw [if_pos e,if_pos e]; exact r.repl k ry
 ·rw [if_neg e,if_neg e]; exact Paired.snoc r ⟨rfl,ry⟩
theorem KV.keys {kvs:List (κ × V)}{vs:List (κ × Value)}(r:KV kvs vs):kvs.map (·.1)=vs.map (·.1):=by
 unfold KV at r
 induction r with
 | nil=>rfl
 | cons h t ih=>rw [Ai,Ai,ih,h.1]
theorem KV.length (r:KV kvs vs):kvs.length=vs.length:=Paired.length r
end
theorem sW {w:World}{k:Key}(r:RelV (kV k) u):(bF P w).is k u=true:=by
 cases k with
 | inl i=>obtain ⟨t,e⟩:=(show ∃ t,u=Value.int i t from r); subst e; exact oT P w i t
 | inr x=>obtain ⟨t,e⟩:=(show ∃ t,u=Value.str x t from r); subst e; exact oS P w x t
theorem mT {w:World} : ∀ {ks:List Key} {us:List Value},Vals (ks.map kV) us->ItemsAre (bF P w) ks us
 | [],_,r=>by rw [List.map_nil] at r; cases r; exact .nil
 | k :: ks,_,r=>by
  rw [Ai] at r;cases r with
  | cons h t=>exact .cons (sW h) (mT t)
abbrev KT (H:Hp):List (List Key × V)->List (List Key × Addr × Value)->Prop:=Paired fun p q=>p.1=q.1/\H q.2.1=some (.tup (p.1.map kV))/\RelV p.2 q.2.2
theorem KT.val (r:KT H kvs xs)(k:List Key):RelO (valV kvs k) ((atKey xs k).map (·.2)):=by
 induction r with
 | nil=>exact Dx
 | @cons p q ps qs h t ih =>
  obtain ⟨h1,_,h2⟩:=h
  by_cases e:p.1=k
  ·have e':q.1=k:=h1.symm.trans e
   have b:atKey (q :: qs) k=some q.2:=by simp [atKey,Dl,e']
   rw [dF e,b]; exact h2
  ·have e' : ¬ q.1=k:=fun z=>e (h1.trans z)
   have b:atKey (q :: qs) k=atKey qs k:=by simp [atKey,Dl,e']
   rw [dG e,b]; exact ih
theorem KT.repl (r:KT H kvs xs)(k:List Key)(ry:RelV y u) :
  KT H (kvs.map fun kv=>if kv.1=k then (kv.1,y) else kv) (xs.map (putAt k u)):=by
 induction r with
 | nil=>exact .nil
 | @cons p q ps qs h t ih =>
  rw [Ai,Ai];refine .cons ?_ ih;obtain ⟨h1,h2,h3⟩:=h;unfold putAt
  by_cases e:p.1=k
  ·rw [if_pos e,if_pos (h1.symm.trans e)]; exact ⟨h1,h2,ry⟩
  ·rw [if_neg e,if_neg (fun z=>e (h1.trans z))]; exact ⟨h1,h2,h3⟩
theorem KT.put (r:KT H kvs xs)(k:List Key)(hb:H b=some (.tup (k.map kV)))(ry:RelV y u) :
  KT H (putK kvs k y) (storedH xs k b u):=by
 have e:(kvs.any fun kv=>decide (kv.1=k))=(atKey xs k).isSome:=by
  rw [eL,(r.val k).isSome_eq,Option.isSome_map]
 unfold putK storedH;rw [e]
 by_cases q:(atKey xs k).isSome=true
 ·rw [if_pos q,if_pos q]; exact r.repl k ry
 ·rw [if_neg q,if_neg q]; exact Paired.snoc r ⟨rfl,hb,ry⟩
theorem KT.keeps (r:KT H kvs xs)(ht : ∀ b ys,H b=some (.tup ys)->H' b=some (.tup ys)):KT H' kvs xs :=
 Paired.mapP r fun _ _ z=>⟨z.1,ht _ _ z.2.1,z.2.2⟩
section
variable {P:Ax}{w:World}{H:Hp}{h:Heap}{a:Addr}
theorem aEv (ok:HOk P w H h)(e:Rd H a u):ObjOk P w H h a u:=e.ok ok
theorem xF (ok:HOk P w H h)(e:Rd H a (.dK kvs)):kvs.length<=Aw/\(a == DG)=false/\∃ vs,KV kvs vs/\h.DictOf (bF P w) a vs :=
 show ObjOk P w H h a (.dK kvs) from aEv ok e
theorem tF (ok:HOk P w H h)(e:H a=some (.dK kvs)):kvs.length<=Aw/\(a == DG)=false/\∃ vs,KV kvs vs/\h.DictOf (bF P w) a vs:=xF ok (.inl e)
theorem qZ (ok:HOk P w H h)(e:H a=some (.tup (ks.map kV))):(tupleKind (bF P w)).is h ks a:=by
 obtain ⟨_,its,r,o,h1,h2,n,h3⟩:=(show ObjOk P w H h a (.tup (ks.map kV)) from ok a _ e);exact ⟨o,its.toArray,n,h1,h2,h3,by simpa using mT r⟩
theorem xD (ok:HOk P w H h)(e:Rd H a (.dT kvs)):kvs.length<=Aw/\(a == DG)=false /\
  ∃ xs,KT H kvs xs/\h.DictOfH (tupleKind (bF P w)) a xs:=by
 obtain ⟨z,y,xs,r,o,es,ep,h1,h2,h3,h4,h5⟩:=(show ObjOk P w H h a (.dT kvs) from aEv ok e);refine ⟨z,y,xs,r,o,es,ep,h1,h2,h3,h4,fun x hx => ?_,h5⟩;have all : ∀ {l:List (List Key × V)} {m:List (List Key × Addr × Value)},KT H l m->∀ x ∈ m,(tupleKind (bF P w)).is h x.1 x.2.1:=by
  intro l m q
  induction q with
  | nil=>intro x hx; exact nomatch hx
  | @cons p q ps qs hq t ih =>
   intro x hx
   rcases AD.mp hx with e | hx
   ·subst e
    exact qZ ok (by rw [<- hq.1]; exact hq.2.1)
   ·exact ih x hx
 exact all r x hx
theorem aHi (ok:HOk P w H h)(e:H a=some (.dT kvs)):kvs.length<=Aw/\(a == DG)=false /\
  ∃ xs,KT H kvs xs/\h.DictOfH (tupleKind (bF P w)) a xs:=xD ok (.inl e)
end
def DGet (H:Hp)(a:Addr)(y:V)(r:Option V):Prop :=
 (∃ kvs k,Rd H a (.dK kvs)/\y=kV k/\r=valV kvs k)\/∃ kvs k b,Rd H a (.dT kvs)/\y = .ref b/\H b=some (.tup (k.map kV))/\r=valV kvs k
def DPut (H:Hp)(a:Addr)(y v:V)(H':Hp):Prop :=
 (∃ kvs k,H a=some (.dK kvs)/\y=kV k/\kvs.length < Aw/\H'=upd H a (.dK (putK kvs k v))) \/
 ∃ kvs k b,H a=some (.dT kvs)/\y = .ref b/\H b=some (.tup (k.map kV))/\kvs.length < Aw/\H'=upd H a (.dT (putK kvs k v))
theorem DGet.k {k:Key}(e:H a=some (.dK kvs)):DGet H a (kV k) (valV kvs k):=.inl ⟨kvs,k,.inl e,rfl,rfl⟩
theorem DPut.k {k:Key}(e:H a=some (.dK kvs))(hl:kvs.length < Aw):DPut H a (kV k) v (upd H a (.dK (putK kvs k v))):=.inl ⟨kvs,k,e,rfl,hl,rfl⟩
section
variable {X:Cx}{pins:List (Addr × Obj)}{σ:St}{H:Hp}{s:Shared}{a:Addr}{y v:V}{u r:Value}{o:Option V}{A:Around}{E:Value->Shared->Prop}
theorem Inv.big (I:Inv X pins σ H s):DG < s.heap.objs.size:=by
 have h:An < s.heap.objs.size:=(I.mod.glob.keeps I.bk).lt;exact CC (by decide) h
theorem xM (hu:A.units+1 < cLine)(I:Inv X pins σ H s)(g:DGet H a y (some v))(ry:RelV y u)(h : ∀ w' s',Inv X pins σ H s'->RelV v w'->Q w' s') :
  wpAny (model X.prog X.w) A (getItem (.ref a) u) Q E s:=by
 rcases g with ⟨kvs,k,e,ey,l⟩ | ⟨kvs,k,b,e,ey,eb,l⟩
 ·subst ey
  obtain ⟨z,hd,vs,rel,dd⟩:=xF I.hok e;obtain ⟨w',hw,rw'⟩:=RelO.some_of (v:=v) (o:=valueAt vs k) (by rw [l]; exact rel.val k);exact wpAny_getItem_of (sW ry) dd.mapOf hw (h w' _ (I.tok _) rw')
 ·subst ey
  cases (show u=AC b from ry);obtain ⟨z,hd,xs,rel,dd⟩:=xD I.hok e;obtain ⟨w',hw,rw'⟩:=RelO.some_of (v:=v) (o:=(atKey xs k).map (·.2)) (by rw [l]; exact rel.val k);obtain ⟨p,hp,hp2⟩:=Bv.mp hw;refine wpAny_getItem_heap (tupleKind_room_in1 hu) (qZ I.hok eb) dd hp ?_;rw [hp2];exact h w' _ (I.tok _) rw'
theorem pD {t':Nat}(I:Inv X pins σ H s)(mu:Mut (H a))(hs:Ci a s.heap h')(he : ∃ q,h'.get? a=some q)(new:ObjOk X.prog X.w (upd H a ob) h' a ob) :
  Inv X pins σ (upd H a ob) { s with heap:=h',toks:=t' } :=
 I.write (x:=a) (e:=a) mu (.inl rfl) (fun b q hb z=>(hs.2 b hb).trans z) he new
theorem aBm {w:World}(z:kvs.length<=Aw)(hd:(a == DG)=false)(rel:KV kvs vs)(dd:h'.DictOf (bF P w) a vs) :
  ObjOk P w H' h' a (.dK kvs):=⟨z,hd,vs,rel,dd⟩
theorem xK (hu:A.units+1 < cLine)(I:Inv X pins σ H s)(g:DPut H a y v H')(ry:RelV y u)(rv:RelV v r)(h : ∀ s',Inv X pins σ H' s'->Q () s') :
  wpAny (model X.prog X.w) A (setItem (.ref a) u r) Q E s:=by
 rcases g with ⟨kvs,k,e,ey,l,eH⟩ | ⟨kvs,k,b,e,ey,eb,l,eH⟩
 ·subst ey eH
  obtain ⟨z,hd,vs,rel,dd⟩:=tF I.hok e;have hz:vs.length<=Aw:=by rw [<- rel.length]; exact z
  have hl:(putK kvs k v).length<=Aw:=by have:=fH kvs k v; omega
  refine wpAny_setItem_pairs (hsz:=hz) (sW ry) dd fun h' dd' hs=>h _ ?_;have he : ∃ q,h'.get? a=some q:=let ⟨q,_,_,hq,_⟩:=dd'; ⟨q,hq⟩;exact pD I (by rw [e]; exact Dx) hs he (aBm hl hd (rel.put k rv) dd')
 ·subst ey eH
  cases (show u=AC b from ry);obtain ⟨z,hd,xs,rel,dd⟩:=aHi I.hok e;have hz:xs.length<=Aw:=by rw [<- Paired.length rel]; exact z
  have hl:(putK kvs k v).length<=Aw:=by have:=fH kvs k v; omega
  refine wpAny_setItem_heap (hsz:=hz) (tupleKind_room_in1 hu) (qZ I.hok eb) dd fun h' dd' hs=>h _ ?_;obtain ⟨q,es,ep,hq,h2,h3,h4,_,h5⟩:=dd';refine pD I (by rw [e]; exact Dx) hs ⟨q,hq⟩ ⟨hl,hd,_,(rel.put k eb rv).keeps fun c ys ec => ?_,q,es,ep,hq,h2,h3,h4,h5⟩;rw [aI (aG5 ec e (fun z=>nomatch z))];exact ec
end
section
variable {X:Cx}{pins:List (Addr × Obj)}{σ:St}{H:Hp}{s:Shared}{a:Addr}{kvs:List (Key × V)}{k:Key}{u:Value}{A:Around}{E:Value->Shared->Prop}
end
def NoSl (i:Expr):Prop:=∀ ov iv,subscripted i false ov iv=operate [ov,iv] (getItem ov iv)
theorem aB2 {prog:Ax}{w:World}{A:Around}{E:Value->Shared->Prop}{s:Shared}{env:Env}{value slice:Expr}{pos:Pos}{T id:String}{Q:Value->Shared->Prop}
  (hl:typeLookup (.type T) "__getitem__" = pure (some (.builtin id))) (hs:NoSl slice)
  (h:wpAny (model prog w) A (eval value env) (fun o s₁=>wpAny (model prog w) A (eval slice env) (fun i s₂=>s₂.TypeIs o T/\wpAny (model prog w) A (getItem o i) Q E s₂) E s₁) E s) :
  wpAny (model prog w) A (eval (.Subscript value slice pos) env) Q E s:=by
 refine Subscript_ (BV h (fun o s₁ h₁=>BV h₁ (fun i s₂ h₂ => ?_) fun _ _ x=>x) fun _ _ x=>x);obtain ⟨hT,h₂⟩:=h₂;unfold subscriptTail;refine Ab ?_;rw [getitemInPython_of_ne hT.not_modules];refine Ab (wpAny_specialOf hT hl ?_);have fin:wpAny (model prog w) A (subscripted slice false o i) (fun r s₃=>wpAny (model prog w) A (letTemporaryGo value o r >>= fun _=>pure r) Q E s₃) E s₂:=by
  rw [hs o i];exact wpAny_operating (BV h₂ (fun r s₃ h₃=>Ab (wpAny_letTemporaryGo (Af h₃))) fun _ _ x=>x)
 first
  | exact Af (Ab fin)
  | exact Ab (Af (Ab fin))
  | exact Ab fin
theorem pC {σ:St}(I:Inv X pins σ H s)(g:DGet H a y o):s.TypeIs (.ref a) "dict" := by
 rcases g with ⟨kvs,k,e,_,_⟩ | ⟨kvs,k,b,e,_,_,_⟩
 ·obtain ⟨_,_,vs,_,dd⟩:=xF I.hok e
  exact dd.typeIs
 ·obtain ⟨_,_,xs,_,dd⟩:=xD I.hok e
  exact dd.typeIs
def aGl (td ty:TE):TE:=fun σ H Q=>td σ H fun x H1=>ty σ H1 fun y H2=>∃ a v,x = .ref a/\DGet H2 a y (some v)/\Q v H2
def tDIn (ty td:TE):TE:=fun σ H Q=>ty σ H fun y H1=>td σ H1 fun x H2=>∃ a o,x = .ref a/\DGet H2 a y o/\Q (.bl o.isSome) H2
def tDNotIn (ty td:TE):TE:=fun σ H Q=>ty σ H fun y H1=>td σ H1 fun x H2=>∃ a o,x = .ref a/\DGet H2 a y o/\Q (.bl (!o.isSome)) H2
def aGp (td ty tv:TE):TS:=fun D σ H=>tv σ H fun v H1=>td σ H1 fun x H2=>ty σ H2 fun y H3=>∃ a H4,x = .ref a/\DPut H3 a y v H4/\D.nx σ H4
def sDAug (td ty tv:TE)(rd:V->V->Hp->VK->Prop):TS:=fun D σ H=>td σ H fun x H1=>ty σ H1 fun y H2=>∃ a v,x = .ref a/\DGet H2 a y (some v) /\
 tv σ H2 fun y2 H3=>rd v y2 H3 fun z H4=>∃ H5,DPut H4 a y z H5/\D.nx σ H5
def sDDel (td ty:TE):TS:=fun D σ H=>td σ H fun x H1=>ty σ H1 fun y H2=>∃ a kvs k,x = .ref a/\H2 a=some (.dK kvs)/\y=kV k/\(valV kvs k).isSome=true/\D.nx σ (upd H2 a (.dK (aDt kvs k)))
section
variable {X:Cx}{o i e value:Expr}{pos pos' tpos:Pos}{td ty tv:TE}
theorem iR (hu:X.A.units+1 < cLine)(ho:PE X o td)(hi:PE X i ty)(hs:NoSl i):PE X (.Subscript o i pos) (aGl td ty):=by
 intro pins s σ H Q I h;refine aB2 PySem.F.slot_dict_getitem.lookup hs (thn (ho pins s σ H _ I h) fun u s1 ⟨x,H1,I1,rx,q1⟩=>thn (hi pins s1 σ H1 _ I1 q1) fun iv s2 ⟨y,H2,I2,ry,a,v,ex,g,q2⟩ => ?_);subst ex;obtain rfl:u=AC a:=rx;exact ⟨pC I2 g,xM hu I2 g ry fun w' s3 I3 rw'=>⟨v,H2,I3,rw',q2⟩⟩
theorem oN (hu:X.A.units+1 < cLine)(ho:PE X o td)(hi:PE X i ty)(hv:PE X value tv)(hs:swapsWith value (some (.Subscript o i pos')) pos.line X.env=pure false) :
  PS X (.Assign [.Subscript o i pos'] value pos) (aGp td ty tv):=by
 intro pins s σ H D I h;refine wpAny_Assign_Subscript (thn (hv pins s σ H _ I h) fun r s1 ⟨v,H1,I1,rv,q1⟩=>thn (ho pins s1 σ H1 _ I1 q1) fun u s2 ⟨x,H2,I2,rx,q2⟩=>thn (hi pins s2 σ H2 _ I2 q2) fun iv s3 ⟨y,H3,I3,ry,a,H4,ex,g,q3⟩ => ?_) hs;subst ex;obtain rfl:u=AC a:=rx;exact xK hu I3 g ry rv fun s4 I4=>⟨σ,H4,I4,q3⟩
end
theorem rF {w:World}(h:Heap)(hb:DG < h.objs.size):ObjOk P w H (h.push { cls:=.type "dict",data:=.dict #[] }) h.objs.size (.dK []) :=
 ⟨BM _,beq_eq_false_iff_ne.mpr (AM (Av hb)),[],.nil,Heap.DictOf.new h⟩
def aEc:TE:=fun _ H Q=>∀ p,H p=none->Q (.ref p) (upd H p (.dK []))
def tDNewT:TE:=fun _ H Q=>∀ p,H p=none->Q (.ref p) (upd H p (.dT []))
section
variable {X:Cx}{pos:Pos}
theorem qJ:PE X (.Dict [] [] pos) aEc:=fun pins s σ H Q I h =>
 wpAny_Dict_empty ⟨.ref s.heap.objs.size,_,I.laid (a:=s.heap.objs.size) (o:=.dK []) (t':=s.toks) (fun _ _ q=>Ac _ q) (Ak _) (rF s.heap I.big),rfl,h _ (I.hok.fresh (Ak _))⟩
end
def tV:List (TE × TE)->St->Hp->(List (V × V)->Hp->Prop)->Prop
  | [],_,H,Q=>Q [] H
  | (tk,tv) :: r,σ,H,Q=>tk σ H fun x H1=>tv σ H1 fun y H2=>tV r σ H2 fun ps H3=>Q ((x,y) :: ps) H3
abbrev VV:List (V × V)->List (Value × Value)->Prop:=Paired fun p q=>RelV p.1 q.1/\RelV p.2 q.2
def PPs (X:Cx)(pos:Pos)(keys:List (Option Expr))(values:List Expr)(trs:List (TE × TE)):Prop :=
 ∀ (pins:List (Addr × Obj)) (s:Shared) (σ:St) (H:Hp) (Q:List (V × V)->Hp->Prop),Inv X pins σ H s->tV trs σ H Q ->
  wpAny (model X.prog X.w) X.A (evalPairs (pairTrees keys values X.env pos)) (fun vs s'=>∃ ps H',Inv X pins σ H' s'/\VV ps vs/\Q ps H') X.xe s
theorem uT :PPs X pos [] [] []:=fun pins s σ H Q I h=>pairTrees_nil_walk ⟨[],H,I,.nil,h⟩
theorem qH {k v:Expr}{tk tv:TE}(hk:PE X k tk)(hv:PE X v tv)(hr:PPs X pos ks vs trs) :
  PPs X pos (some k :: ks) (v :: vs) ((tk,tv) :: trs):=fun pins s σ H Q I h =>
 pairTrees_cons_walk (thn (hk pins s σ H _ I h) fun u s1 ⟨x,H1,I1,rx,q1⟩=>thn (hv pins s1 σ H1 _ I1 q1) fun w2 s2 ⟨y,H2,I2,ry,q2⟩ =>
  thn (hr pins s2 σ H2 _ I2 q2) fun ws s3 ⟨ps,H3,I3,rel,q3⟩=>⟨(x,y) :: ps,H3,I3,.cons ⟨rx,ry⟩ rel,q3⟩)
def jR (kvs more:List (Key × V)):List (Key × V):=more.foldl (fun acc kv=>putK acc kv.1 kv.2) kvs
theorem KV.merge : ∀ {more:List (Key × V)} {rs:List (Key × Value)} {kvs:List (Key × V)} {vs:List (Key × Value)},KV more rs->KV kvs vs->KV (jR kvs more) (merged vs rs):=by
 intro more rs kvs vs r;unfold KV at r
 induction r generalizing kvs vs with
 | nil=>intro q; exact q
 | @cons p q ps qs h t ih =>
  intro r0;have e:KV (putK kvs p.1 p.2) (stored vs q.1 q.2):=by
   have:=r0.put p.1 h.2;rw [<- h.1]; exact this
  exact ih e
theorem fX : ∀ (more kvs:List (Key × V)),(jR kvs more).length<=kvs.length+more.length
 | [],kvs=>by show kvs.length<=kvs.length+0; omega
 | p :: r,kvs=>by
  have h1:=fX r (putK kvs p.1 p.2);have h2:=fH kvs p.1 p.2;show (jR (putK kvs p.1 p.2) r).length<=_;rw [AG]; omega
theorem jX {w:World} : ∀ {kvs:List (Key × V)} {ws:List (Value × Value)},VV (kvs.map fun kv=>(kV kv.1,kv.2)) ws->∃ rs,Carries (bF P w) ws rs/\KV kvs rs
 | [],_,r=>by rw [List.map_nil] at r; cases r; exact ⟨[],Dx,.nil⟩
 | p :: kvs,_,r=>by
  rw [Ai] at r;cases r with
  | @cons a b as bs h t =>
   obtain ⟨rs,c,q⟩:=jX (P:=P) (w:=w) t;obtain ⟨b1,b2⟩:=b;exact ⟨(p.1,b2) :: rs,⟨sW h.1,rfl,c⟩,.cons ⟨rfl,h.2⟩ q⟩
def aGk (trs:List (TE × TE)):TE:=fun σ H Q=>∀ p,H p=none->tV trs σ (upd H p (.dK [])) fun ps H2=>H2 p=some (.dK [])/\∃ kvs:List (Key × V),ps=kvs.map (fun kv=>(kV kv.1,kv.2))/\kvs.length<=15/\Q (.ref p) (upd H2 p (.dK (jR [] kvs)))
theorem vF {keys:List (Option Expr)}(h:PPs X pos keys values trs)(hall:keys.all (·.isSome)=true)(hl:keys.length=values.length)(h0:keys ≠ [])(h15:keys.length<=15):PE X (.Dict keys values pos) (aGk trs):=by
 intro pins s σ H Q I q;have hn:=I.hok.fresh (Ak s.heap.objs.size);have I1:=I.laid (a:=s.heap.objs.size) (o:=.dK []) (h':=s.heap.push { cls:=.type "dict",data:=.dict #[] }) (t':=s.toks) (fun _ _ q=>Ac _ q) (Ak _) (rF s.heap I.big);refine wpAny_Dict_walk (knd:=bF X.prog X.w) hall hl h0 h15 (thn (h pins _ σ _ _ I1 (q _ hn)) fun ws s2 ⟨ps,H2,I2,rel,e,kvs,ep,lk,q2⟩ => ?_);subst ep;obtain ⟨rs,c,rk⟩:=jX (P:=X.prog) (w:=X.w) rel;obtain ⟨z,hd,vs0,r0,dd⟩:=tF I2.hok e;cases r0;refine ⟨rs,c,dd,fun h' dd' hs=>⟨.ref s.heap.objs.size,_,?_,rfl,q2⟩⟩;have hz:(jR [] kvs).length<=Aw:=by
  have h1:=fX kvs [];rw [List.length_nil] at h1;rw [sizeLine_eq]; omega
 have he : ∃ q,h'.get? s.heap.objs.size=some q:=let ⟨q,_,_,hq,_⟩:=dd'; ⟨q,hq⟩;exact pD I2 (by rw [e]; exact Dx) hs he (aBm hz hd (rk.merge .nil) dd')
structure M1 (X:Cx)(o:Expr)(m:Str)(apos:Pos)(e:Expr)(cpos:Pos):Prop where
 base:Ed o m X.env (eval o X.env)=eval o X.env
 few:((backTo cpos (AS [e] X.env)).all (fun x => !x.1) && (backToKw cpos (keywordEach [] X.env)).all (fun x=>x.1.isSome)
  && decide (([e]:List Expr).length+([]:List Keyword).length+(if ([]:List Keyword).isEmpty then 0 else 1) < 30))=true
 line:(apos.endLine == cpos.line)=true
 trees:backTo cpos (AS [e] X.env)=[(false,eval e X.env)]
structure M2 (X:Cx)(o:Expr)(m:Str)(apos:Pos)(e f:Expr)(cpos:Pos):Prop where
 base:Ed o m X.env (eval o X.env)=eval o X.env
 few:((backTo cpos (AS [e,f] X.env)).all (fun x => !x.1) && (backToKw cpos (keywordEach [] X.env)).all (fun x=>x.1.isSome)
  && decide (([e,f]:List Expr).length+([]:List Keyword).length+(if ([]:List Keyword).isEmpty then 0 else 1) < 30))=true
 line:(apos.endLine == cpos.line)=true
 trees:backTo cpos (AS [e,f] X.env)=[(false,eval e X.env),(false,eval f X.env)]
def IsD (H:Hp)(a:Addr):Prop:=(∃ kvs,Rd H a (.dK kvs))\/∃ kvs,Rd H a (.dT kvs)
theorem aBf {σ:St}(I:Inv X pins σ H s)(d:IsD H a) :
  s.TypeIs (.ref a) "dict" /\ (∀ b,AC a = .ref b->∃ ob,s.heap.get? b=some ob/\ob.dict=none)/\(a == DG)=false:=by
 rcases d with ⟨kvs,e⟩ | ⟨kvs,e⟩
 ·obtain ⟨_,hd,vs,_,dd⟩:=xF I.hok e
  refine ⟨dd.typeIs,fun b q => ?_,hd⟩;cases q;obtain ⟨ob,_,_,h1,h2,_⟩:=dd;exact ⟨ob,h1,h2.2.1⟩
 ·obtain ⟨_,hd,xs,_,dd⟩:=xD I.hok e
  refine ⟨dd.typeIs,fun b q => ?_,hd⟩;cases q;obtain ⟨ob,_,_,h1,h2,_⟩:=dd;exact ⟨ob,h1,h2.2.1⟩
section
variable {X:Cx}{pins:List (Addr × Obj)}{σ:St}{H:Hp}{s:Shared}{a:Addr}{y d:V}{u r:Value}{o:Option V}{A:Around}{E:Value->Shared->Prop}
theorem aF1 (hu:A.units+1 < cLine)(I:Inv X pins σ H s)(g:DGet H a y o)(ry:RelV y u)(rd:RelV d r)(h : ∀ w' s',Inv X pins σ H s'->RelV (o.getD d) w'->Q w' s') :
  wpAny (model X.prog X.w) A (call (.builtin "dict.get") [.ref a,u,r]) Q E s:=by
 rcases g with ⟨kvs,k,e,ey,l⟩ | ⟨kvs,k,b,e,ey,eb,l⟩
 ·subst ey
  obtain ⟨z,hd,vs,rel,dd⟩:=xF I.hok e;refine call_meetsIn DB dd.typeIs PySem.F.entry_dict_get (PySem.F.args_dict_get_3 _ _ _) (meets_dict_get_default (bF X.prog X.w) a (sW ry) hd r) ⟨_,dd.mapOf,h _ _ (I.tok _) ?_⟩;rw [l];exact (rel.val k).getD rd
 ·subst ey
  cases (show u=AC b from ry);obtain ⟨z,hd,xs,rel,dd⟩:=xD I.hok e;refine call_meetsIn DB dd.typeIs PySem.F.entry_dict_get (PySem.F.args_dict_get_3 _ _ _) (meetsH_dict_get_default (tupleKind (bF X.prog X.w)) a b hd r) ⟨tupleKind_room_in1 hu,k,xs,qZ I.hok eb,dd,h _ _ (I.tok _) ?_⟩;rw [l];exact (rel.val k).getD rd
end
def tDGet1 (td ty:TE):TE:=fun σ H Q=>td σ H fun x H1=>∃ a,x = .ref a/\IsD H1 a/\ty σ H1 fun y H2=>∃ o,DGet H2 a y o/\Q (o.getD .non) H2
def aEd (td ty tx:TE):TE:=fun σ H Q=>td σ H fun x H1=>∃ a,x = .ref a/\IsD H1 a/\ty σ H1 fun y H2=>tx σ H2 fun z H3=>∃ o,DGet H3 a y o/\Q (o.getD z) H3
def tDPop1 (td ty:TE):TE:=fun σ H Q=>td σ H fun x H1=>∃ a,x = .ref a/\IsD H1 a/\ty σ H1 fun y H2=>∃ kvs k v,H2 a=some (.dK kvs)/\y=kV k/\valV kvs k=some v/\Q v (upd H2 a (.dK (aDt kvs k)))
def tDPop2 (td ty tx:TE):TE:=fun σ H Q=>td σ H fun x H1=>∃ a,x = .ref a/\IsD H1 a/\ty σ H1 fun y H2=>tx σ H2 fun z H3=>∃ kvs k,H3 a=some (.dK kvs)/\y=kV k /\
 (∀ v,valV kvs k=some v->Q v (upd H3 a (.dK (aDt kvs k))))/\(valV kvs k=none->Q z H3)
section
variable {X:Cx}{o e f:Expr}{apos cpos:Pos}{td ty tx:TE}
theorem qK (hu:X.A.units+1 < cLine)(ho:PE X o td)(he:PE X e ty)(hf:PE X f tx)(m:M2 X o "get" apos e f cpos):PE X (.Call (.Attribute o "get" apos) [e,f] [] cpos) (aEd td ty tx):=by
 intro pins s σ H Q I h;refine wpAny_Call_method m.base m.few m.line Fs DB PySem.F.type_dict_get (thn (ho pins s σ H _ I h) fun u s1 ⟨x,H1,I1,rx,a,ex,d,q1⟩ => ?_);subst ex;obtain rfl:u=AC a:=rx;obtain ⟨t1,t2,_⟩:=aBf I1 d;refine ⟨t1,t2,?_⟩;rw [m.trees];refine Dy rfl (EL (El (thn (he pins s1 σ H1 _ I1 q1) fun iv s2 ⟨y,H2,I2,ry,q2⟩ =>
  El (thn (hf pins s2 σ H2 _ I2 q2) fun fv s3 ⟨z,H3,I3,rz,ov,g,q3⟩=>Calls.spliced_nil ?_))))
 exact aF1 hu I3 g ry rz fun w' s4 I4 rw'=>⟨_,H3,I4,rw',q3⟩
end
section
variable {X:Cx}{pins:List (Addr × Obj)}{σ:St}{H:Hp}{s:Shared}{a:Addr}{kvs:List (Key × V)}{A:Around}{E:Value->Shared->Prop}
end
section
variable {X:Cx}{pins:List (Addr × Obj)}{σ:St}{H:Hp}{s:Shared}{a:Addr}{y:V}{u:Value}{A:Around}{E:Value->Shared->Prop}
end
theorem gC  : ∀ {us:List Value},Vals (ss.map V.str) us->EE us ss:=by
 induction ss with
 | nil=>intro us r; rw [List.map_nil] at r; cases r; exact .nil
 | cons n ns ih =>
  intro us r;rw [Ai] at r;cases r with
  | cons r1 r2 =>
   obtain ⟨t,rfl⟩:=r1;exact .cons _ _ (ih r2)
theorem eD : ∀ {us:List Value} {ss:List Str},EE us ss->Vals (ss.map V.str) us
 | _,_,.nil=>.nil
 | _,_,.cons _ _ h=>.cons ⟨_,rfl⟩ (eD h)
theorem qW {w:World}{e:Nat}(hv:Vals xs its)(hz:xs.length<=Aw)(ho:h.get? a=some (seqObj "list" its.toArray e)):ObjOk P w H h a (.lst xs):=⟨hz,its,e,hv,ho⟩
section
variable {X:Cx}
def aEy (K:Aa):List V->Hp->VK->Prop:=fun xs H Q=>∃ a,∃ ss:List Str,xs=[.ref a]/\SqL K H a (ss.map V.str)/\ss.length < 64/\∀ (p:Addr) (ss':List Str),ss'.Perm ss->sortedS ss'=true->H p=none->Q (.ref p) (upd H p (.lst (ss'.map V.str)))
theorem jY:eQ X (.builtin "sorted") (aEy X.K):=by
 intro pins s σ H xs us Q I r h;obtain ⟨a,ss,rfl,hq,h64,q⟩:=h;obtain ⟨u,rfl,rx⟩:=vals1 r;cases rx;obtain ⟨its,r',pl,hz⟩:=I.list hq;have hl:=r'.length;rw [Ag] at hl;refine sorted_strs (pl.isList) (gC r') (by omega) fun out ss' a1 a2 a3 => ?_;obtain ⟨e,he⟩:=sortedAll_at s.heap its out;refine ⟨.ref (s.heap.objs.size+1),_,I.laid (a:=s.heap.objs.size+1) (o:=.lst (ss'.map V.str)) (t':=s.toks) (fun _ _=>sortedAll_old) (Dh _) (qW (its:=out.toList) (e:=e) (eD a1) ?_ (by rw [EM]; exact he)),rfl,q _ ss' a2 a3 (I.hok.fresh (Dh _))⟩;rw [Ag,a2.length_eq];exact bL (by omega)
def rSortI (K:Aa):List V->Hp->VK->Prop:=fun xs H Q=>∃ a,∃ ns:List Int,xs=[.ref a]/\SqL K H a (ns.map V.int)/\ns.length < 64/\∀ (p:Addr) (ns':List Int),ns'.Perm ns->ns'.Pairwise (· <= ·)->H p=none->Q (.ref p) (upd H p (.lst (ns'.map V.int)))
theorem mQ {w:World} : ∀ {ss:List Str} {vs:List (Key × Value)} {acc:List Value},vs.map (·.1)=ss.map AL->acc.length=vs.length->(∀ (j:Nat) (v:Value),acc[j]?=some v->∃ k x,vs[j]?=some (k,x)/\(bF P w).is k v=true)->EE acc ss
 | [],[],[],_,_,_=>.nil
 | [],_ :: _,_,e,_,_=>by simp at e
 | _ :: _,[],_,e,_,_=>by simp at e
 | [],[],_ :: _,_,l,_=>by simp at l
 | _ :: _,_ :: _,[],_,l,_=>by simp at l
 | x :: ss,(k,y) :: vs,v :: acc,e,l,h=>by
  simp only [Ai,List.cons.injEq] at e;obtain ⟨e1,e2⟩:=e;obtain ⟨k',x',h1,h2⟩:=h 0 v rfl;simp at h1;obtain ⟨rfl,rfl⟩:=h1;subst e1;obtain ⟨t,rfl⟩:=Dm (x:=x) (v:=v) h2;exact .cons _ _ (mQ e2 (by simpa using l) fun j v hv=>h (j+1) v (by simpa using hv))
theorem oK {σ:St}(hh:A.handled=none)(I:Inv X pins σ H s)(hH:H a=some (.dK kvs))(h : ∀ (h':Heap) (tk:Nat) (acc:List Value) (vs:List (Key × Value)),KV kvs vs->acc.length=vs.length->(∀ (j:Nat) (v:Value),acc[j]?=some v->∃ k x,vs[j]?=some (k,x)/\(bF X.prog X.w).is k v=true)->(∀ b o,s.heap.get? b=some o->h'.get? b=some o) ->
   wpAny (model X.prog X.w) A.in1 (call (.builtin "list.sort") [.ref h'.objs.size]) (fun _ s'=>Q (.ref h'.objs.size) s') E { s with heap:=h'.push (seqObj "list" acc.toArray 0),toks:=tk }) :
  wpAny (model X.prog X.w) A (call (.builtin "sorted") [.ref a]) Q E s:=by
 obtain ⟨z,lo,vs,rel,dd⟩:=tF I.hok hH;obtain ⟨ep,hat⟩:=dd.dictAt;have hlen:=rel.length;refine Fi kind_sorted plain_sorted entry_sorted (args_sorted1 _) ?_;unfold AF.«sorted»;refine Ab (m:=checkCount "sorted" 1 1 _) (Af ?_);refine Ab (PySem.W.kdu_collect (A:=A.in1) (PySem.W.kdl_dict (knd:=bF X.prog X.w) (kvs:=vs) (ep:=ep) lo) hh hat (by rw [<- hlen]; exact z) fun h' tk acc hk hacc => ?_);have hl:acc.toList.length=vs.length:=by rw [BB]; exact hacc.1
 refine Ab (wpAny_newList ?_ (by rw [hl,<- hlen]; exact z));have hg:=h h' tk acc.toList vs rel hl (fun j v e=>hacc.2 j v (by rw [<- Bm]; exact e)) hk;refine Ab (Br (BV hg (fun _ s' x => ?_) fun _ _ e=>e));exact Af ⟨_,rfl,x⟩
def aCj:List V->Hp->VK->Prop:=fun xs H Q=>∃ a kvs,∃ ss:List Str,xs=[.ref a]/\H a=some (.dK kvs)/\kvs.map (·.1)=ss.map AL/\kvs.length < 64/\∀ (p:Addr) (ss':List Str),ss'.Perm ss->sortedS ss'=true->H p=none->Q (.ref p) (upd H p (.lst (ss'.map V.str)))
theorem pG (hc:X.calm=true):eQ X (.builtin "sorted") aCj:=by
 intro pins s σ H xs us Q I r h;obtain ⟨a,kvs,ss,rfl,hH,hk,h64,q⟩:=h;obtain ⟨u,rfl,rx⟩:=vals1 r;cases rx;refine oK (I.ok.hd hc) I hH fun h' tk acc vs rel hl hacc keep => ?_;have hS:=mQ (ss:=ss) (by rw [<- rel.keys]; exact hk) hl hacc;have hlen:=rel.length;have hssl:ss.length=kvs.length:=by
  have:=congrArg List.length hk;rw [Ag,Ag] at this;exact this.symm
 have hoL:(h'.push (seqObj "list" acc.toArray 0)).get? h'.objs.size=some (seqObj "list" acc.toArray 0):=Ah _ rfl;refine Bq slot_list_sort ⟨_,hoL,rfl⟩ entry_list_sort (list_sort_treeK strKind_oneLt hoL hS.keysOf (fun v₁ v₂ rest e=>keyKind_strs (by rw [<- e]; exact hS)) (by omega) fun st' hp hs=>⟨_,rfl,?_⟩) (args_list_sort _);obtain ⟨ss',a1,a2,a3⟩:=sorted_out_str hS hp hs;obtain ⟨e,he⟩ : ∃ e,(sortedHeap (h'.push (seqObj "list" acc.toArray 0)) h'.objs.size acc ((arrOf st').map (·.2))).get? h'.objs.size=some (seqObj "list" ((arrOf st').map (·.2)) e):=sortedHeap_at hoL;have I1:=I.kept (t':=tk) keep;refine ⟨.ref h'.objs.size,_,I1.laid (a:=h'.objs.size) (o:=.lst (ss'.map V.str)) (t':=tk) (fun b o hb' => ?_) (Ak _) (qW (its:=((arrOf st').map (·.2)).toList) (e:=e) (eD a1) ?_ (by rw [EM]; exact he)),rfl,q _ ss' a2 a3 (I1.hok.fresh (Ak _))⟩
 ·have lt:=Aq hb'
  rw [sortedHeap_old (Av lt) (by rw [BE]; exact Cj lt)];exact Ac _ hb'
 ·rw [Ag,a2.length_eq]
  exact bL (by omega)
def rSortDI:List V->Hp->VK->Prop:=fun xs H Q=>∃ a kvs,∃ ns:List Int,xs=[.ref a]/\H a=some (.dK kvs)/\kvs.map (·.1)=ns.map Sum.inl/\kvs.length < 64/\∀ (p:Addr) (ns':List Int),ns'.Perm ns->ns'.Pairwise (· <= ·)->H p=none->Q (.ref p) (upd H p (.lst (ns'.map V.int)))
end
variable {X:Cx}
def tRev (K:Aa)(te:TE)(tk:TO):TE:=fun σ H Q=>te σ H fun x H1=>tk σ H1 fun st H2=>st=some (-1)/\∃ a xs,x = .ref a/\SqL K H2 a xs/\∀ p,H2 p=none->Q (.ref p) (upd H2 p (.lst xs.reverse))
def tListRng (ta:TA):TE:=fun σ H Q=>ta σ H fun vs H1=>∃ i j:Int,vs=[.int i,.int j]/\(-(2 ^ 62)<=i/\i < 2 ^ 62 /\ -(2 ^ 62)<=j/\j < 2 ^ 62)/\(j - i).toNat<=1000/\∀ p,H1 p=none->Q (.ref p) (upd H1 p (.lst (rngV i (j - i).toNat)))
def tListVals (td:TE):TE:=fun σ H Q=>td σ H fun x H1=>∃ a kvs,x = .ref a/\H1 a=some (.dK kvs)/\∀ p,H1 p=none->Q (.ref p) (upd H1 p (.lst (kvs.map (·.2))))
def Itz2 (K:Aa)(a b:Addr):It :=
  ⟨fun i H=>∃ xs ys,SqT K H a xs/\SqT K H b ys/\i < xs.length/\i < ys.length,
   fun i H v H'=>∃ T,H T=none/\v = .ref T/\∀ xs ys,SqT K H a xs->SqT K H b ys->∃ x y,xs[i]?=some x/\ys[i]?=some y/\H'=upd H T (.tup [x,y]),
   fun i H=>∃ xs ys,SqT K H a xs/\SqT K H b ys/\(i=xs.length\/(i < xs.length/\i=ys.length))⟩
def aBs (n a b:Nat)(i:Nat)(h:Heap):Prop:=IsZip h (n+4) (n+2) (n+3) .none/\IsPair h (n+2) (.ref n) (.ref (n+1))/\(∃ x y,IsPair h (n+3) x y)/\h.IsTupleIter n a i/\h.IsTupleIter (n+1) b i
theorem tP {P:Ax}{w:World}{K:Aa}{es:List Expr}{k1:Nat}{p1:Pos}{n a b:Nat}(ha:a < n)(hb:b < n) :
  Turn P w K (.Tuple es k1 p1) (Itz2 K a b) [n+4,n+2,n+3,n,n+1] (n+4) (aBs n a b) where
 mem:=by simp
 obj:=fun i h st c hc=>by
  obtain ⟨c1,c2,⟨x,y,c3⟩,⟨o4,d4,_,f4⟩,⟨o5,d5,_,f5⟩⟩:=st;have hc':c=n+4\/c=n+2\/c=n+3\/c=n\/c=n+1:=by simpa using hc
  rcases hc' with e | e | e | e | e
  ·subst e; exact ⟨_,c1,fun v z=>by cases z⟩
  ·subst e; exact ⟨_,c2,fun v z=>by cases z⟩
  ·subst e; exact ⟨_,c3,fun v z=>by cases z⟩
  ·subst e; exact ⟨_,d4,fun v z=>by rw [f4] at z; cases z⟩
  ·subst e; exact ⟨_,d5,fun v z=>by rw [f5] at z; cases z⟩
 keep:=fun i h h' st k=>by
  obtain ⟨c1,c2,⟨x,y,c3⟩,c4,c5⟩:=st;exact ⟨k _ (by simp) _ c1,k _ (by simp) _ c2,⟨x,y,k _ (by simp) _ c3⟩,c4.at fun o e=>k _ (by simp) o e,c5.at fun o e=>k _ (by simp) o e⟩
 item:=by
  intro X hP hw hK hc i pins s σ H E I hf st hg;subst hP hw hK;obtain ⟨xs,ys,hx,hy,l1,l2⟩:=hg;obtain ⟨its,r1,tx,_⟩:=I.tuple hx;obtain ⟨its',r2,ty,_⟩:=I.tuple hy;have e1:=r1.length;have e2:=r2.length;obtain ⟨c1,c2,⟨x0,y0,c3⟩,c4,c5⟩:=st;have hh:X.A.in1.handled=none:=I.ok.hd hc;refine aF7 (iE hh n a (by show (_:Nat) ≠ _; omega) its.toArray) (iE hh (n+1) b (by show (_:Nat) ≠ _; omega) its'.toArray) (aBr ha hb) c1 c2 c3 ⟨c4,tx⟩ ⟨c5,ty⟩ (by rw [Aj]; omega) (by rw [Aj]; omega) fun x y T g t' px py hT cz cO s1 s2 cT kp=>⟨.ref T,rfl,?_⟩;subst hT;refine wpAny_letOwnedTupleGo_zip (s:={ s with heap:=g,toks:=t' }) cz fun g' cz' sb => ?_;obtain ⟨vx,hvx⟩ : ∃ v,xs[i]?=some v:=⟨_,Ae l1⟩;obtain ⟨vy,hvy⟩ : ∃ v,ys[i]?=some v:=⟨_,Ae l2⟩;obtain ⟨ux,hux,rx⟩:=r1.get hvx;obtain ⟨uy,huy,ry⟩:=r2.get hvy;have ex:x=ux:=by
   have:its.toArray[i]?=some x:=px;rw [<- Bm,List.toList_toArray,hux] at this;exact (AH this).symm
  have ey:y=uy:=by
   have:its'.toArray[i]?=some y:=py;rw [<- Bm,List.toList_toArray,huy] at this;exact (AH this).symm
  subst ex ey;have hfr:H s.heap.objs.size=none:=I.hok.fresh (Ak _);have I0:Inv X pins σ (upd H s.heap.objs.size (.tup [vx,vy])) { s with heap:=s.heap.push { cls:=.type "tuple",data:=.seq #[x,y] },toks:=t' } :=
   I.laid (fun c u q=>Ac _ q) (Ak _) ⟨⟨by show 2<=Aw; decide,_,Ah s.heap rfl,rfl⟩,[x,y],.cons rx (.cons ry .nil),⟨_,Ah s.heap rfl,rfl,_,rfl⟩⟩
  have lz:n+4 < s.heap.objs.size:=Aq c1;have fpn : ∀ c ∈ [n+4,n+2,n+3,n,n+1],c ≠ s.heap.objs.size:=fun c hc'=>by
   have hc'':c=n+4\/c=n+2\/c=n+3\/c=n\/c=n+1:=by simpa using hc'
   rcases hc'' with e | e | e | e | e <;> (subst e; exact Av (by omega))
  have hf0 : ∀ c ∈ [n+4,n+2,n+3,n,n+1],FpOk X pins (upd H s.heap.objs.size (.tup [vx,vy])) c:=fun c hc'=>⟨by rw [aI (fpn c hc')]; exact (hf c hc').1,(hf c hc').2⟩;have I1:Inv X pins σ (upd H s.heap.objs.size (.tup [vx,vy])) { s with heap:=g',toks:=t' }:=by
   refine Inv.turnedL (s:={ s with heap:=s.heap.push { cls:=.type "tuple",data:=.seq #[x,y] },toks:=t' }) (h':=g') (t':=t') (ch:=[n+4,n+2,n+3,n,n+1]) I0 (fun c o hc' e => ?_) hf0;replace e:(s.heap.push { cls:=.type "tuple",data:=.seq #[x,y] }).get? c=some o:=e;have hn : ∀ d ∈ [n+4,n+2,n+3,n,n+1],c ≠ d:=fun d hd z=>hc' (by rw [z]; exact hd);refine sb.extBut _ _ (hn _ (by simp)) ?_
   by_cases ec:c=s.heap.objs.size
   ·rw [ec] at e ⊢
    rw [Ah s.heap rfl] at e;cases e;exact cT
   ·rw [Ey _ _ _ ec] at e
    exact kp c o (hn _ (by simp)) (hn _ (by simp)) (hn _ (by simp)) (hn _ (by simp)) e
  refine ⟨.ref s.heap.objs.size,_,I1,rfl,⟨_,hfr,rfl,fun xs' ys' hx' hy'=>⟨vx,vy,by rw [I.tuple_inj hx' hx]; exact hvx,by rw [I.tuple_inj hy' hy]; exact hvy,rfl⟩⟩,?_,fun c hc'=>(hf0 c hc').1⟩;have nz : ∀ d:Nat,d < n+4->d ≠ n+4:=fun d hd=>Av hd;exact ⟨cz',sb.extBut _ _ (nz _ (by omega)) (kp _ _ (nz _ (by omega)) (by show (_:Nat) ≠ _; omega) (by show (_:Nat) ≠ _; omega) (by show (_:Nat) ≠ _; omega) c2),⟨x,y,sb.extBut _ _ (nz _ (by omega)) cO⟩,s1.1.extBut sb.extBut (nz _ (by omega)),s2.1.extBut sb.extBut (nz _ (by omega))⟩
 done:=by
  intro X hP hw hK hc i pins s σ H E I hf st hg;subst hP hw hK;obtain ⟨xs,ys,hx,hy,l⟩:=hg;obtain ⟨its,r1,tx,_⟩:=I.tuple hx;obtain ⟨its',r2,ty,_⟩:=I.tuple hy;have e1:=r1.length;have e2:=r2.length;obtain ⟨c1,c2,⟨x0,y0,c3⟩,c4,c5⟩:=st;have hh:X.A.in1.handled=none:=I.ok.hd hc;refine tM (iE hh n a (by show (_:Nat) ≠ _; omega) its.toArray) (iE hh (n+1) b (by show (_:Nat) ≠ _; omega) its'.toArray) (aBr ha hb) c1 c2 c3 ⟨c4,tx⟩ ⟨c5,ty⟩ (by rw [Aj,Aj]; omega) fun g t' kp=>⟨rfl,I.turnedL (ch:=[n+4,n+2,n+3,n,n+1]) (fun c o hc' e => ?_) hf⟩;have hn : ∀ d ∈ [n+4,n+2,n+3,n,n+1],c ≠ d:=fun d hd z=>hc' (by rw [z]; exact hd);exact kp c o (hn _ (by simp)) (hn _ (by simp)) (hn _ (by simp)) (hn _ (by simp)) e
 self:=fun _ _ _ _ _ st h=>wpAny_pyIter_zip st.1 h
abbrev yo1 (h:Heap)(a:Addr):Heap:=h.push { cls:=.type "tuple_iterator",data:=.fields #[.ref a,.int 0 0] }
abbrev yo2 (h:Heap)(a b:Addr):Heap:=(yo1 h a).push { cls:=.type "tuple_iterator",data:=.fields #[.ref b,.int 0 0] }
abbrev yo3 (h:Heap)(a b:Addr):Heap:=(yo2 h a b).push { cls:=.type "tuple",data:=.seq #[.ref h.objs.size,.ref (yo1 h a).objs.size] }
abbrev yo4 (h:Heap)(a b:Addr):Heap:=(yo3 h a b).push { cls:=.type "tuple",data:=.seq #[.none,.none] }
abbrev yo5 (h:Heap)(a b:Addr):Heap:=(yo4 h a b).push { cls:=.type "zip",data:=.fields #[.none,.bool false,.bool false,.ref (yo2 h a b).objs.size,.ref (yo3 h a b).objs.size] }
theorem yG (a b:Addr)(xs ys:Array Value):Meets (AF.«zip.__new__» ⟨[.type "zip",.ref a,.ref b],[]⟩) (fun _ R s=>s.heap.IsTuple a xs/\s.heap.IsTuple b ys/\R (.ok (.ret (.ref (yo4 s.heap a b).objs.size))) { s with heap:=yo5 s.heap a b }):=.of_wp fun prog w A R s h=>by
 obtain ⟨hp,g,d,tk,os⟩:=s;obtain ⟨q1,q2,q⟩:=h;have hsub:=sub_zip;have u1:Heap.IsTuple (Shared.heap ⟨hp,g,d,tk,os⟩) a xs:=q1;have u2:Heap.IsTuple (Shared.heap ⟨hp.push { cls:=.type "tuple_iterator",data:=.fields #[.ref a,.int 0 0] },g,d,tk,os⟩) b ys:=Heap.IsTuple.push q2 _
 wp_walk using EB u1,EB u2
 exact ⟨_,rfl,q⟩
theorem tI {w:World}(q1:s.heap.IsTuple a xs)(q2:s.heap.IsTuple b ys)(q : ∀ g,aBs s.heap.objs.size a b 0 g->(∀ c o,s.heap.get? c=some o->g.get? c=some o)->Q (.ref (s.heap.objs.size+4)) { s with heap:=g }):wpAny (model prog w) A (call (.type "zip") [.ref a,.ref b]) Q E s:=by
 refine callType_new F.called_zip (by decide) (F.typeCall_zip_2 _ _) (F.newCall_zip_2 _ _) (fun obj=>F.args_object_init_3 obj _ _) F.entry_zip_new (yG a b xs ys) ⟨q1,q2,?_⟩;have z1:(yo1 s.heap a).objs.size=s.heap.objs.size+1:=BE ..;have z2:(yo2 s.heap a b).objs.size=s.heap.objs.size+2:=by rw [BE,z1]
 have z3:(yo3 s.heap a b).objs.size=s.heap.objs.size+3:=by rw [BE,z2]
 have z4:(yo4 s.heap a b).objs.size=s.heap.objs.size+4:=by rw [BE,z3]
 have o5:(yo5 s.heap a b).get? (yo4 s.heap a b).objs.size=some _:=Ah _ rfl;have o4:(yo5 s.heap a b).get? (yo3 s.heap a b).objs.size=some _:=Ac _ (Ah _ rfl);have o3:(yo5 s.heap a b).get? (yo2 s.heap a b).objs.size=some _:=Ac _ (Ac _ (Ah _ rfl));have o2:(yo5 s.heap a b).get? (yo1 s.heap a).objs.size=some _:=Ac _ (Ac _ (Ac _ (Ah _ rfl)));have o1:(yo5 s.heap a b).get? s.heap.objs.size=some _:=Ac _ (Ac _ (Ac _ (Ac _ (Ah _ rfl))));rw [z2,z3,z4] at o5;rw [z1,z2] at o3;rw [z3] at o4;rw [z1] at o2;show _/\_;rw [z4];exact ⟨⟨_,o5,rfl⟩,q _ ⟨o5,o3,⟨_,_,o4⟩,⟨_,o1,rfl,rfl⟩,⟨_,o2,rfl,rfl⟩⟩ fun c o x=>Ac _ (Ac _ (Ac _ (Ac _ (Ac _ x))))⟩
def aG8 (K:Aa)(ta:TA):TI:=fun σ H R=>ta σ H fun vs H1=>∃ a b,vs=[.ref a,.ref b]/\(∃ xs,SqT K H1 a xs)/\(∃ ys,SqT K H1 b ys)/\R (Itz2 K a b) H1
theorem aCp {k1:Nat}{p pos:Pos}(hg:Gl X "zip")(hm:X.mg "zip" = none)(ha:PA X [e1,e2] ta)(hs:AS [e1,e2] X.env=[(false,eval e1 X.env),(false,eval e2 X.env)]:=by rfl)(hs2:AS [e2] X.env=[(false,eval e2 X.env)]:=by rfl) :
  PI X (.Tuple es k1 p1) (.Call (.Name "zip" p) [e1,e2] [] pos) (aG8 X.K ta):=by
 intro pins s σ H R I h;refine Call_ (iZ I hg hm aF2 (Dp (thn (ha pos pins s σ H _ I h) fun us s1 ⟨vs,H1,I1,r1,q1⟩ => ?_) (by rw [hs,hs2]) (by rw [hs2]; rfl)));obtain ⟨a,b,rfl,⟨xs,hx⟩,⟨ys,hy⟩,q⟩:=q1;cases r1 with
 | cons r rr =>
  cases rr with
  | cons r' rr =>
   cases rr;cases r;cases r';obtain ⟨its,_,tx,_⟩:=I1.tuple hx;obtain ⟨its',_,ty,_⟩:=I1.tuple hy;have la:a < s1.heap.objs.size:=by obtain ⟨o,e,_⟩:=tx; exact Aq e
   have lb:b < s1.heap.objs.size:=by obtain ⟨o,e,_⟩:=ty; exact Aq e
   refine tI tx (ty) fun g st kp=>wpAny_pyIter_zip st.1 ?_;have I2:Inv X pins σ H1 { s1 with heap:=g }:=I1.kept (t':=s1.toks) kp;refine ⟨s1.heap.objs.size+4,_,_,_,H1,rfl,I2,tP la lb,st,fun c hc => ?_,q⟩;refine I1.fpOk ?_ (I1.hok.fresh ?_)
   all_goals
    have hc':c=s1.heap.objs.size+4\/c=s1.heap.objs.size+2\/c=s1.heap.objs.size+3\/c=s1.heap.objs.size\/c=s1.heap.objs.size+1:=by simpa using hc
    rcases hc' with e | e | e | e | e <;> (subst e; omega)
variable {X:Cx}
def rListD:List V->Hp->VK->Prop:=fun xs H Q=>∃ a kvs,∃ ss:List Str,xs=[.ref a]/\H a=some (.dK kvs)/\kvs.map (·.1)=ss.map AL/\∀ p,H p=none->Q (.ref p) (upd H p (.lst (ss.map V.str)))
def tListRng3 (ta:TA):TE:=fun σ H Q=>ta σ H fun vs H1=>∃ i j c:Int,vs=[.int i,.int j,.int c]/\(-(2 ^ 20)<=i/\i < 2 ^ 20 /\ -(2 ^ 20)<=j/\j < 2 ^ 20/\1<=c/\c < 2 ^ 20)/\(j - i) / c<=900 /\
 ∀ p (ms:List Int),(∀ x ∈ ms,i<=x/\x < j)->(ms.length:Int)<=max 0 ((j - i - 1) / c+1)->H1 p=none->Q (.ref p) (upd H1 p (.lst (ms.map V.int)))
variable {X:Cx}
theorem Inv.freeze {σ:St}(I:Inv X pins σ H s)(hH:H d=some (.dK kvs))(ho:s.heap.get? d=some ob) :
  Inv X pins σ (upd H d (.frz ob (.dK kvs))) s:=by
 have nd : ∀ b u,H b=some u->u ≠ .dK kvs->b ≠ d:=fun b u e n z=>by
  rw [z,hH] at e;exact n (AH e).symm
 refine I.step (g':=s.gens) (d':=s.drawn) (t':=s.toks) (h':=s.heap) (ch:=[]) (fun _ z=>nomatch z) (fun b o _ _ _ e _=>e) (fun b o _ _ _ e _=>⟨o.slots,e⟩) (fun b o _ e n => ?_) (fun b o _ e=>⟨o,e⟩) (fun b xs e => ?_) (fun b o u e => ?_) (fun b ps e=>⟨#[],?_⟩) (fun m hm=>hm) (fun b u e => ?_) I.bare
 ·rw [aI (fun z=>by rw [z,hH] at n; cases n)]
  exact n
 ·rw [aI (nd b _ e (by intro z; cases z))]
  exact e
 ·rw [aI (nd b _ e (by intro z; cases z))]
  exact e
 ·rw [aI (nd b _ e (by intro z; cases z)),e]
  simp
 ·have st : ∀ {a:Addr} {u:HO},ObjOk X.prog X.w H s.heap a u->ObjOk X.prog X.w (upd H d (.frz ob (.dK kvs))) s.heap a u:=fun x =>
   x.stay (fun c v _ q=>q) (fun c q=>by rw [aI (nd c _ q (by intro z; cases z))]; exact q) fun c xs q=>by rw [aI (nd c _ q (by intro z; cases z))]; exact q
  by_cases e':b=d
  ·subst e'
   rw [aB] at e;cases e;exact ⟨ho,st (I.hok b _ hH)⟩
  ·rw [aI e'] at e
   exact st (I.hok b u e)
def Itd (d:Addr)(ob:Obj)(kvs:List (Key × V)):It :=
 ⟨fun i H=>H d=some (.frz ob (.dK kvs))/\i < kvs.length,fun i H v H'=>H'=H/\∃ kv,kvs[i]?=some kv/\v=kV kv.1,fun i H=>H d=some (.frz ob (.dK kvs))/\kvs.length<=i⟩
theorem aDo {w:World}{k:Key}(h:(bF P w).is k v=true):RelV (kV k) v:=by
 cases k with
 | inl n =>
  obtain ⟨t,rfl⟩:=Value.isInt_shape (k:=n) (v:=v) h;exact ⟨t,rfl⟩
 | inr x =>
  obtain ⟨t,rfl⟩:=Dm (x:=x) (v:=v) h;exact ⟨t,rfl⟩
theorem tR {P:Ax}{w:World}{K:Aa}{tg:Expr}(d it:Addr)(ob:Obj)(kvs:List (Key × V))(vs:List (Key × Value))(ep:Nat)(rel:KV kvs vs)(hob : ∀ h:Heap,h.get? d=some ob->h.DictAt (bF P w) d vs ep) :
  Turn P w K tg (Itd d ob kvs) [it] it (fun i h=>h.IsKeyIter it d i vs.length ep) where
 mem:=by simp
 obj:=fun i h st b hb=>by
  have e:b=it:=by simpa using hb
  subst e;obtain ⟨o,e,c,d⟩:=st;exact ⟨o,e,fun v z=>by rw [d] at z; cases z⟩
 keep:=fun i h h' st k=>st.at fun o e=>k it (by simp) o e
 item:=by
  intro X hP hw hK hc i pins s σ H E I hf st hg;subst hP hw hK;obtain ⟨hfz,hi⟩:=hg;have ho:s.heap.get? d=some ob:=(show ObjOk X.prog X.w H s.heap d (.frz ob (.dK kvs)) from I.hok d _ hfz).1;have hat:=hob _ ho;have hl:=rel.length;obtain ⟨⟨k,x⟩,hx⟩ : ∃ p,vs[i]?=some p:=⟨_,Ae (by omega)⟩;obtain ⟨f0,f1,f2,f3,f4,f5⟩:=hf it (by simp);refine wpAny_pyNext_dict_item st hat hx fun key h' hkey st' sb => ?_;have I1:Inv X pins σ H { s with heap:=h' }:=I.turned (t':=s.toks) (fun b o hb e=>(sb.2 b hb).trans e) f0 f1 f3 f4 f5;obtain ⟨kv,hkv⟩ : ∃ kv,kvs[i]?=some kv:=⟨_,Ae hi⟩;have ek:kv.1=k:=by
   have:=congrArg (fun l=>l[i]?) rel.keys;simp only [As,hkv,hx,Dj] at this;exact AH this
  obtain ⟨o,e,c,d'⟩:=id st';exact ⟨key,rfl,wW (s:={ s with heap:=h' }) e c d' (by decide) ⟨kV k,H,I1,aDo hkey,⟨rfl,kv,hkv,by rw [ek]⟩,st',fun b hb=>(hf b hb).1⟩⟩
 done:=by
  intro X hP hw hK hc i pins s σ H E I hf st hg;subst hP hw hK;obtain ⟨hfz,hi⟩:=hg;have ho:s.heap.get? d=some ob:=(show ObjOk X.prog X.w H s.heap d (.frz ob (.dK kvs)) from I.hok d _ hfz).1;have hat:=hob _ ho;have hl:=rel.length;obtain ⟨f0,f1,f2,f3,f4,f5⟩:=hf it (by simp);exact wpAny_pyNext_dict_end (I.ok.hd hc) st hat (Bp (by omega)) fun h' eb=>⟨rfl,I.turned (t':=s.toks) (fun b o hb e=>eb b o hb e) f0 f1 f3 f4 f5⟩
 self:=fun _ _ _ _ _ st h=>wpAny_pyIter_keyiter st h
def aHc (tl:TE):TI:=fun σ H R=>tl σ H fun x H1=>∃ d kvs,x = .ref d/\H1 d=some (.dK kvs)/\∀ ob,R (Itd d ob kvs) (upd H1 d (.frz ob (.dK kvs)))
theorem vB {tg l:Expr}{tl:TE}(hl:PE X l tl):PI X tg l (aHc tl):=by
 intro pins s σ H R I h;refine thn (hl pins s σ H _ I h) fun v s1 ⟨x,H1,I1,r1,q1⟩ => ?_;obtain ⟨d,kvs,e,hH,q⟩:=q1;subst e;cases r1;obtain ⟨z,lo,vs,rel,dd⟩:=tF I1.hok hH;obtain ⟨ep,hat⟩:=dd.dictAt;obtain ⟨ob,es,ho,rest⟩:=id hat;refine wpAny_pyIter_dict lo hat ?_;have I2:=I1.freeze hH ho;refine ⟨s1.heap.objs.size,[s1.heap.objs.size],_,_,_,rfl,I2.kept (t':=s1.toks) fun b o e=>Ac _ e,tR d _ ob kvs vs ep rel (fun h e=>⟨ob,es,e,rest⟩),⟨_,Ah _ rfl,rfl,rfl⟩,fun b hb => ?_,q ob⟩;have e:b=s1.heap.objs.size:=by simpa using hb
 subst e;exact I2.fpOk (Ak _) (I2.hok.fresh (Ak _))
theorem aAk {d:Addr}{ob:Obj}{kvs:List (Key × V)}{g:TG}{tb:TS}{D:Ends}{σ:St}{H:Hp}(Pv:Nat->St->Hp->Prop)(h0:Pv 0 σ H)(hl : ∀ i σ H,i<=kvs.length->Pv i σ H->H d=some (.frz ob (.dK kvs)))
  (hs : ∀ i kv σ H,kvs[i]?=some kv->Pv i σ H->g (kV kv.1) σ H fun σ2 H2=>tb { D with nx:=Pv (i+1),ct:=Pv (i+1),bk:=D.nx } σ2 H2) (hd : ∀ σ H,Pv kvs.length σ H->D.nx σ H) :
  ∃ W:Nat->Nat->St->Hp->Prop,(∃ m,W 0 m σ H)/\∀ i m σ H,W i m σ H ->
   ((Itd d ob kvs).stop i H/\D.nx σ H)\/((Itd d ob kvs).go i H/\∃ N:St->Hp->Prop,(∀ σ' H',N σ' H'->∃ m',m' < m/\W (i+1) m' σ' H')/\∀ v H',(Itd d ob kvs).yld i H v H'->g v σ H' fun σ2 H2=>tb { D with nx:=N,ct:=N,bk:=D.nx } σ2 H2):=by
 refine ⟨fun i m σ H=>m=kvs.length - i/\i<=kvs.length/\Pv i σ H,⟨kvs.length,by simp,BM _,h0⟩,?_⟩
 rintro i m σ H ⟨rfl,hi,p⟩
 have q:=hl i σ H hi p
 by_cases hlt:i < kvs.length
 ·refine .inr ⟨⟨q,hlt⟩,Pv (i+1),fun σ' H' p'=>⟨kvs.length - (i+1),by omega,rfl,hlt,p'⟩,fun v H' y => ?_⟩
  obtain ⟨rfl,kv,hkv,rfl⟩:=y;exact hs i kv σ H' hkv p
 ·have e:i=kvs.length:=by omega
  subst e;exact .inl ⟨⟨q,Ak _⟩,hd σ H p⟩
end L2
namespace L2
open PySem PySem.Spec PyProof.Rows PySem.W
def lO (CX:CXT)(X:Cx)(σ:St)(E:XK):Prop:=∀ (pins:List (Addr × Obj)) (H:Hp) (s:Shared) (e:Value) (s':Shared),Inv X pins σ H s->CX X.stack H s E e s'->X.xe e s'
section
variable {X:Cx}
theorem aCh {k:Nat}{σ:St}(F:FnOk X.prog X.w X.K X.mg X.base CX k f fd ps sp)(hr:Room k X.A)(hb:Binds X.K fd ps [])(hx:lO CX X σ E)(I:Inv X pins σ H s)(r:Vals vs us)(h:sp (vs ++ []) H Q E):wpAny (model X.prog X.w) X.A (call (.ref f) us) (EP X pins σ Q) X.xe s:=by
 have r2:Vals (vs ++ []) (us ++ []):=r.append .nil;have hl:(us ++ []).length=ps.length:=by rw [<- r2.length]; exact F.len _ _ _ _ h
 refine Ew (Ck (F.run X.A X.stack s H ⟨us,[]⟩ (us ++ []) (vs ++ []) Q E hr I.env0 (hb s us I.kIn hl) r2 h) fun r s' hq => ?_);cases r with
 | error e=>exact hx pins H s e s' I hq
 | ok fl =>
  cases fl with
  | ret u=>exact I.after hq
  | next=>exact CD hq
  | brk=>exact CD hq
  | cont=>exact CD hq
theorem aCv {k:Nat}{p pos:Pos}{σ:St}(C:Cal X.prog X.w X.K X.mg X.base CX k x ps sp)(hr:Room k X.A)(hg:Gl X x)(hx:lO CX X σ E)(ha:PA X (e :: es) t)(hdb:(x == ("__debug__" : Str))=false:=by decide)(he:AS (e :: es) X.env=(false,eval e X.env) :: AS es X.env:=by rfl)(hpl:(backTo pos (AS es X.env)).any (·.1)=false:=by rfl) :
  PE X (.Call (.Name x p) (e :: es) [] pos) (fun σ' H Q=>σ'=σ/\aB1 sp [] E t σ' H Q):=by
 obtain ⟨f,fd,hm,hk,hb,F⟩:=C.ex;intro pins s σ' H Q I h;obtain ⟨es',h⟩:=h;subst es';refine Dk (eU I hg hm ?_ hdb);refine Eh (h₀:=X.base) I.ok.mod.kin hk (thn (ha pos pins s σ' H _ I h) fun us s1 ⟨vs,H1,I1,r,q⟩=>⟨I1.kIn,?_⟩) he hpl;exact aCh F hr hb hx I1 r q
def aGa (K:Frag)(i j:Nat)(Dc:Addr)(tb:St->XK->TS):TS:=fun D σ H=>tb σ (fun cls dd H'=>∃ C,cls = .ref C/\ExK K C/\subIn K (.ref C) (.ref Dc)=some true/\∀ a,H' a=none->D.nx (((σ.set i (some (.ref a))).set j (some (.ref a))).set i none) (upd H' a (excD a C dd))) D σ H
theorem aCm {i j:Nat}(O:OwnF X)(hg:Gl X d)(hm:X.mg d=some (.ref Dc))(F:CtK X.K Dc)(hN:X.N.Nodup)(hi:X.N[i]?=some n)(hki:X.env.scope.names.lookup n=some .local)(hj:X.N[j]?=some y)(hkj:X.env.scope.names.lookup y=some .local)(hij:i ≠ j)(hb : ∀ (pins:List (Addr × Obj)) (E':Value->Shared->Prop) (σ:St) (Ec:XK),lO (CXg X.prog X.w) (X.trying pins E') σ Ec->PSs (X.trying pins E') body (tb σ Ec))(hdb:(d == ("__debug__" : Str))=false:=by decide)(hnb:(n == ("__debug__" : Str))=false:=by decide)(hnc:(n == ("__classdict__" : Str))=false:=by decide)(hs:swapsWith (.Name n np) (some (.Name y py)) apos.line X.env=pure false:=by rfl) :
  PS X (.Try body [.ExceptHandler (some (.Name d dp)) (some n) [.Assign [.Name y py] (.Name n np) apos] hpos] [] [] pos) (aGa X.K i j Dc tb):=by
 intro pins s σ H D I h;refine wpAny_Try_except (BV (hb pins _ σ _ ?hp [] s σ H D (I.trying _) h) (fun f s1 z => ?_) fun _ _ z=>z)
 case hp =>
  intro pl Hc sc e s' I0 hx;have I1:Inv X pins σ Hc sc:=I0.tried;obtain ⟨ea,C,dd,H',rfl,Fl,C',e1,FK,hsub,hk⟩:=hx;cases e1;obtain ⟨B,hok,fl,bk,th⟩:=Fl.fl;have hfr:X.A.frames=some (X.env :: X.outer):=by rw [<- O.stk]; exact I1.ok.frames
  have fl':FlyD B (X.env :: X.outer) ea (.ref C) dd .none s'.heap:=by rw [<- O.stk]; exact fl
  have hBe:B.get? ea=none:=fl.no;refine aFe hfr O.fr fl' fun h4 held4 up4 => ?_;refine lG held4 fun h5 fl5 up5 => ?_;have mk : ∀ h6:Heap,B.StaysIn h6->s'.heap.UpToSlots h6->Inv X pins σ H' { s' with heap:=h6 }:=fun h6 st up =>
   I1.call' (s':={ s' with heap:=h6 }) (ch:=[]) Fl.os (aBw I1 Fl.un bk th st up) (hok.kept st) Fl.bare (by simp)
  have I5:=mk h5 fl5.st (up4.trans up5);obtain ⟨ob,_,hob,hobc,_,_⟩:=fl5.at;refine wpAny_handleBy_cons (codeAny_handlers_test (eU (I5.within (.ref ea)) hg hm ?_ hdb)) (by intro q; cases q);refine pB I5.kIn ⟨hob,hobc⟩ F hsub ?_;refine codeAny_handlers_suite_as ?_;refine lG fl5 fun h6 fl6 up6 => ?_;have I6:=mk h6 fl6.st ((up4.trans up5).trans up6);obtain ⟨ob6,ws,hob6,hobc6,hobdd,hobd6⟩:=fl6.at;have nfr:ea ∉ frs X.stack:=fun z=>by
   obtain ⟨_,o',ho',hnf⟩:=I6.stack.mem z;rw [hob6] at ho';cases ho';exact hnf ws hobd6
  have nsc:sc.heap.get? ea=none:=by
   cases q:sc.heap.get? ea with
   | none=>rfl
   | some o =>
    obtain ⟨o',e'⟩:=th ea o q nfr;rw [hBe] at e';cases e'
  have nH:H' ea=none:=by
   cases q:H' ea with
   | none=>rfl
   | some o =>
    exfalso;have lt:=hok.lt q;obtain ⟨o',e'⟩ : ∃ o',B.get? ea=some o':=by
     exact zY (hok ea o q)
    rw [hBe] at e';cases e'
  have n0:X.s₀.heap.get? ea=none:=by
   cases q:X.s₀.heap.get? ea with
   | none=>rfl
   | some o =>
    obtain ⟨o',e'⟩:=I1.base.there ea o q (by rw [O.ex]; simp);rw [nsc] at e';cases e'
  have nL:ea ≠ X.env.locals:=fun z=>by
   obtain ⟨m,⟨oL,_,_,hoL,_⟩,_⟩:=I1.loc;rw [<- z,nsc] at hoL;cases hoL
  have I7:Inv X pins σ (upd H' ea (excD ea C dd)) { s' with heap:=h6 }:=I6.track nH n0 nL
   (fun x c q z=>by obtain ⟨v,o,ho,_⟩:=I1.cell x c q; rw [z,nsc] at ho; cases ho)
   (fun p q z=>by have:=(I1.pin p q).1; rw [z,nsc] at this; cases this)
   ⟨⟨ob6,⟨hob6,hobc6⟩,hobdd,_,hobd6⟩,⟨ob6,hob6⟩,fun h1 h2 ⟨o,ho,hd⟩ k=>⟨o,⟨k o ho.at_,ho.cls⟩,hd⟩⟩
  have J:=I7.within (.ref ea);refine fJ (X:=X.within (.ref ea)) J hN hi (.inl hki) (show RelV (.ref ea) (.ref ea) from rfl) (fun s8 I8 => ?_) (.inr hki);have hiσ:i < σ.length:=by rw [I1.len]; exact (Ad.mp hi).1
  have z:=aE (aL (X:=X.within (.ref ea)) (pos:=apos) (pos':=py) (i:=j) hN hj (.inl hkj) (vC (X:=X.within (.ref ea)) (pos:=np) hi (.inl hki) hnb hnc) hs (.inr hkj)) pins s8 (σ.set i (some (.ref ea))) (upd H' ea (excD ea C dd))
   { nx:=fun σ9 H9=>σ9=(σ.set i (some (.ref ea))).set j (some (.ref ea))/\H9=upd H' ea (excD ea C dd),rt:=fun _ _=>False } I8 ⟨_,BY hiσ,rfl,rfl⟩
  refine BV z (fun f s9 hf => ?_) (fun _ _ q=>q.elim);cases f with
  | next =>
   obtain ⟨σ9,H9,I9,rfl,rfl⟩:=hf;refine wD (I9.without I1.ok) hN hi hki fun s10 I10 => ?_;exact ⟨_,_,I10,hk ea nH⟩
  | brk=>obtain ⟨_,_,_,q⟩:=hf; exact q.elim
  | cont=>obtain ⟨_,_,_,q⟩:=hf; exact q.elim
  | ret u=>obtain ⟨_,_,_,_,_,q⟩:=hf; exact q.elim
 ·have z':=SP.tried z
  cases f with
  | next=>exact Fo z'
  | brk=>exact z'
  | cont=>exact z'
  | ret u=>exact z'
end
end L2
namespace L2
open PySem PySem.Spec PyProof.Rows
variable {X:Cx}
def rSortDSR:List V->Hp->VK->Prop:=fun xs H Q=>∃ a kvs,∃ ss:List Str,xs=[.ref a]/\Rd H a (.dK kvs)/\kvs.map (·.1)=ss.map AL/\kvs.length < 64/\∀ (p:Addr) (ss':List Str),ss'.Perm ss->sortedS ss'=true->H p=none->Q (.ref p) (upd H p (.lst (ss'.map V.str)))
def tListValsR (td:TE):TE:=fun σ H Q=>td σ H fun x H1=>∃ a kvs,x = .ref a/\Rd H1 a (.dK kvs)/\∀ p,H1 p=none->Q (.ref p) (upd H1 p (.lst (kvs.map (·.2))))
def Fz (H H':Hp):Prop:=∀ b o,H b=some o->H' b=some o\/∃ ob kvs,o = .dK kvs/\H' b=some (.frz ob (.dK kvs))
def Hld (d:Addr)(ob:Obj)(kvs:List (Key × V))(H H':Hp):Prop:=H' d=some (.frz ob (.dK kvs))/\(∀ b,b ≠ d->H' b=H b)/\(H d=some (.dK kvs)\/H d=some (.frz ob (.dK kvs)))
section
variable {X:Cx}
def iDictR (tl:TE):TI:=fun σ H R=>tl σ H fun x H1=>∃ d kvs,x = .ref d/\Rd H1 d (.dK kvs)/\∀ ob H2,Hld d ob kvs H1 H2->R (Itd d ob kvs) H2
def rDictD:List V->Hp->VK->Prop:=fun xs H Q=>∃ a kvs,xs=[.ref a]/\Rd H a (.dK kvs)/\∀ p,H p=none->Q (.ref p) (upd H p (.dK kvs))
def DDeq (K:Aa)(H:Hp)(ka kb:List (Key × V)):Prop:=ka.length=kb.length/\∀ kv ∈ ka,∃ v' d,valV kb kv.1=some v'/\Dv K H 30 kv.2 d/\Dv K H 30 v' d
def rNeDD (K:Aa):R2:=fun x y H Q=>∃ a b ka kb,x = .ref a/\y = .ref b/\Rd H a (.dK ka)/\Rd H b (.dK kb)/\DDeq K H ka kb/\Q (.bl false) H
def rEqDD (K:Aa):R2:=fun x y H Q=>∃ a b ka kb,x = .ref a/\y = .ref b/\Rd H a (.dK ka)/\Rd H b (.dK kb)/\DDeq K H ka kb/\Q (.bl true) H
end
def EqIn (P:Ax)(w:World)(A:Around)(s:Shared)(y x:Value):Prop:=∀ (E:Value->Shared->Prop) (Q:Bool->Shared->Prop),Q true s->wpAny (model P w) A (eqBool y x) Q E s
section
open AutoSeq1 MeetsSeq MeetsSeq2 MeetsSeq3 SeqAt
variable {P:Ax}{w:World}
end
section
variable {X:Cx}
def rNeLD (K:Aa):R2:=fun x y H Q=>∃ a b xs ys,x = .ref a/\y = .ref b/\SqL K H a xs/\SqL K H b ys/\xs.length=ys.length /\
 (∀ (j:Nat) x y,xs[j]?=some x->ys[j]?=some y->∃ da db ka kb,x = .ref da/\y = .ref db/\Rd H da (.dK ka)/\Rd H db (.dK kb)/\DDeq K H ka kb)/\Q (.bl false) H
end
end L2
namespace HT
open PySem PyProof.Rows
def lexLtS:List Str->List Str->Bool
 | [],[]=>false
 | [],_ :: _=>true
 | _ :: _,[]=>false
 | x :: xs,y :: ys=>if x=y then lexLtS xs ys else decide (x.cps.toList < y.cps.toList)
theorem lexLtS_cons (x y:Str)(xs ys:List Str):lexLtS (x :: xs) (y :: ys)=if x=y then lexLtS xs ys else decide (x.cps.toList < y.cps.toList):=rfl
section
open PySem.SeqAt
open PySem.AutoSeq1 (wpAny_loadPart')
open PySem.MeetsSeq PySem.MeetsSeq2 PySem.MeetsSeq3
end
section
variable {prog:Ax}{w:World}{A:Around}{E:Value->Shared->Prop}{s:Shared}
end
end HT
namespace L2
open PySem PySem.Spec PyProof.Rows
section
variable {X:Cx}
def rLtTS (K:Aa):R2:=fun x y H Q=>∃ a b ns ms,x = .ref a/\y = .ref b/\SqT K H a (ns.map V.str)/\SqT K H b (ms.map V.str)/\Q (.bl (HT.lexLtS ns ms)) H
end
end L2
namespace HT
open PySem PySem.Spec PyProof.Rows
section
variable {prog:Ax}{w:World}{A:Around}{E:Value->Shared->Prop}{s:Shared}
theorem cat_tup0 {t b:Addr}{ws:List Value}{Q:Value->Shared->Prop}(ht:IsTup s.heap t #[])(hb:IsTup s.heap b ws.toArray)(h:Q (.ref b) s):wpAny (model prog w) A (Eb .Add (.ref t) (.ref b)) Q E s:=by
 obtain ⟨⟨cls,dd,data,sl⟩,ho,hc,n,hd⟩:=id ht;obtain ⟨⟨cls2,dd2,data2,sl2⟩,ho2,hc2,n2,hd2⟩:=id hb;simp only at hc hd hc2 hd2;subst hc hd hc2 hd2;exact concat_meets ⟨_,ho,rfl⟩ ⟨_,ho2,rfl⟩ noFill_tuple_add seq_tuple_add PySem.F.slot_tuple_add Ft (Fh _ _)
   (tuple_addW0 t b #[] ws.toArray n n2 dd dd2 sl sl2 (by simp)) ⟨ho,ho2,h⟩
end
end HT
namespace L2
open PySem PySem.Spec PyProof.Rows
section
variable {X:Cx}
def aA3 (K:Aa):R2:=fun x y H Q=>∃ a b ys,x = .ref a/\y = .ref b/\SqT K H a []/\SqT K H b ys/\Q (.ref b) H
theorem zG:OpR X (Eb .Add) (aA3 X.K):=by
 intro pins s σ H x y v u Q I rx ry h;obtain ⟨a,b,ys,rfl,rfl,ha,hb,q⟩:=h;cases rx;cases ry;obtain ⟨its,r1,p1,_⟩:=I.tuple ha;obtain ⟨its2,r2,p2,_⟩:=I.tuple hb;cases r1;exact HT.cat_tup0 p1 p2 ⟨.ref b,H,I,rfl,q⟩
def uO (K:Aa):R2:=fun x y H Q=>aA3 K x y H Q\/aE0 K x y H Q
theorem qQ:OpR X (Eb .Add) (uO X.K):=by
 intro pins s σ H x y v u Q I rx ry h
 rcases h with h | h
 ·exact zG pins s σ H x y v u Q I rx ry h
 ·exact aC1 pins s σ H x y v u Q I rx ry h
def rRepT (K:Aa):R2:=fun x y H Q=>∃ a k xs,x = .ref a/\y = .int k/\SqT K H a xs/\xs ≠ []/\2<=k/\k<=1000/\xs.length<=1000/\∀ p,H p=none->Q (.ref p) (upd H p (.tup (CL k.toNat xs).flatten))
end
section
variable {D:Ends}{σ:L2.St}{H:Hp}
theorem cut3 (h:let u3:TS:=t3; let u2:TS:=tSeq t2 u3; tSeq t1 u2 D σ H):(tSeq t1 (tSeq t2 (t3))) D σ H:=h
theorem cut4 (h:let u4:TS:=t4; let u3:TS:=tSeq t3 u4; let u2:TS:=tSeq t2 u3; tSeq t1 u2 D σ H):(tSeq t1 (tSeq t2 (tSeq t3 (t4)))) D σ H:=h
theorem cut5 (h:let u5:TS:=t5; let u4:TS:=tSeq t4 u5; let u3:TS:=tSeq t3 u4; let u2:TS:=tSeq t2 u3; tSeq t1 u2 D σ H):(tSeq t1 (tSeq t2 (tSeq t3 (tSeq t4 (t5))))) D σ H:=h
theorem cut6 (h:let u6:TS:=t6; let u5:TS:=tSeq t5 u6; let u4:TS:=tSeq t4 u5; let u3:TS:=tSeq t3 u4; let u2:TS:=tSeq t2 u3; tSeq t1 u2 D σ H):(tSeq t1 (tSeq t2 (tSeq t3 (tSeq t4 (tSeq t5 (t6)))))) D σ H:=h
theorem cut7 (h:let u7:TS:=t7; let u6:TS:=tSeq t6 u7; let u5:TS:=tSeq t5 u6; let u4:TS:=tSeq t4 u5; let u3:TS:=tSeq t3 u4; let u2:TS:=tSeq t2 u3; tSeq t1 u2 D σ H):(tSeq t1 (tSeq t2 (tSeq t3 (tSeq t4 (tSeq t5 (tSeq t6 (t7))))))) D σ H:=h
theorem cut8 (h:let u8:TS:=t8; let u7:TS:=tSeq t7 u8; let u6:TS:=tSeq t6 u7; let u5:TS:=tSeq t5 u6; let u4:TS:=tSeq t4 u5; let u3:TS:=tSeq t3 u4; let u2:TS:=tSeq t2 u3; tSeq t1 u2 D σ H):(tSeq t1 (tSeq t2 (tSeq t3 (tSeq t4 (tSeq t5 (tSeq t6 (tSeq t7 (t8)))))))) D σ H:=h
theorem cut9 (h:let u9:TS:=t9; let u8:TS:=tSeq t8 u9; let u7:TS:=tSeq t7 u8; let u6:TS:=tSeq t6 u7; let u5:TS:=tSeq t5 u6; let u4:TS:=tSeq t4 u5; let u3:TS:=tSeq t3 u4; let u2:TS:=tSeq t2 u3; tSeq t1 u2 D σ H):(tSeq t1 (tSeq t2 (tSeq t3 (tSeq t4 (tSeq t5 (tSeq t6 (tSeq t7 (tSeq t8 (t9))))))))) D σ H:=h
theorem aHj (h:let u10:TS:=t10; let u9:TS:=tSeq t9 u10; let u8:TS:=tSeq t8 u9; let u7:TS:=tSeq t7 u8; let u6:TS:=tSeq t6 u7; let u5:TS:=tSeq t5 u6; let u4:TS:=tSeq t4 u5; let u3:TS:=tSeq t3 u4; let u2:TS:=tSeq t2 u3; tSeq t1 u2 D σ H):(tSeq t1 (tSeq t2 (tSeq t3 (tSeq t4 (tSeq t5 (tSeq t6 (tSeq t7 (tSeq t8 (tSeq t9 (t10)))))))))) D σ H:=h
end
end L2
namespace L2
open PySem PySem.Spec PyProof.Rows PySem.W
section
variable {X:Cx}
end
end L2
namespace TM
open PySem PySem.Spec PyProof.Rows PySem.W
theorem aE2 {α:Type}[BEq α][LawfulBEq α](f:Nat->α) : ∀ (j:Nat) (l:List α),(∀ i,i < j->f i ∈ l)->(∀ i k,i < j->k < j->f i=f k->i=k)->j<=l.length:=by
 intro j
 induction j with
 | zero =>
  intro l _ _;exact BM _
 | succ j ih =>
  intro l hm hi;have h1:=hm j (Co _);have:=ih (l.erase (f j)) (fun i hij=>(List.mem_erase_of_ne (fun e=>by
   have:=hi i j (by omega) (by omega) e;omega)).mpr (hm i (by omega))) (fun i k a b e=>hi i k (by omega) (by omega) e)
  rw [List.length_erase_of_mem h1] at this;have:0 < l.length:=List.length_pos_of_mem h1;omega
def rd (c j:Nat):Nat:=97+(c - 97+j) % 26
abbrev LET:Str := "abcdefghijklmnopqrstuvwxyz"
theorem rM {j:Nat}(h:j < 26):(cps LET)[j]?=some (97+j):=by
 have all : ∀ k:Fin 26,(cps LET)[k.val]?=some (97+k.val):=by decide +kernel
 exact all ⟨j,h⟩
end TM
namespace GM
structure Fr (M t b N:Int):Prop where
 am:Amt t b
 e:t*M=N*b
theorem Fr.of {M t b:Int}(am:Amt t b)(d:b ∣ M):Fr M t b (t*(M / b)):=⟨am,by rw [BF,Int.ediv_mul_cancel d]⟩
theorem Fr.zero {M:Int}:Fr M 0 1 0:=⟨aDw (by decide),by simp⟩
theorem Fr.plus {M t1 b1 N1 t2 b2 N2:Int}(h1:Fr M t1 b1 N1)(h2:Fr M t2 b2 N2):Fr M ((t1*b2+t2*b1) / G (t1*b2+t2*b1) (b1*b2)) (b1*b2 / G (t1*b2+t2*b1) (b1*b2)) (N1+N2):=by
 have a1:=h1.am.b1;have a2:=h2.am.b1;have n1:=BA h1.am.t0 (show 0<=b2 by omega);have n2:=BA h2.am.t0 (show 0<=b1 by omega);have hb:1<=b1*b2:=by
  have:=Int.mul_le_mul a1 a2 (by decide) (by omega);omega
 refine ⟨iX (by omega) hb,?_⟩;have crs:=fW (t1*b2+t2*b1) (b1*b2);generalize (t1*b2+t2*b1) / G (t1*b2+t2*b1) (b1*b2)=x at *
 generalize b1*b2 / G (t1*b2+t2*b1) (b1*b2)=y at *
 refine BC (show b1*b2 ≠ 0 by omega) ?_
 calc x*M*(b1*b2)=(x*(b1*b2))*M:=by rw [BF,BO M,<- BF]
  _=((t1*b2+t2*b1)*y)*M:=by rw [crs]
  _=((t1*M)*b2+(t2*M)*b1)*y:=by
   rw [AR,Int.add_mul,AR t1,AR t2]
  _=((N1*b1)*b2+(N2*b2)*b1)*y:=by rw [h1.e,h2.e]
  _=(N1+N2)*y*(b1*b2):=by
   rw [AR (N1+N2),Int.add_mul N1,BF N1,BF N2,BO b2 b1]
theorem Fr.uniq {M t b N t' b':Int}(hM:0 < M)(h:Fr M t b N)(h':Fr M t' b' N):t=t'/\b=b':=by
 have c:t'*b=t*b':=by
  refine BC (show M ≠ 0 by omega) ?_
  calc t'*b*M=(t'*M)*b:=by rw [AR]
   _=(N*b')*b:=by rw [h'.e]
   _=(N*b)*b':=by rw [AR]
   _=t*M*b':=by rw [h.e]
   _=t*b'*M:=by rw [AR]
 obtain ⟨e1,e2⟩:=jS h.am.t0 h.am.b1 h'.am c;rw [h.am.g,Int.ediv_one] at e1 e2;exact ⟨e1,e2⟩
theorem Fr.nonneg {M t b N:Int}(hM:0 < M)(h:Fr M t b N):0<=N:=by
 have a1:=h.am.b1;have n1:=BA h.am.t0 (show 0<=M by omega);rw [h.e] at n1
 by_cases z:0<=N
 ·exact z
 ·have:=Int.mul_neg_of_neg_of_pos (show N < 0 by omega) (show 0 < b by omega)
  omega
theorem Fr.dvd {M t b N:Int}(h:Fr M t b N):b ∣ M:=by
 have d:b ∣ M*t:=⟨N,by rw [BO M,h.e,BO]⟩;have g:Int.gcd b t=1:=by
  have:=h.am.g;unfold G at this;rw [Int.gcd_comm];omega
 have d':b.natAbs ∣ M.natAbs*t.natAbs:=by
  rw [<- Int.natAbs_mul];exact Int.natAbs_dvd_natAbs.mpr d
 have c:Nat.Coprime b.natAbs t.natAbs:=g;exact Int.natAbs_dvd_natAbs.mp (c.dvd_of_dvd_mul_right d')
theorem Fr.nought {M t b N:Int}(hM:0 < M)(h:Fr M t b N):N=0 ↔ t=0:=by
 have a1:=h.am.b1;constructor
 ·intro z
  have:=h.e;rw [z,BN] at this
  rcases Fd.mp this with q | q
  ·exact q
  ·omega
 ·intro z
  have:=h.e;rw [z,BN] at this
  rcases Fd.mp this.symm with q | q
  ·exact q
  ·omega
end GM
namespace K34
open PySem PySem.Spec PyProof.Rows L2 GM TM
def top (i:Nat):Stmt:=PySem.Challenge.pw_phialhouse_k34_pours.main.body.getD i (.Pass ⟨0,0,0,0⟩)
abbrev sIsWh:Stmt:=top 13
abbrev sGcd:Stmt:=top 14
abbrev sLow:Stmt:=top 15
abbrev sIsAm:Stmt:=top 16
abbrev sPlus:Stmt:=top 17
abbrev sMinus:Stmt:=top 18
abbrev sTimes:Stmt:=top 19
abbrev sLess:Stmt:=top 20
abbrev sIsWare:Stmt:=top 24
abbrev sMixture:Stmt:=top 25
abbrev sWholeM:Stmt:=top 26
abbrev sTogether:Stmt:=top 27
abbrev sPairIn:Stmt:=top 29
abbrev sWithPh:Stmt:=top 38
abbrev sWithMore:Stmt:=top 39
abbrev sDeedAt:Stmt:=top 40
abbrev sIsRow:Stmt:=top 41
abbrev sOfKind:Stmt:=top 42
abbrev sDone:Stmt:=top 44
abbrev sDoneAt:Stmt:=top 45
abbrev sCell:Stmt:=top 47
abbrev sMixed:Stmt:=top 48
abbrev sWhole:Stmt:=top 49
abbrev sLowest:Stmt:=top 50
abbrev sAdd:Stmt:=top 51
abbrev sTake:Stmt:=top 52
abbrev sBy:Stmt:=top 53
abbrev sUnder:Stmt:=top 54
abbrev sDigit:Stmt:=top 55
abbrev sNames:Stmt:=top 56
abbrev sWares:Stmt:=top 57
abbrev sMuch:Stmt:=top 58
abbrev sApart:Stmt:=top 59
abbrev sFree:Stmt:=top 60
abbrev sBench:Stmt:=top 61
abbrev sSum:Stmt:=top 62
abbrev sInto:Stmt:=top 63
abbrev sPoured:Stmt:=top 64
abbrev sAfter:Stmt:=top 65
abbrev sFreeRow:Stmt:=top 66
abbrev sRow:Stmt:=top 67
abbrev sPhials:Stmt:=top 68
abbrev sKind:Stmt:=top 69
abbrev sRefused:Stmt:=top 70
abbrev sPourW:Stmt:=top 71
abbrev sLaw:Stmt:=top 72
structure Txt (mg:Str->Option Value):Prop where
 isi:mg "isinstance" = none
 int':mg "int" = none
 bool':mg "bool" = none
 tup':mg "tuple" = none
 str':mg "str" = none
 len:mg "len" = none
 range:mg "range" = none
 min':mg "min" = none
 max':mg "max" = none
 abs':mg "abs" = none
 list':mg "list" = none
 sorted':mg "sorted" = none
 zip':mg "zip" = none
 set':mg "set" = none
 all':mg "all" = none
 enum':mg "enumerate" = none
 val:mg "ValueError" = none
 dict':mg "dict" = none
def yP:Sp:=fun vs H Q _=>∃ a b:Int,vs=[.int a,.int b]/\0<=a/\0<=b/\Q (.int (G a b)) H
def iK (K:Aa):Sp:=fun vs H Q _=>∃ (a:Addr) (ns:List Int) (k:Int),vs=[.ref a,.int k]/\SqL K H a (ns.map V.int)/\0<=k/\∀ c:Int,Q (.int c) H
structure Wr (x:Str):Prop where
 l1:1<=x.length
 l8:x.length<=8
 lt : ∀ c ∈ cps x,97<=c/\c<=122
instance (x:Str):Decidable (Wr x):=decidable_of_iff ((1<=x.length/\x.length<=8)/\∀ c ∈ cps x,97<=c/\c<=122) ⟨fun h=>⟨h.1.1,h.1.2,h.2⟩,fun h=>⟨⟨h.l1,h.l8⟩,h.lt⟩⟩
instance (x:Str):Decidable (Wr x):=decidable_of_iff ((1<=x.length/\x.length<=8)/\∀ c ∈ cps x,97<=c/\c<=122) ⟨fun h=>⟨h.1.1,h.1.2,h.2⟩,fun h=>⟨⟨h.l1,h.l8⟩,h.lt⟩⟩
abbrev ltP (p q:Str × Str):Prop:=HT.lexLtS [p.1,p.2] [q.1,q.2]=true
def PsL (K:Aa)(H:Hp)(us:List V)(ps:List (Str × Str)):Prop:=us.length=ps.length/\∀ (i:Nat) u p,us[i]?=some u->ps[i]?=some p->∃ q,u = .ref q/\SqT K H q [.str p.1,.str p.2]
def aF4 (ps:List (Str × Str)):Prop:=∀ (i:Nat) p q,ps[i]?=some p->ps[i+1]?=some q->ltP p q
section
variable {P:Ax}{w:World}{K:Aa}{mg:Str->Option Value}{base:Heap}
theorem rB {a0 b0 a b:Int}(e:G a b=G a0 b0)(hb:0<=b)(h : ¬ b=0):0<=a % b/\G b (a % b)=G a0 b0:=⟨Int.emod_nonneg a h,by rw [aF6]; exact e⟩
theorem yV:FnScope ["one","other","rest"] ["one","other"] (aH sGcd):=fnScOk (by decide +kernel)
theorem aFc (F:Fun K "common_divisor" "common_divisor" sGcd f fd):FnOk P w K mg base CX0 1 f fd ["one","other"] yP:=by
 refine F.ok yV (fun vs H Q E h => ?_) (fun cdv A outer s H vs Q E hr h => ?_)
 ·obtain ⟨a,b,rfl,_⟩:=h
  rfl
 ·obtain ⟨a,b,rfl,ha,hb,k⟩:=h
  refine ⟨_,aC (qF AU (aQ mJ (pv 1) aG (aU _))
   (aC (aL (i:=2) yV.nd rfl (Or.inl rfl) (aK bD (pv 0) (pv 1)))
   (aC (aL (i:=0) yV.nd rfl (Or.inl rfl) (pv 1))
   (aE (aL (i:=1) yV.nd rfl (Or.inl rfl) (pv 2))))))
   (aE (aM (pv 0))),?_⟩
  refine pM (fun σ H'=>H'=H/\∃ (x y:Int) (r:Option V),σ=[some (.int x),some (.int y),r]/\0<=x/\0<=y/\G x y=G a b) (fun σ _=>match σ with | [_,some (.int y),_]=>y.toNat | _=>0) ⟨rfl,a,b,none,rfl,ha,hb,rfl⟩ ?_ ?_
  ·rintro σ H' ⟨rfl,x,y,r,rfl,hx,hy,e⟩
   refine ⟨_,rfl,rfl,_,rfl,?_⟩;refine ite2 (fun hc => ?_) (fun hc => ?_)
   ·have hy0 : ¬ y=0:=by
     intro z;subst z;simp at hc
    have t:=rB e hy hy0;refine ⟨_,rfl,_,rfl,_,_,rfl,rfl,(by show 0 < y; omega),_,rfl,_,rfl,⟨rfl,y,x % y,_,rfl,hy,t.1,t.2⟩,?_⟩;have:=Int.emod_lt_of_pos x (show 0 < y by omega);have:=t.1;show (x % y).toNat < y.toNat;omega
   ·have hy0:y=0:=by
     by_cases z:y=0
     ·exact z
     ·exfalso
      apply hc
      simp [z]
    subst hy0;rw [aBt hx] at e;exact ⟨_,rfl,by rw [e]; exact k⟩
  ·rintro σ H' Q1 Q2 hq ⟨v,e,z,q⟩
   exact ⟨v,e,z,by obtain ⟨k,e,q⟩:=q; exact ⟨k,e,hq _ _ q⟩⟩
theorem b6 {n:Nat}{x:Int}(h:Bt n x)(hn:n<=1000000:=by decide):Bt 1000000 x:=h.mono hn
theorem dE (n:Nat){x c:Int}(h0:0<=x)(h:x < c)(hc:c<=((2 ^ n:Nat):Int):=by decide +kernel):Bt n x:=by
 show x.natAbs < 2 ^ n;omega
theorem bJ (x:Int){m:Int}(h:0 < m):0<=x % m/\x % m < m:=⟨Int.emod_nonneg x (by omega),Int.emod_lt_of_pos x h⟩
theorem xW:Cb "int" = some (.type "int"):=by decide +kernel
theorem xY:Cb "bool" = some (.type "bool"):=by decide +kernel
theorem cZ:Cb "tuple" = some (.type "tuple"):=by decide +kernel
theorem aBp:Cb "str" = some (.type "str"):=by decide +kernel
theorem bl {c:Int}(h0:0<=c:=by decide)(h:c < 18446744073709551616:=by decide):Bt 1000000 c:=b6 (dE 64 h0 h)
theorem bk {c:Int}(h0:0<=c:=by decide)(h:c < 18446744073709551616:=by decide):Bt 1000 c:=(dE 64 h0 h).mono (by decide)
theorem aEs:FnScope ["_law_script","_law_k"] ["_law_script","_law_k"] (aH sCell):=fnScOk (by decide +kernel)
theorem aDe (F:Fun K "_law_cell_at" "_law_cell_at" sCell f fd)(T:Txt mg):FnOk P w K mg base CX0 1 f fd ["_law_script","_law_k"] (iK K):=by
 refine F.ok aEs (fun vs H Q E h => ?_) (fun cdv A outer s H vs Q E hr h => ?_)
 ·obtain ⟨_,_,_,rfl,_⟩:=h
  rfl
 ·obtain ⟨a,ns,j,rfl,hS,h0,k⟩:=h
  refine ⟨_,(aC (bA (aQ vL (pv 1) (aR aZ rfl T.len Bz (aA (pv 0) aD)) (aU _))
    (aE (aM (bU bG (pv 0) (pv 1) (fun _ _=>rfl))))
    aP)
   (aE (aM aG))),?_⟩
  refine ⟨_,rfl,_,rfl,a,_,rfl,.inl hS,_,_,rfl,rfl,_,rfl,ite2 (fun hc => ?_) (fun _=>k _)⟩;have hc':j < ((ns.map V.int).length:Int):=of_decide_eq_true hc;rw [Ag] at hc';obtain ⟨i,rfl⟩:=AN h0;obtain ⟨c,hc⟩ : ∃ c,ns[i]?=some c:=⟨_,Ae (show i < ns.length by omega)⟩;exact ⟨_,rfl,_,rfl,a,_,(i:Int),.int c,rfl,rfl,hS,bK (by rw [As,hc]; rfl),k c⟩
theorem nK:Cb "abs" = some (.builtin "abs"):=by decide +kernel
theorem lenC (x:Str):x.length=(cps x).length:=by simp [Str.length,cps]
theorem lenA (x y:Str):(x ++ y).length=x.length+y.length:=by rw [lenC,dR,AB,<- lenC,<- lenC]
theorem eF {x:Str}{ws:List Str}:inV (.str x) (ws.map V.str)=true ↔ x ∈ ws:=by
 unfold inV;rw [List.any_map,List.any_eq_true];constructor
 ·rintro ⟨y,hy,e⟩
  have:y=x:=by simpa [eqV] using e
  exact this ▸ hy
 ·intro h
  exact ⟨x,h,by simp [eqV]⟩
theorem eV (ws:List Str):(ws.map V.str).all eK=true:=by
 rw [List.all_map,CG];intro x _;rfl
theorem sP (h:ws.Nodup)(n:x ∉ ws):(ws ++ [x]).Nodup:=by
 rw [List.nodup_append];refine ⟨h,by simp,fun y hy z hz e => ?_⟩;rw [AE.mp hz] at e;exact n (e ▸ hy)
theorem jW (h : ∀ y ∈ scope.names,y.2 = .local\/y.2 = .globalImplicit):ClOk X scope []:=by
 refine ⟨closureFor_none fun x hx z => ?_,fun x c e=>by simp at e,fun x e => ?_⟩
 ·rcases h x hx with q | q <;> rw [q] at z <;> cases z
 ·exfalso
  have e' : ∃ k,(k=CF\/k=AV)/\(relabel scope X.env).names.lookup x=some k:=by
   rcases e with e | e
   ·exact ⟨_,.inl rfl,e⟩
   ·exact ⟨_,.inr rfl,e⟩
  obtain ⟨k,hk,e⟩:=e';have hm:=CO e;obtain ⟨y,hy,hy2⟩:=AJ.mp hm;have hl:=h y hy;obtain ⟨n,kk⟩:=y;simp only at hl
  rcases hl with hl | hl <;> subst hl <;> simp at hy2 <;> rcases hk with rfl | rfl <;> exact absurd hy2.2 (by decide)
theorem list_eq {α:Type}{ys l:List α}(hl:ys.length=l.length)(h : ∀ (i:Nat) x y,l[i]?=some x->ys[i]?=some y->y=x):ys=l:=by
 refine List.ext_getElem? fun i => ?_
 by_cases hi:i < l.length
 ·have e1:=Ae hi
  have e2:ys[i]?=some (ys[i]'(by omega)):=Ae (by omega);rw [e1,e2,h i _ _ e1 e2]
 ·rw [Bp (by omega),Bp (by omega)]
end
end K34
namespace L2
open PySem PySem.Spec PyProof.Rows
def jn (sep:Str):List Str->Str
 | [x]=>x
 | l=>AF.Str.glued sep l
def rJoin (K:Aa):V->List V->Hp->VK->Prop:=fun z vs H Q=>∃ sep a ss,z = .str sep/\vs=[.ref a]/\SqL K H a (ss.map V.str)/\sep.length<=10/\ss.length<=100/\(∀ x ∈ ss,x.length<=1000)/\Q (.str (jn sep ss)) H
theorem aDr {x:Str}{g:TG}{tb:TS}{D:Ends}{σ:St}{H:Hp}(Pv:Nat->St->Hp->Prop)(h0:Pv 0 σ H)
  (hs : ∀ i c σ H,x.cps[i]?=some c->Pv i σ H->g (.str ⟨#[c]⟩) σ H fun σ2 H2=>tb { D with nx:=Pv (i+1),ct:=Pv (i+1),bk:=D.nx } σ2 H2) (hd : ∀ σ H,Pv x.cps.size σ H->D.nx σ H) :
  ∃ W:Nat->Nat->St->Hp->Prop,(∃ m,W 0 m σ H)/\∀ i m σ H,W i m σ H ->
   ((Its x).stop i H/\D.nx σ H)\/((Its x).go i H/\∃ N:St->Hp->Prop,(∀ σ' H',N σ' H'->∃ m',m' < m/\W (i+1) m' σ' H')/\∀ v H',(Its x).yld i H v H'->g v σ H' fun σ2 H2=>tb { D with nx:=N,ct:=N,bk:=D.nx } σ2 H2):=by
 refine ⟨fun i m σ H=>m=x.cps.size - i/\i<=x.cps.size/\Pv i σ H,⟨x.cps.size,by simp,BM _,h0⟩,?_⟩
 rintro i m σ H ⟨rfl,hi,p⟩
 by_cases hlt:i < x.cps.size
 ·refine .inr ⟨⟨x.cps[i],Fj hlt⟩,Pv (i+1),fun σ' H' p'=>⟨x.cps.size - (i+1),by omega,rfl,hlt,p'⟩,fun v H' y => ?_⟩
  obtain ⟨e,c,hc,rfl⟩:=y;subst e;exact hs i c σ _ hc p
 ·have e:i=x.cps.size:=by omega
  subst e;exact .inl ⟨Array.getElem?_eq_none (Ak _),hd σ H p⟩
section
variable {X:Cx}
def tx:V->Str
 | .int n=>toString n
 | .str x=>x
 | _=>Str.empty
def TxOk (v:V):Prop:=(∃ n:Nat,v = .int n/\n < 10 ^ 60)\/∃ x,v = .str x/\x.length<=100
end
end L2
namespace K34
open PySem PySem.Spec PyProof.Rows L2 GM TM
def SmB (a:Addr)(H H':Hp):Prop:=∀ b o,b ≠ a->H b=some o->H' b=some o
theorem SmB.refl :SmB a H H:=fun _ _ _ h=>h
theorem SmB.trans (h:SmB a H H1)(k:SmB a H1 H2):SmB a H H2:=fun b o n e=>k b o n (h b o n e)
theorem SmB.of (h:Same H H'):SmB a H H':=fun b o _ e=>h b o e
theorem SmB.upd :SmB a H (upd H a o):=fun b u n e=>by rw [aI n]; exact e
theorem SmB.own {a p:Addr}(h:SmB a H H')(n:H p=none):SmB a H (L2.upd H' p o):=fun b u nb e=>by
 have ne:b ≠ p:=fun z=>by rw [z,n] at e; cases e
 rw [aI ne];exact h b u nb e
theorem SmB.none {a p:Addr}(h:SmB a H H')(n:H' p=none)(pa:p ≠ a):H p=none:=by
 cases e:H p with
 | none=>rfl
 | some o =>
  have:=h p o pa e;rw [n] at this;cases this
def Lf (H:Hp)(a:Addr):Prop:=∃ n:Int,H a=some (.lst [.int n])/\0<=n
theorem Lf.keep (h:Lf H a)(s:Same H H'):Lf H' a:=by
 obtain ⟨n,e,r⟩:=h;exact ⟨n,s _ _ e,r⟩
theorem Lf.there (h:Lf H a)(n:H b=none):b ≠ a:=fun z=>by
 obtain ⟨_,e,_⟩:=h;rw [<- z,n] at e;cases e
theorem Lf.own {a p:Addr}(h:Lf H a)(n:p ≠ a):Lf (upd H p o) a:=by
 obtain ⟨m,e,r⟩:=h;exact ⟨m,by rw [aI (AM n)]; exact e,r⟩
def fD:Sp:=fun vs H Q _=>∃ c k:Int,vs=[.int c,.int k]/\0<=k/\k<=1000/\∀ n:Int,0<=n->n < 2147483647->Q (.int n) H
def dS:Sp:=fun vs H Q _=>∃ t b:Int,vs=[.int t,.int b]/\0<=t/\1<=b/\Bt 9000 b/\∀ p H',Same H H'->H p=none->H' p=some (.tup [.int (t / G t b),.int (b / G t b)])->Q (.ref p) H'
def gD:Sp:=fun vs H Q _=>∃ (a:Addr) (m:Int),vs=[.ref a,.int m]/\Lf H a/\1<=m/\Bt 9000 m/\∀ (d:Int) H',0<=d->d < m->SmB a H H'->Lf H' a->Q (.int d) H'
def oG:Sp:=fun vs H Q _=>∃ a:Addr,vs=[.ref a]/\Lf H a/\∀ (ws:List Str) p H',ws.length=6->ws.Nodup->(∀ x ∈ ws,Wr x)->SmB a H H'->H p=none->p ≠ a->H' p=some (.lst (ws.map V.str))->Q (.ref p) H'
structure Rm (t b:Int):Prop where
 t1:1<=t
 b1:1<=b
 g:G t b=1
 st:Bt 100 t
 sb:Bt 100 b
def pY:Sp:=fun vs H Q _=>∃ n:Int,vs=[.int n]/\0<=n/\n < 2147483647/\∀ t b p H',Rm t b->b<=12->Same H H'->H p=none->H' p=some (.tup [.int t,.int b])->Q (.ref p) H'
theorem jT {t b:Int}(h0:1<=t)(h1:1<=b)(ht:Bt 100 t)(hb:Bt 100 b):Rm (t / G t b) (b / G t b):=by
 have a:=iX (t:=t) (b:=b) (by omega) h1;have g:=nU (a:=t) (b:=b) (by omega);have l:=Int.le_of_dvd (by omega) (yF t b);refine ⟨(Int.le_ediv_iff_mul_le g).mpr (by omega),(Int.le_ediv_iff_mul_le g).mpr (by have:=yE (a:=t) (b:=b) (by omega); omega),a.3,ht.le a.1 (BD _ (by omega)),hb.le (by have:=a.2; omega) (BD _ (by omega))⟩
theorem mK {t b:Int}(h1:1<=b)(hs:Bt 9000 b):0 < G t b/\Bt 9000 (G t b):=by
 have p:=nU (a:=t) (b:=b) (by omega);exact ⟨p,hs.le (by omega) (yE (by omega))⟩
theorem b9 {c:Int}(h0:0<=c:=by decide)(h:c < 18446744073709551616:=by decide):Bt 9000 c:=(dE 64 h0 h).mono (by decide)
theorem e18:(10:Int) ^ Int.toNat 18=1000000000000000000:=by decide +kernel
section
variable {P:Ax}{w:World}{K:Aa}{mg:Str->Option Value}{base:Heap}
theorem aCd:FnScope ["_law_cell","_law_k"] ["_law_cell","_law_k"] (aH sMixed):=fnScOk (by decide +kernel)
theorem zO (F:Fun K "_law_mixed" "_law_mixed" sMixed f fd):FnOk P w K mg base CX0 1 f fd ["_law_cell","_law_k"] fD:=by
 refine F.ok aCd (fun vs H Q E h => ?_) (fun cdv A outer s H vs Q E hr h => ?_)
 ·obtain ⟨_,_,rfl,_⟩:=h
  rfl
 ·obtain ⟨c,k,rfl,k0,k1,q⟩:=h
  refine ⟨_,aE (aM (aK bD (aK bI (aK bC (aK bC (aK bD (pv 0) aG) (aK bI (pv 1) (pv 1))) aG) aG) aG)),?_⟩;have c1:=bJ c (m:=1000003) (by decide);have bk1:Bt 32 k:=dE 32 (c:=1001) k0 (by omega);have b3:Bt 66 (c % 1000003+k*k+1):=((dE 64 (c:=1000003) c1.1 c1.2).add (bk1.mul bk1)).add (dE 65 (x:=1) (c:=2) (by decide) (by decide));refine ⟨_,rfl,_,_,rfl,rfl,(by show (0:Int) < 1000003; decide),_,rfl,_,rfl,_,_,rfl,rfl,⟨b6 bk1,b6 bk1⟩,_,_,rfl,rfl,_,_,rfl,rfl,_,_,rfl,rfl,⟨b6 b3,bl⟩,_,_,rfl,rfl,(by show (0:Int) < 2147483647; decide),?_⟩;have e:=bJ ((c % 1000003+k*k+1)*48271) (m:=2147483647) (by decide);exact q _ e.1 e.2
theorem hW:FnScope ["_law_top","_law_bottom","_law_one","_law_other"] ["_law_top","_law_bottom"] (aH sLowest):=fnScOk (by decide +kernel)
theorem vV (F:Fun K "_law_lowest" "_law_lowest" sLowest f fd):FnOk P w K mg base CX0 1 f fd ["_law_top","_law_bottom"] dS:=by
 refine F.ok hW (fun vs H Q E h => ?_) (fun cdv A outer s H vs Q E hr h => ?_)
 ·obtain ⟨a,b,rfl,_⟩:=h
  rfl
 ·obtain ⟨a,b,rfl,ha,hb,bb,k⟩:=h
  refine ⟨_,(aC (aL (i:=2) hW.nd rfl (Or.inl rfl) (pv 0))
   (aC (aL (i:=3) hW.nd rfl (Or.inl rfl) (pv 1))
   (aC (qF AU (aQ aE6 (pv 3) aG (aU _))
   (aE (aE1 (i:=2) (j:=3) rfl hW.nd rfl rfl (by decide) rfl rfl (aA (pv 3) (aA (aK bD (pv 2) (pv 3)) aD)) rfl)))
   (aE (aM (aW (aA (aK aY (pv 0) (pv 2)) (aA (aK aY (pv 1) (pv 2)) aD)))))))),?_⟩
  refine cut4 ?_
  intros
  refine ⟨_,rfl,_,rfl,?_⟩;refine pM (fun σ H'=>H'=H/\∃ (x y:Int),σ=[some (.int a),some (.int b),some (.int x),some (.int y)]/\0<=x/\0<=y/\G x y=G a b) (fun σ _=>match σ with | [_,_,_,some (.int y)]=>y.toNat | _=>0) ⟨rfl,a,b,rfl,ha,by omega,rfl⟩ ?_ ?_
  ·rintro σ H' ⟨rfl,x,y,rfl,hx,hy,e⟩
   refine ⟨_,rfl,_,_,rfl,rfl,_,rfl,?_⟩;refine ite2 (fun hc => ?_) (fun hc => ?_)
   ·have hy0:0 < y:=of_decide_eq_true hc
    have t:=rB e hy (by omega);refine ⟨_,rfl,_,rfl,_,rfl,_,_,rfl,rfl,(by show 0 < y; omega),_,_,rfl,⟨rfl,y,x % y,rfl,hy,t.1,t.2⟩,?_⟩;have:=Int.emod_lt_of_pos x (show 0 < y by omega);have:=t.1;show (x % y).toNat < y.toNat;omega
   ·have hy0:y=0:=by
     have : ¬ 0 < y:=fun z=>hc (decide_eq_true z);omega
    subst hy0;rw [aBt hx] at e;subst e;have g:=mK (t:=a) hb bb;refine ⟨_,rfl,_,rfl,_,_,rfl,rfl,g,_,rfl,_,rfl,_,_,rfl,rfl,g,zLn2,fun p hp => ?_⟩;exact k p _ (Same.upd hp) hp aB
  ·rintro σ H' Q1 Q2 hq ⟨v,e,i,j,e1,e2,z,ez,q⟩
   exact ⟨v,e,i,j,e1,e2,z,ez,hq _ _ q⟩
theorem uM:FnScope ["_law_left","_law_many","_law_found"] ["_law_left","_law_many"] (aH sDigit):=fnScOk (by decide +kernel)
theorem zU (F:Fun K "_law_digit" "_law_digit" sDigit f fd):FnOk P w K mg base CX0 1 f fd ["_law_left","_law_many"] gD:=by
 refine F.ok uM (fun vs H Q E h => ?_) (fun cdv A outer s H vs Q E hr h => ?_)
 ·obtain ⟨_,_,rfl,_⟩:=h
  rfl
 ·obtain ⟨a,m,rfl,⟨n,ha,n0⟩,m1,bm,k⟩:=h
  refine ⟨_,(aC (aL (i:=2) uM.nd rfl (Or.inl rfl) (aK bD (bU bG (pv 0) aG (fun _ _=>rfl)) (pv 1)))
   (aC (gQ (aK aY (bU bG (pv 0) aG (fun _ _=>rfl)) (pv 1)) (mF (pv 0) aG set_list))
   (aE (aM (pv 2))))),?_⟩
  refine cut3 ?_
  intros
  refine ⟨_,rfl,a,_,0,.int n,rfl,rfl,SqL.of ha,bK (j:=0) rfl,_,rfl,_,_,rfl,rfl,(by show 0 < m; omega),?_⟩;refine ⟨_,rfl,a,_,0,.int n,rfl,rfl,SqL.of ha,bK (j:=0) rfl,_,rfl,_,_,rfl,rfl,⟨by omega,bm⟩,_,rfl,a,_,0,0,rfl,rfl,ha,rfl,?_⟩;have e:=bJ n (show (0:Int) < m by omega);exact ⟨_,rfl,k _ _ e.1 e.2 SmB.upd ⟨_,aB,DM n0 (by omega)⟩⟩
theorem aEn:FnScope ["_law_number"] ["_law_number"] (aH sMuch):=fnScOk (by decide +kernel)
theorem aC5 (F:Fun K "_law_much" "_law_much" sMuch f fd)(cL:Cal P w K mg base CX0 1 "_law_lowest" ["_law_top","_law_bottom"] dS):FnOk P w K mg base CX0 2 f fd ["_law_number"] pY:=by
 refine F.ok aEn (fun vs H Q E h => ?_) (fun cdv A outer s H vs Q E hr h => ?_)
 ·obtain ⟨_,rfl,_⟩:=h
  rfl
 ·obtain ⟨n,rfl,n0,nl,k⟩:=h
  refine ⟨_,(aC (bA (aQ cJ (aK bD (pv 0) aG) aG (aU _))
    (aE (aM (aJ cL hr rfl aT (aA (aK bC aG (aK bD (aK bI (aK aY (pv 0) aG) aG) (aK iV aG aG))) (aA (aK bC aG (aK bD (aK aY (pv 0) aG) aG)) aD)))))
    aP)
   (aE (aM (aJ cL hr rfl aT (aA (aK bC aG (aK bD (aK aY (pv 0) aG) aG)) (aA (aK bC aG (aK bD (aK aY (pv 0) aG) aG)) aD)))))),?_⟩
  have q0:0<=n / 4:=DM n0 (by decide);have ql:n / 4 < 2147483647:=Fn (BD _ n0) nl;have bq:Bt 64 (n / 4):=dE 64 q0 (Int.lt_trans ql (by decide:(2147483647:Int) < 2147483648));have e1:=bJ (n / 4) (m:=12) (by decide);have e2:=bJ (n / 48) (m:=12) (by decide);refine ⟨_,rfl,_,_,rfl,rfl,(by show (0:Int) < 4; decide),rfl,_,rfl,ite2 (fun _ => ?_) (fun _ => ?_)⟩
  ·refine ⟨_,rfl,_,_,rfl,rfl,⟨by decide,b9⟩,_,_,rfl,rfl,⟨b6 bq,bl⟩,_,_,rfl,rfl,⟨by decide,by decide,bk⟩,_,_,rfl,rfl,?_,_,_,rfl,rfl,_,rfl,_,_,rfl,rfl,⟨by decide,b9⟩,_,_,rfl,rfl,(by show (0:Int) < 12; decide),_,_,rfl,rfl,?_⟩
   ·rw [e18]
    show (0:Int) < 1000000000000000000
    decide
   ·rw [e18]
    have e3:=bJ (n / 4*69621) (m:=1000000000000000000) (by decide);exact ⟨_,_,rfl,by omega,by omega,b9 (by omega) (by omega),fun p H' sm np hp=>k _ _ p H' (jT (by omega) (by omega) (dE 100 (c:=2000000000000000000) (by omega) (by omega)) (dE 100 (c:=2000000000000000000) (by omega) (by omega))) (Ej (BD _ (by omega)) (by omega)) sm np hp⟩
  ·refine ⟨_,rfl,_,_,rfl,rfl,⟨by decide,b9⟩,_,_,rfl,rfl,(by show (0:Int) < 12; decide),_,_,rfl,rfl,_,rfl,_,_,rfl,rfl,⟨by decide,b9⟩,_,_,rfl,rfl,(by show (0:Int) < 12; decide),_,_,rfl,rfl,?_⟩
   exact ⟨_,_,rfl,by omega,by omega,b9 (by omega) (by omega),fun p H' sm np hp=>k _ _ p H' (jT (by omega) (by omega) (dE 100 (c:=2000000000000000000) (by omega) (by omega)) (dE 100 (c:=2000000000000000000) (by omega) (by omega))) (Ej (BD _ (by omega)) (by omega)) sm np hp⟩
end
def one (c:Nat):Str:=⟨#[c]⟩
theorem lM (c:Nat):cps (one c)=[c]:=rfl
theorem aD2 {c:Nat}(h:97<=c/\c<=122):Wr (one c):=⟨(by show 1<=1; decide),(by show 1<=8; decide),fun x hx=>by
 rw [lM] at hx;rw [AE.mp hx];exact h⟩
theorem one_inj {c d:Nat}(e:one c=one d):c=d:=by
 have:=congrArg cps e;rw [lM,lM] at this;exact (List.cons.inj this).1
def oE:Sp:=fun vs H Q _=>∃ c:Int,vs=[.int c]/\∀ (ws:List Str) p H',ws.length=6->ws.Nodup->(∀ x ∈ ws,Wr x)->Same H H'->H p=none->H' p=some (.lst (ws.map V.str))->Q (.ref p) H'
section
variable {P:Ax}{w:World}{K:Aa}{mg:Str->Option Value}{base:Heap}
theorem eM:FnScope ["_law_left","_law_letters","_law_found","_law_k","_law_word","_law_j","_law_tail"] ["_law_left"] (aH sNames):=fnScOk (by decide +kernel)
theorem zN (F:Fun K "_law_names" "_law_names" sNames f fd)(T:Txt mg)(cD:Cal P w K mg base CX0 1 "_law_digit" ["_law_left","_law_many"] gD):FnOk P w K mg base CX0 2 f fd ["_law_left"] oG:=by
 refine F.ok eM (fun vs H Q E h => ?_) (fun cdv A outer s H vs Q E hr h => ?_)
 ·obtain ⟨_,rfl,_⟩:=h
  rfl
 ·obtain ⟨a,rfl,lf,k⟩:=h
  refine ⟨_,(aC (aL (i:=1) eM.nd rfl (Or.inl rfl) aS)
   (aC (aL (i:=2) eM.nd rfl (Or.inl rfl) (dD aD))
   (aC (dI AU rfl (dU rfl T.range (aA aG aD)) (aV (i:=3) eM.nd rfl (Or.inl rfl))
    (aC (aL (i:=4) eM.nd rfl (Or.inl rfl) aS)
    (aC (dI AU rfl (dU rfl T.range (aA (aK bC aG (aJ cD hr rfl aT (aA (pv 0) (aA aG aD)))) aD)) (aV (i:=5) eM.nd rfl (Or.inl rfl))
     (aE (aL (i:=4) eM.nd rfl (Or.inl rfl) (aK eY (pv 4) (bU wO (pv 1) (aJ cD hr rfl aT (aA (pv 0) (aA aG aD))) (fun _ _=>rfl))))))
    (aC (dI AU rfl (aA5 (pv 1)) (aV (i:=6) eM.nd rfl (Or.inl rfl))
     (aE (bA (aQ eT (pv 4) (pv 2) rfl) (aE (aL (i:=4) eM.nd rfl (Or.inl rfl) (pv 6))) aP)))
    (aE (dJ (iS Bg Ba AZ bW (pv 2) (aA (pv 4) aD))))))))
   (aE (aM (pv 2)))))),?_⟩
  refine cut4 ?_
  intros
  have zL:LET.length<=Aw:=by decide +kernel
  refine ⟨zLn0,fun p hp => ?_⟩;have pa:p ≠ a:=lf.there hp;refine ⟨6,rfl,by decide,by decide,?_⟩;refine cY (fun i σ H'=>∃ (ws:List Str) (v3 v4 v5 v6:Option V),σ=[some (.ref a),some (.str LET),some (.ref p),v3,v4,v5,v6]/\ws.length=i/\ws.Nodup/\(∀ x ∈ ws,Wr x)/\SmB a H H'/\Lf H' a/\H' p=some (.lst (ws.map V.str)))
   ⟨[],none,none,none,none,rfl,rfl,DY,(fun _ h=>nomatch h),SmB.refl.own hp,lf.own pa,aB⟩ ?_ ?_
  ·rintro i σ H2 hi ⟨ws,v3,v4,v5,v6,rfl,wl,nd,wr,s2,lf2,hp2⟩
   have hi6:i < 6:=hi;refine ⟨_,rfl,a,8,rfl,lf2,by decide,b9,fun e H3 e0 el s3 lf3=>⟨_,_,rfl,rfl,1+e,rfl,by omega,by omega,?_⟩⟩;refine cY (fun j σ H'=>∃ (x:Str) (v5:Option V),σ=[some (.ref a),some (.str LET),some (.ref p),some (.int (0+i)),some (.str x),v5,v6]/\x.length=j/\(∀ c ∈ cps x,97<=c/\c<=122)/\SmB a H H'/\Lf H' a/\H' p=some (.lst (ws.map V.str)))
    ⟨"",v5,rfl,rfl,(fun _ h=>nomatch h),s2.trans s3,lf3,s3 _ _ pa hp2⟩ ?_ ?_
   ·rintro j σ H4 hj ⟨x,u5,rfl,xl,xc,s4,lf4,hp4⟩
    refine ⟨_,rfl,_,rfl,_,rfl,a,26,rfl,lf4,by decide,b9,fun g H5 g0 gl s5 lf5 => ?_⟩;obtain ⟨gn,rfl⟩:=AN g0;have lx:x.length<=8:=by omega
    refine ⟨LET,(gn:Int),97+gn,rfl,rfl,zL,bK (rM (by omega)),_,_,rfl,rfl,bL (by show x.length+1<=1000; omega),?_⟩;refine ⟨_,_,rfl,?_,fun c hc => ?_,s4.trans s5,lf5,s5 _ _ pa hp4⟩
    ·rw [lenA,xl]
     rfl
    ·rw [dR] at hc
     rcases Bi.mp hc with h | h
     ·exact xc c h
     ·have:c=97+gn:=by simpa [cps] using h
      omega
   ·rintro σ H4 ⟨x,u5,rfl,xl,xc,s4,lf4,hp4⟩
    have wx:Wr x:=⟨by omega,by omega,xc⟩;refine ⟨_,rfl,LET,rfl,?_⟩;refine aDr (fun j σ H'=>∃ (y:Str) (v6:Option V),σ=[some (.ref a),some (.str LET),some (.ref p),some (.int (0+i)),some (.str y),u5,v6]/\H'=H4/\Wr y/\(y ∉ ws\/j=0\/∃ q,j=q+1/\y=one (97+q)/\∀ r,r < q->one (97+r) ∈ ws)) ⟨x,v6,rfl,rfl,wx,.inr (.inl rfl)⟩ ?_ ?_
    ·rintro j c σ H5 hc ⟨y,v6',rfl,rfl,wy,inv⟩
     have hj:j < 26:=by
      have:=(Cp.mp hc).1;exact this
     have ec:c=97+j:=by
      have h1:=rM hj;have h2:(cps LET)[j]?=some c:=by simpa [cps] using hc
      rw [h1] at h2;exact (AH h2).symm
     subst ec;refine ⟨_,rfl,_,rfl,p,_,rfl,.inl (SqL.of hp4),rfl,eV ws,_,rfl,ite2 (fun hin => ?_) (fun hno => ?_)⟩
     ·have hin':y ∈ ws:=eF.mp hin
      refine ⟨_,rfl,one (97+j),_,rfl,rfl,aD2 (by omega),.inr (.inr ⟨j,rfl,rfl,fun r hr => ?_⟩)⟩
      rcases inv with h | h | ⟨q,e,ey,h⟩
      ·exact absurd hin' h
      ·omega
      ·by_cases z:r=q
       ·rw [z,<- ey]
        exact hin'
       ·exact h r (by omega)
     ·exact ⟨y,_,rfl,rfl,wy,.inl fun z=>hno (eF.mpr z)⟩
    ·rintro σ H5 ⟨y,v6',rfl,rfl,wy,inv⟩
     have ny:y ∉ ws:=by
      rcases inv with h | h | ⟨q,e,ey,h⟩
      ·exact h
      ·exact absurd h (by decide)
      ·exfalso
       have q25:q=25:=by
        have:LET.cps.size=26:=by decide +kernel
        omega
       have:=aE2 (fun r=>one (97+r)) 25 ws (fun r hr=>h r (by omega)) (fun r1 r2 _ _ e=>by have:=one_inj e; omega);omega
     refine ⟨_,rfl,.inl ⟨rfl,_,SqL.of hp4⟩,_,rfl,p,_,_,rfl,rfl,hp4,bO (by rw [Ag]; omega),?_⟩;refine ⟨ws ++ [y],_,_,_,_,rfl,by rw [AB,wl]; rfl,sP nd ny,fun z hz => ?_,s4.own hp,lf4.own pa,by rw [Bo]; exact aB⟩
     rcases Bi.mp hz with h | h
     ·exact wr z h
     ·rw [AE.mp h]
      exact wy
  ·rintro σ H2 ⟨ws,v3,v4,v5,v6,rfl,wl,nd,wr,s2,lf2,hp2⟩
   exact ⟨_,rfl,k ws p H2 wl nd wr s2 hp pa hp2⟩
theorem ndW1:(["_law_tail","_law_word"]:List Str).Nodup:=by decide +kernel
theorem ndW2:(["_law_k","_law_word","_law_letters","_law_number"]:List Str).Nodup:=by decide +kernel
abbrev kC:List Str:=["","a","aa","ab","b","ba"]
theorem aDu (h:cps x=cps y):x=y:=by
 obtain ⟨⟨x⟩⟩:=x;obtain ⟨⟨y⟩⟩:=y;simp [cps] at h;rw [h]
theorem yB {x y z:Str}(h:x ++ y=x ++ z):y=z:=by
 have:=congrArg cps h;rw [dR,dR] at this;exact aDu (List.append_cancel_left this)
theorem aAt (l1:1<=x.length)(l:x.length+y.length<=8)(hx : ∀ c ∈ cps x,97<=c/\c<=122)(hy : ∀ c ∈ cps y,97<=c/\c<=122):Wr (x ++ y):=by
 refine ⟨by rw [lenA]; omega,by rw [lenA]; exact l,fun c hc => ?_⟩;rw [dR] at hc
 rcases Bi.mp hc with h | h
 ·exact hx c h
 ·exact hy c h
theorem pR : ∀ t ∈ kC,t.length<=2/\∀ c ∈ cps t,97<=c/\c<=122:=by decide +kernel
theorem yL:kC.Nodup:=by decide +kernel
theorem tW {ys:List V}{ws:List Str}(hl:ys.length=ws.length)(h : ∀ (i:Nat) y b,ys[i]?=some y->ws[i]?=some b->y = .str b):ys=ws.map V.str:=by
 refine list_eq (by rw [Ag]; exact hl) fun i x y hx hy => ?_;rw [As] at hx;cases e:ws[i]? with
 | none=>rw [e] at hx; cases hx
 | some b =>
  rw [e] at hx;cases hx;exact h i y b hy e
theorem iW {α β:Type}{f:α->β} : ∀ {l:List α},(∀ x ∈ l,∀ y ∈ l,f x=f y->x=y)->l.Nodup->(l.map f).Nodup
 | [],_,_=>DY
 | x :: r,h,n=>by
  rw [BJ] at n;rw [Ai,BJ];refine ⟨fun z => ?_,iW (fun a ha b hb=>h a (Al _ ha) b (Al _ hb)) n.2⟩;obtain ⟨y,hy,e⟩:=AJ.mp z;have:=h y (Al _ hy) x (Au ..) e;rw [this] at hy;exact n.1 hy
theorem gF:FnScope ["_law_cell","_law_letters","_law_number","_law_word","_law_k"] ["_law_cell"] (aH sWares):=fnScOk (by decide +kernel)
theorem zI {f:Addr}{fd:Bf}(F:Fun K "_law_wares" "_law_wares" sWares f fd)(T:Txt mg)(cN:Cal P w K mg base CX0 2 "_law_names" ["_law_left"] oG)(cM:Cal P w K mg base CX0 2 "_law_mixed" ["_law_cell","_law_k"] fD):FnOk P w K mg base CX0 3 f fd ["_law_cell"] oE:=by
 refine F.ok gF (fun vs H Q E h => ?_) (fun cdv A outer s H vs Q E hr h => ?_)
 ·obtain ⟨_,rfl,_⟩:=h
  rfl
 ·obtain ⟨c,rfl,k⟩:=h
  refine ⟨_,(aC (aL (i:=1) gF.nd rfl (Or.inr rfl) aS)
   (aC (bA (aQ cJ (aK bD (pv 0) aG) aG (aU _))
    (aE (aM (aJ cN hr rfl aT (aA (dD (aA (aK aY (aR gB rfl T.abs' nK (aA (pv 0) aD)) aG) aD)) aD))))
    aP)
   (aC (aL (i:=2) gF.nd rfl (Or.inr rfl) (aJ cM hr rfl aT (aA (pv 0) (aA aG aD))))
   (aC (aL (i:=3) gF.nd rfl (Or.inr rfl) aS)
   (aC (dI AU rfl (dU rfl T.range (aA (aK bC aG (aK bD (pv 2) aG)) aD)) (aV (i:=4) gF.nd rfl (Or.inl rfl))
    (aE (aL (i:=3) gF.nd rfl (Or.inr rfl) (aK eY (pv 3) (bU wO (pv 1) (aK bD (aK aY (aJ cM hr rfl aT (aA (pv 0) (aA (aK bC (pv 4) aG) aD))) aG) aG) (fun _ _=>rfl))))))
   (aC (bA (aQ cJ (aK bD (aK aY (pv 2) aG) aG) aG (aU _))
    (aE (aM (hZ (N':=["_law_tail","_law_word"]) (fun σ=>[none,some 3].map fun t=>t.bind fun j=>(σ[j]?).join) rfl rfl (by decide +kernel) (by decide +kernel)
     (sX (sc:=aH sWares) rfl (by decide +kernel)) (fun _ _ _=>gN (sc:=aH sWares) (N:=["_law_cell","_law_letters","_law_number","_law_word","_law_k"]) [none,some 3] rfl rfl rfl rfl (by decide +kernel))
     (gR (aW (aA aS (aA aS (aA aS (aA aS (aA aS (aA aS aD)))))))) (fun _ _ _ _ _ _=>aV (i:=0) ndW1 rfl (Or.inl rfl)) (fun _ _ _ _ _ _=>eN)
     (fun _ _ _ _ _ _=>aK eY (pv 1) (pv 0)))))
    aP)
   (aE (aM (hZ (N':=["_law_k","_law_word","_law_letters","_law_number"]) (fun σ=>[none,some 3,some 1,some 2].map fun t=>t.bind fun j=>(σ[j]?).join) rfl rfl (by decide +kernel) (by decide +kernel)
     (sX (sc:=aH sWares) rfl (by decide +kernel)) (fun _ _ _=>gN (sc:=aH sWares) (N:=["_law_cell","_law_letters","_law_number","_law_word","_law_k"]) [none,some 3,some 1,some 2] rfl rfl rfl rfl (by decide +kernel))
     (dU rfl T.range (aA aG aD)) (fun _ _ _ _ _ _=>aV (i:=0) ndW2 rfl (Or.inl rfl)) (fun _ _ _ _ _ _=>eN)
     (fun _ _ _ _ _ _=>aK eY (pv 1) (bU wO (pv 2) (aK bD (aK bC (aK aY (pv 3) aG) (aK bI aG (pv 0))) aG) (fun _ _=>rfl)))))))))))),?_⟩
  refine cut7 ?_
  intros
  have zL:LET.length<=Aw:=by decide +kernel
  refine ⟨_,rfl,_,_,rfl,rfl,(by show (0:Int) < 2; decide),rfl,_,rfl,ite2 (fun _ => ?_) (fun _ => ?_)⟩
  ·refine ⟨_,rfl,c,rfl,?_⟩
   have ha:0<=(if c < 0 then -c else c):=by split <;> omega
   generalize (if c < 0 then -c else c)=n at *
   refine ⟨_,_,rfl,rfl,⟨by decide,b9⟩,zLn1,fun z hz=>⟨z,rfl,⟨_,aB,DM ha (by decide)⟩,fun ws p H' wl nd wr sm hp pz hp' => ?_⟩⟩;have hpn:H p=none:=by
    cases e:H p with
    | none=>rfl
    | some o =>
     have:=Same.upd (o:=.lst [.int (n / 2)]) hz _ _ e;rw [hp] at this;cases this
   exact k ws p H' wl nd wr (fun b o e=>sm b o (fun q=>by rw [q,hz] at e; cases e) (Same.upd hz _ _ e)) hpn hp'
  refine ⟨_,rfl,c,0,rfl,by decide,by decide,fun n n0 nl => ?_⟩;have e5:=bJ n (m:=5) (by decide);refine ⟨_,rfl,_,_,rfl,rfl,(by show (0:Int) < 5; decide),_,_,rfl,rfl,_,rfl,by omega,by omega,?_⟩;refine cY (fun i σ H'=>∃ (x:Str) (v4:Option V),σ=[some (.int c),some (.str LET),some (.int n),some (.str x),v4]/\x.length=i/\(∀ d ∈ cps x,97<=d/\d<=122)/\H'=H) ⟨"",none,rfl,rfl,(fun _ h=>nomatch h),rfl⟩ ?_ ?_
  ·rintro i σ H' hi ⟨x,v4,rfl,xl,xc,rfl⟩
   refine ⟨_,rfl,_,rfl,_,rfl,_,rfl,_,_,rfl,rfl,c,_,rfl,by omega,by omega,fun m m0 ml => ?_⟩;have e:=bJ (m / 64) (m:=26) (by decide);obtain ⟨gn,hg⟩:=AN e.1;refine ⟨_,_,rfl,rfl,⟨by decide,b9⟩,_,_,rfl,rfl,(by show (0:Int) < 26; decide),LET,_,97+gn,rfl,rfl,zL,(by rw [hg]; exact bK (rM (by omega))),_,_,rfl,rfl,bL (by show x.length+1<=1000; omega),?_⟩;refine ⟨_,_,rfl,?_,fun d hd => ?_,rfl⟩
   ·rw [lenA,xl]
    rfl
   ·rw [dR] at hd
    rcases Bi.mp hd with h | h
    ·exact xc d h
    ·have:d=97+gn:=by simpa [cps] using h
     omega
  ·rintro σ H' ⟨x,v4,rfl,xl,xc,rfl⟩
   have xl1:1<=x.length:=by omega
   have xl5:x.length<=5:=by omega
   refine ⟨_,rfl,_,_,rfl,rfl,⟨by decide,b9⟩,_,_,rfl,rfl,(by show (0:Int) < 2; decide),rfl,_,rfl,ite2 (fun _ => ?_) (fun _ => ?_)⟩
   ·refine ⟨zLn6,fun q hq=>⟨q,rfl,⟨_,SqT.of aB⟩,fun D hD => ?_⟩⟩
    refine gA (Ys.tup (xs:=kC.map V.str) (SqT.of aB)) (fun i _ y _=>∀ t,kC[i]?=some t->y = .str (x ++ t)) (fun _ _ _ _ _ h _=>h) hD (by decide) (fun i y H2 R hy sm hR => ?_) (fun ys H2 sm hD' yl hy => ?_)
    ·rw [As] at hy
     cases et:kC[i]? with
     | none=>rw [et] at hy; cases hy
     | some t =>
      rw [et] at hy;cases hy;have:=(pR t (Ay et)).1;refine ⟨(Keep.refl _).set rfl,_,rfl,_,rfl,_,_,rfl,rfl,bL (by omega),hR _ _ (Same.refl _) fun t' e' => ?_⟩;rw [et] at e';cases e';rfl
    ·have ey:=tW (ws:=kC.map fun t=>x ++ t) (yl.trans (by rfl)) fun i y b h1 h2=>by
      rw [As] at h2;cases et:kC[i]? with
      | none=>rw [et] at h2; cases h2
      | some t =>
       rw [et] at h2;cases h2;exact hy i (.str t) y (by rw [As,et]; rfl) h1 t et
     subst ey;refine k _ D H2 rfl (iW (fun a _ b _ e=>yB e) yL) (fun z hz => ?_) ((Same.upd hq).trans sm) ?_ hD'
     ·obtain ⟨t,ht,rfl⟩:=AJ.mp hz
      have tt:=pR t ht;exact aAt xl1 (by omega) xc tt.2
     ·cases e:H' D with
      | none=>rfl
      | some o =>
       have h9:upd H' q (.tup (kC.map V.str)) D=none:=hD;have:=Same.upd (o:=.tup (kC.map V.str)) hq _ _ e;rw [h9] at this;cases this
   ·refine ⟨6,rfl,by decide,by decide,fun D hD => ?_⟩
    refine gA (Ys.rng (lo:=0) (n:=6)) (fun i _ y _=>y = .str (x ++ one (97+((n / 10+3*((0:Int)+i)) % 26).toNat))) (fun _ _ _ _ _ h _=>h) hD (by decide) (fun i y H2 R hy sm hR => ?_) (fun ys H2 sm hD' yl hy => ?_)
    ·obtain ⟨hi,rfl⟩:=yZ hy
     have e:=bJ (n / 10+3*((0:Int)+i)) (m:=26) (by decide);have bi:Bt 64 ((0:Int)+i):=dE 64 (c:=100) (by omega) (by omega);obtain ⟨gn,hg⟩:=AN e.1;refine ⟨(Keep.refl _).set rfl,_,rfl,_,rfl,_,rfl,_,_,rfl,rfl,⟨by decide,b9⟩,_,rfl,_,_,rfl,rfl,⟨bl,b6 bi⟩,_,_,rfl,rfl,_,_,rfl,rfl,(by show (0:Int) < 26; decide),LET,_,97+gn,rfl,rfl,zL,(by rw [hg]; exact bK (rM (by omega))),_,_,rfl,rfl,bL (by show x.length+1<=1000; omega),hR _ _ (Same.refl _) ?_⟩;rw [hg];rfl
    ·have ey:=tW (ws:=(Bc 6).map fun i=>x ++ one (97+((n / 10+3*((0:Int)+(i:Nat))) % 26).toNat)) (yl.trans (by rfl)) fun i y b h1 h2=>by
      rw [As] at h2;cases et:(Bc 6)[i]? with
      | none=>rw [et] at h2; cases h2
      | some t =>
       rw [et] at h2;cases h2;have ti:i=t:=by
        obtain ⟨hl,e⟩:=Ad.mp et
        simpa using e
       subst ti;obtain ⟨v,hv⟩ : ∃ v,(rngV 0 6)[i]?=some v:=⟨_,Ae (by rw [fP]; have:=(Ad.mp et).1; simpa using this)⟩;exact hy i v y hv h1
     subst ey;refine k _ D H2 rfl (iW (fun a ha b hb e => ?_) List.nodup_range) (fun z hz => ?_) sm hD hD'
     ·have h1:=one_inj (yB e)
      have ha':=Dd.mp ha;have hb':=Dd.mp hb;omega
     ·obtain ⟨t,ht,rfl⟩:=AJ.mp hz
      have e:=bJ (n / 10+3*((0:Int)+(t:Nat))) (m:=26) (by decide);refine aAt xl1 (by show x.length+1<=8; omega) xc (fun d hd => ?_);rw [lM] at hd;rw [AE.mp hd];omega
end
theorem iL : ∀ {ss:List Str},sortedS ss=true->ss.Pairwise (fun a b=>a.cps.toList<=b.cps.toList)
 | [],_=>.nil
 | x :: r,h=>by
  have key : ∀ (r:List Str) (x:Str),risingS x r=true->(∀ y ∈ r,x.cps.toList<=y.cps.toList)/\r.Pairwise (fun a b=>a.cps.toList<=b.cps.toList):=by
   intro r
   induction r with
   | nil=>intro x _; exact ⟨(fun _ h=>nomatch h),.nil⟩
   | cons y r ih =>
    intro x hx;have hx':(!ltCps y.cps.toList x.cps.toList && risingS y r)=true:=hx;simp only [Cc,Bool.not_eq_true'] at hx';obtain ⟨h1,h2⟩:=hx';rw [ltCps_eq] at h1;have le:x.cps.toList<=y.cps.toList:=List.not_lt.mp (of_decide_eq_false h1);obtain ⟨i1,i2⟩:=ih y h2;refine ⟨fun z hz => ?_,.cons i1 i2⟩
    rcases AD.mp hz with rfl | hz
    ·exact le
    ·exact List.le_trans le (i1 z hz)
  obtain ⟨k1,k2⟩:=key r x h;exact .cons k1 k2
abbrev ltS (a b:Str):Prop:=a.cps.toList < b.cps.toList
structure Six (ss:List Str):Prop where
 l:ss.length=6
 up:ss.Pairwise ltS
 wr : ∀ x ∈ ss,Wr x
structure Six0 (ss:List Str):Prop where
 l:ss.length=6
 nd:ss.Nodup
 wr : ∀ x ∈ ss,Wr x
theorem aEh {x y:Str}(h:x.cps.toList=y.cps.toList):x=y:=by
 obtain ⟨x⟩:=x;obtain ⟨y⟩:=y;exact congrArg Str.mk (Array.toList_inj.mp h)
theorem Six.of {ws ss:List Str}(h:Six0 ws)(p:ss.Perm ws)(s:sortedS ss=true):Six ss:=by
 refine ⟨p.length_eq.trans h.l,?_,fun x hx=>h.wr x (p.mem_iff.mp hx)⟩;have n:ss.Nodup:=p.nodup_iff.mpr h.nd;refine (List.pairwise_and_iff.mpr ⟨iL s,n⟩).imp fun {a b} hab => ?_
 rcases List.le_iff_lt_or_eq.mp hab.1 with q | q
 ·exact q
 ·exact absurd (aEh q) hab.2
def prS (ss:List Str)(q:Nat × Nat):Str × Str:=(ss.getD q.1 "",ss.getD q.2 "")
structure Qs (qs:List (Nat × Nat))(j k:Nat):Prop where
 pw:qs.Pairwise fun q r=>q.1 < r.1\/(q.1=r.1/\q.2 < r.2)
 rg : ∀ q ∈ qs,q.1 < q.2/\q.2 < 6/\(q.1 < j\/(q.1=j/\q.2 < k))
theorem Qs.add {j k:Nat}(h:Qs qs j k)(jk:j < k)(k6:k < 6):Qs (qs ++ [(j,k)]) j (k+1):=by
 refine ⟨List.pairwise_append.mpr ⟨h.pw,List.pairwise_singleton _ _,fun q hq r hr => ?_⟩,fun q hq => ?_⟩
 ·rw [AE.mp hr]
  exact (h.rg q hq).2.2
 ·rcases Bi.mp hq with z | z
  ·have:=h.rg q z
   omega
  ·rw [AE.mp z]
   exact ⟨jk,k6,.inr ⟨rfl,Co _⟩⟩
theorem Qs.more {j k:Nat}(h:Qs qs j k):Qs qs j (k+1):=⟨h.pw,fun q hq=>by have:=h.rg q hq; omega⟩
theorem Qs.next {j k m:Nat}(h:Qs qs j k):Qs qs (j+1) m:=⟨h.pw,fun q hq=>by have:=h.rg q hq; omega⟩
theorem Qs.nil:Qs [] 0 m:=⟨.nil,fun q hq=>nomatch hq⟩
structure GoodPs (ps:List (Str × Str)):Prop where
 l:ps.length<=25
 r:aF4 ps
 ok : ∀ p ∈ ps,Wr p.1/\Wr p.2/\ltS p.1 p.2
theorem Six.get (h:Six ss){i:Nat}(hi:i < 6):ss[i]?=some (ss.getD i ""):=by
 have:=Ae (l:=ss) (i:=i) (by rw [h.l]; exact hi);rw [this,Ff,this];rfl
theorem Six.lt (h:Six ss){i k:Nat}(ik:i < k)(hk:k < 6):ltS (ss.getD i "") (ss.getD k ""):=by
 have h1:i < ss.length:=by have:=h.l; omega
 have h2:k < ss.length:=by have:=h.l; omega
 have:=Da.mp h.up i k h1 h2 ik;rw [Ff,Ff,Ae h1,Ae h2];exact this
theorem Six.w (h:Six ss){i:Nat}(hi:i < 6):Wr (ss.getD i ""):=h.wr _ (Ay (h.get hi))
theorem aDi (h:ltS x y):x ≠ y:=fun e=>by
 subst e;exact List.lt_irrefl _ h
theorem aDk (h:ltS a c):ltP (a,b) (c,d):=by
 show HT.lexLtS [a,b] [c,d]=true;rw [HT.lexLtS_cons,if_neg (aDi h)];exact decide_eq_true h
theorem aDj (h:ltS b d):ltP (a,b) (a,d):=by
 show HT.lexLtS [a,b] [a,d]=true;rw [HT.lexLtS_cons,if_pos rfl,HT.lexLtS_cons,if_neg (aDi h)];exact decide_eq_true h
theorem Qs.good {j k:Nat}(h:Qs qs j k)(s:Six ss)(l:qs.length<=25):GoodPs (qs.map (prS ss)):=by
 refine ⟨by rw [Ag]; exact l,fun i p q hp hq => ?_,fun p hp => ?_⟩
 ·rw [As] at hp hq
  obtain ⟨x,hx,rfl⟩:=Bv.mp hp;obtain ⟨y,hy,rfl⟩:=Bv.mp hq;obtain ⟨l1,rfl⟩:=Ad.mp hx;obtain ⟨l2,rfl⟩:=Ad.mp hy;have pw:=Da.mp h.pw i (i+1) l1 l2 (Co _);have r1:=h.rg _ (Dw l1);have r2:=h.rg _ (Dw l2)
  rcases pw with z | ⟨z1,z2⟩
  ·exact aDk (s.lt z (by omega))
  ·show ltP (ss.getD _ "",ss.getD _ "") (ss.getD _ "",ss.getD _ "")
   rw [z1];exact aDj (s.lt z2 (by omega))
 ·obtain ⟨q,hq,rfl⟩:=AJ.mp hp
  have r:=h.rg q hq;exact ⟨s.w (by omega),s.w r.2.1,s.lt r.1 r.2.1⟩
def PsT (H:Hp)(us:List V)(ps:List (Str × Str)):Prop:=us.length=ps.length/\∀ (i:Nat) u p,us[i]?=some u->ps[i]?=some p->∃ q,u = .ref q/\H q=some (.tup [.str p.1,.str p.2])
theorem PsT.nil :PsT H [] []:=⟨rfl,fun i u p h=>by simp at h⟩
theorem PsT.keep (h:PsT H us ps)(s:Tk H H'):PsT H' us ps:=⟨h.1,fun i u p hu hp=>by
 obtain ⟨q,e,sq⟩:=h.2 i u p hu hp;exact ⟨q,e,s _ _ sq⟩⟩
theorem PsT.add {p:Str × Str}(h:PsT H us ps)(k:H q=some (.tup [.str p.1,.str p.2])):PsT H (us ++ [.ref q]) (ps ++ [p]):=by
 refine ⟨by rw [AB,AB,h.1]; rfl,fun j x d hx hd => ?_⟩
 by_cases hj:j < us.length
 ·rw [De hj] at hx
  rw [De (by rw [<- h.1]; exact hj)] at hd;exact h.2 j x d hx hd
 ·rw [Cu (by omega)] at hx
  rw [Cu (by rw [<- h.1]; omega),<- h.1] at hd;obtain ⟨hl,e⟩:=Ad.mp hx;simp at hl;rw [hl] at hx hd;cases hx;cases hd;exact ⟨q,rfl,k⟩
def oJ (K:Aa):Sp:=fun vs H Q _=>∃ (a:Addr) (ws:List Str) (c o:Int),vs=[.ref a,.int c,.int o]/\SqL K H a (ws.map V.str)/\Six0 ws/\1<=o /\
 ∀ p us ps H',Same H H'->H p=none->H' p=some (.tup us)->PsT H' us ps->GoodPs ps->Q (.ref p) H'
theorem fO {p:Addr}(s:Same H H')(n:H p=none):Same H (upd H' p o):=fun b u e=>by
 rw [aI (fun z=>by rw [z,n] at e; cases e)];exact s _ _ e
theorem same_none {p:Addr}(s:Same H H')(n:H' p=none):H p=none:=by
 cases e:H p with
 | none=>rfl
 | some o =>
  have:=s _ _ e;rw [n] at this;cases this
theorem rL (h:Six ss){i:Nat}{e:Int}(hi:i < 6)(he:e=(i:Int)):atI (ss.map V.str) e=some (.str (ss.getD i "")):=by
 rw [he];exact bK (by rw [As,h.get hi]; rfl)
section
variable {P:Ax}{w:World}{K:Aa}{mg:Str->Option Value}{base:Heap}
theorem iN:FnScope ["_law_wares_here","_law_cell","_law_often","_law_found","_law_some","_law_j","_law_k"] ["_law_wares_here","_law_cell","_law_often"] (aH sApart):=fnScOk (by decide +kernel)
theorem zW (F:Fun K "_law_apart" "_law_apart" sApart f fd)(T:Txt mg)(cM:Cal P w K mg base CX0 1 "_law_mixed" ["_law_cell","_law_k"] fD):FnOk P w K mg base CX0 2 f fd ["_law_wares_here","_law_cell","_law_often"] (oJ K):=by
 refine F.ok iN (fun vs H Q E h => ?_) (fun cdv A outer s H vs Q E hr h => ?_)
 ·obtain ⟨_,_,_,_,rfl,_⟩:=h
  rfl
 ·obtain ⟨a,ws,c,o,rfl,ha,six0,o1,k⟩:=h
  refine ⟨_,(aC (aL (i:=3) iN.nd rfl (Or.inl rfl) (dD aD))
   (aC (aL (i:=4) iN.nd rfl (Or.inl rfl) (aR jY rfl T.sorted' boot_sorted (aA (pv 0) aD)))
   (aC (dI AU rfl (dU rfl T.range (aA (aR aZ rfl T.len Bz (aA (pv 4) aD)) aD)) (aV (i:=5) iN.nd rfl (Or.inl rfl))
    (aE (dI AU rfl (fR rfl T.range (aA (aK bC (pv 5) aG) (aA (aR aZ rfl T.len Bz (aA (pv 4) aD)) aD))) (aV (i:=6) iN.nd rfl (Or.inl rfl))
     (aE (bA (aQ cJ (aK bD (aK aY (aJ cM hr rfl aT (aA (pv 1) (aA (aK bC (aK bI aG (pv 5)) (pv 6)) aD))) aG) (pv 2)) aG (aU _))
      (aE (dJ (iS Bg Ba AZ bW (pv 3) (aA (aW (aA (bU bG (pv 4) (pv 5) (fun _ _=>rfl)) (aA (bU bG (pv 4) (pv 6) (fun _ _=>rfl)) aD))) aD))))
      aP)))))
   (aE (aM (aX bH rfl T.tup' cZ (aA (pv 3) aD))))))),?_⟩
  refine cut4 ?_
  intros
  refine ⟨zLn0,fun d hd => ?_⟩;have s1:Same H (upd H d (.lst [])):=Same.upd hd;refine ⟨_,rfl,a,ws,rfl,s1.seq ha,by have:=six0.l; omega,fun z ss pm st hz => ?_⟩;have six:=Six.of six0 pm st;have zd:z ≠ d:=fun e=>by rw [e,aB] at hz; cases hz
  have hz0:H z=none:=same_none s1 hz;have l6:((ss.map V.str).length:Int)=6:=by rw [Ag,six.l]; rfl
  refine ⟨_,rfl,z,_,rfl,.inl (SqL.of aB),_,rfl,by omega,by omega,?_⟩;rw [l6];refine cY (fun i σ H'=>∃ (us:List V) (qs:List (Nat × Nat)) (v5 v6:Option V),σ=[some (.ref a),some (.int c),some (.int o),some (.ref d),some (.ref z),v5,v6]/\Same H H'/\H' d=some (.lst us)/\H' z=some (.lst (ss.map V.str))/\PsT H' us (qs.map (prS ss))/\Qs qs i 0/\qs.length<=5*min i 5)
   ⟨[],[],none,none,rfl,fO s1 hz0,by rw [aI (AM zd)]; exact aB,aB,PsT.nil,Qs.nil,by decide⟩ ?_ ?_
  ·rintro j σ H2 hj ⟨us,qs,v5,v6,rfl,s2,hd2,hz2,pt,hq,ql⟩
   have hj6:j < 6:=hj;refine ⟨_,rfl,_,_,rfl,rfl,_,rfl,z,_,rfl,.inl (SqL.of hz2),_,_,rfl,by omega,?_⟩;rw [l6];refine cY (fun i σ H'=>∃ (us:List V) (qs:List (Nat × Nat)) (v6:Option V),σ=[some (.ref a),some (.int c),some (.int o),some (.ref d),some (.ref z),some (.int (0+j)),v6]/\Same H H'/\H' d=some (.lst us)/\H' z=some (.lst (ss.map V.str))/\PsT H' us (qs.map (prS ss))/\Qs qs j (j+1+i)/\qs.length<=5*min j 5+i)
    ⟨us,qs,v6,rfl,s2,hd2,hz2,pt,⟨hq.pw,fun q h=>by have:=hq.rg q h; omega⟩,by omega⟩ ?_ ?_
   ·rintro i σ H3 hi ⟨us,qs,v6,rfl,s3,hd3,hz3,pt,hq,ql⟩
    have hi6:j+1+i < 6:=by omega
    have bj:Bt 64 ((0:Int)+j):=dE 64 (c:=100) (by omega) (by omega);refine ⟨_,rfl,_,rfl,_,_,rfl,rfl,⟨bl,b6 bj⟩,_,rfl,_,_,rfl,rfl,c,_,rfl,by omega,by omega,fun m m0 ml => ?_⟩;refine ⟨_,_,rfl,rfl,⟨by decide,b9⟩,_,rfl,_,_,rfl,rfl,(by show 0 < o; omega),rfl,_,rfl,ite2 (fun _ => ?_) (fun _ => ?_)⟩
    ·refine ⟨_,rfl,.inl ⟨rfl,_,SqL.of hd3⟩,_,rfl,_,rfl,z,_,_,_,rfl,rfl,SqL.of hz3,rL six (i:=j) hj6 (by omega),_,rfl,_,rfl,z,_,_,_,rfl,rfl,SqL.of hz3,rL six (i:=j+1+i) hi6 (by omega),zLn2,fun q hq' => ?_⟩
     have qd:q ≠ d:=fun e=>by rw [e,hd3] at hq'; cases hq'
     have qz:d ≠ z:=AM zd;have ul:us.length=qs.length:=by rw [pt.1,Ag]
     have e1:(upd H3 q (.tup [.str (ss.getD j ""),.str (ss.getD (j+1+i) "")])) d=some (.lst us):=Same.upd hq' _ _ hd3;refine ⟨d,us,_,rfl,rfl,e1,bO (by omega),us ++ [.ref q],qs ++ [(j,j+1+i)],_,rfl,fO (s3.trans (Same.upd hq')) hd,aB,?_,?_,hq.add (by omega) hi6,by rw [AB,EF]; omega⟩
     ·rw [aI zd]
      exact Same.upd hq' _ _ hz3
     ·rw [Bo]
      refine ((pt.keep (Same.upd hq').tk).keep (Tk.lst e1)).add ?_;rw [aI qd];exact aB
    ·exact ⟨us,qs,_,rfl,s3,hd3,hz3,pt,hq.more,by omega⟩
   ·rintro σ H3 ⟨us,qs,v6,rfl,s3,hd3,hz3,pt,hq,ql⟩
    exact ⟨us,qs,_,_,rfl,s3,hd3,hz3,pt,hq.next,by omega⟩
  ·rintro σ H2 ⟨us,qs,v5,v6,rfl,s2,hd2,hz2,pt,hq,ql⟩
   refine ⟨_,rfl,d,us,rfl,.inl ⟨SqL.of hd2,fun l hl => ?_⟩⟩;exact k l us _ _ (s2.trans (Same.upd hl)) (same_none s2 hl) aB (pt.keep (Same.upd hl).tk) (hq.good six (by omega))
end
theorem eW (s:Same H H1)(k:SmB a H1 H2)(n:H a=none):Same H H2:=fun b o e=>k b o (fun z=>by rw [z,n] at e; cases e) (s b o e)
theorem SmB.tk (k:SmB a H H')(l:Lf H a):Tk H H':=fun b ys e=>k b _ (fun z=>by
 obtain ⟨_,h,_⟩:=l;rw [z,h] at e;cases e) e
def RmsT (H:Hp)(us:List V):Prop:=∀ u ∈ us,∃ q t b,u = .ref q/\H q=some (.tup [.int t,.int b])/\Rm t b
theorem RmsT.nil :RmsT H []:=fun u h=>nomatch h
theorem RmsT.keep (h:RmsT H us)(s:Tk H H'):RmsT H' us:=fun u hu=>by
 obtain ⟨q,t,b,e,sq,r⟩:=h u hu;exact ⟨q,t,b,e,s _ _ sq,r⟩
theorem RmsT.add {t b:Int}(h:RmsT H us)(k:H q=some (.tup [.int t,.int b]))(r:Rm t b):RmsT H (us ++ [.ref q]):=fun u hu=>by
 rcases Bi.mp hu with z | z
 ·exact h u z
 ·rw [AE.mp z]
  exact ⟨q,t,b,rfl,k,r⟩
structure Bn (H:Hp)(p r q:Addr)(rs us:List V)(ps:List (Str × Str)):Prop where
 hp:H p=some (.tup [.ref r,.ref q])
 hr:H r=some (.tup rs)
 rm:RmsT H rs
 l1:1<=rs.length
 l16:rs.length<=16
 hq:H q=some (.tup us)
 pt:PsT H us ps
 g:GoodPs ps
theorem Bn.keep {p r q:Addr}(h:Bn H p r q rs us ps)(s:Same H H'):Bn H' p r q rs us ps:=⟨s _ _ h.hp,s _ _ h.hr,h.rm.keep s.tk,h.l1,h.l16,s _ _ h.hq,h.pt.keep s.tk,h.g⟩
def gE (K:Aa):Sp:=fun vs H Q _=>∃ (a:Addr) (ns:List Int) (w:Addr) (ws:List Str),vs=[.ref a,.ref w]/\SqL K H a (ns.map V.int)/\SqL K H w (ws.map V.str)/\Six0 ws/\∀ p r q rs us ps H',Same H H'->Bn H' p r q rs us ps->Q (.ref p) H'
theorem abs_nonneg (c:Int):0<=(if c < 0 then -c else c):=by split <;> omega
theorem aHm (t:Int):G t 1=1:=by
 have h1:=nU (a:=t) (b:=1) (by decide);have h2:=yE (a:=t) (b:=1) (by decide);omega
theorem aA2 {t:Int}(h:1<=t)(ht:Bt 100 t):Rm t 1:=⟨h,by decide,aHm t,ht,dE 100 (c:=2) (by decide) (by decide)⟩
theorem aGz {e:Int}(h0:0<=e)(h:e < 4) : ∃ m:Int,atI [V.int 5,V.int 5,V.int 5,V.int 16] e=some (.int m)/\1<=m/\m<=16:=by
 obtain ⟨n,rfl⟩:=AN h0;have:n=0\/n=1\/n=2\/n=3:=by omega
 rcases this with rfl | rfl | rfl | rfl
 ·exact ⟨5,rfl,by decide,by decide⟩
 ·exact ⟨5,rfl,by decide,by decide⟩
 ·exact ⟨5,rfl,by decide,by decide⟩
 ·exact ⟨16,rfl,by decide,by decide⟩
section
variable {P:Ax}{w:World}{K:Aa}{mg:Str->Option Value}{base:Heap}
theorem fA:FnScope ["_law_script","_law_wares_here","_law_left","_law_rooms","_law_k","_law_top","_law_pairs","_law_some","_law_j"] ["_law_script","_law_wares_here"] (aH sFree):=fnScOk (by decide +kernel)
theorem aDc (F:Fun K "_law_free_bench" "_law_free_bench" sFree f fd)(T:Txt mg)(cC:Cal P w K mg base CX0 1 "_law_cell_at" ["_law_script","_law_k"] (iK K))(cD:Cal P w K mg base CX0 1 "_law_digit" ["_law_left","_law_many"] gD)(cL:Cal P w K mg base CX0 1 "_law_lowest" ["_law_top","_law_bottom"] dS):FnOk P w K mg base CX0 2 f fd ["_law_script","_law_wares_here"] (gE K):=by
 refine F.ok fA (fun vs H Q E h => ?_) (fun cdv A outer s H vs Q E hr h => ?_)
 ·obtain ⟨_,_,_,_,rfl,_⟩:=h
  rfl
 ·obtain ⟨a,ns,w,ws,rfl,ha,hw,six0,k⟩:=h
  refine ⟨_,(aC (aL (i:=2) fA.nd rfl (Or.inl rfl) (dD (aA (aR gB rfl T.abs' nK (aA (aJ cC hr rfl aT (aA (pv 0) (aA aG aD))) aD)) aD)))
   (aC (aL (i:=3) fA.nd rfl (Or.inl rfl) (dD aD))
   (aC (dI AU rfl (dU rfl T.range (aA (aK bC aG (aJ cD hr rfl aT (aA (pv 2) (aA aG aD)))) aD)) (aV (i:=4) fA.nd rfl (Or.inl rfl))
    (aC (aL (i:=5) fA.nd rfl (Or.inl rfl) (aK bC aG (aJ cD hr rfl aT (aA (pv 2) (aA (aK iV aG aG) aD)))))
    (aE (dJ (iS Bg Ba AZ bW (pv 3) (aA (aJ cL hr rfl aT (aA (pv 5) (aA (aK bC aG (aJ cD hr rfl aT (aA (pv 2) (aA (aK iV aG aG) aD)))) aD))) aD))))))
   (aC (aL (i:=6) fA.nd rfl (Or.inl rfl) (dD aD))
   (aC (aL (i:=2) fA.nd rfl (Or.inl rfl) (dD (aA (aR gB rfl T.abs' nK (aA (aJ cC hr rfl aT (aA (pv 0) (aA aG aD))) aD)) aD)))
   (aC (aL (i:=7) fA.nd rfl (Or.inl rfl) (aR jY rfl T.sorted' boot_sorted (aA (pv 1) aD)))
   (aC (dI AU rfl (dU rfl T.range (aA aG aD)) (aV (i:=8) fA.nd rfl (Or.inl rfl))
    (aE (dI AU rfl (fR rfl T.range (aA (aK bC (pv 8) aG) (aA aG aD))) (aV (i:=4) fA.nd rfl (Or.inl rfl))
     (aE (bA (aQ cJ (aJ cD hr rfl aT (aA (pv 2) (aA aG aD))) aG (aU _))
      (aE (dJ (iS Bg Ba AZ bW (pv 6) (aA (aW (aA (bU bG (pv 7) (pv 8) (fun _ _=>rfl)) (aA (bU bG (pv 7) (pv 4) (fun _ _=>rfl)) aD))) aD))))
      aP)))))
   (aE (aM (aW (aA (aX bH rfl T.tup' cZ (aA (pv 3) aD)) (aA (aX bH rfl T.tup' cZ (aA (pv 6) aD)) aD)))))))))))),?_⟩
  refine cut8 ?_
  intros
  refine ⟨_,rfl,a,ns,1,rfl,ha,by decide,fun c=>⟨c,rfl,zLn1,fun l hl => ?_⟩⟩;have c0:=abs_nonneg c;generalize (if c < 0 then -c else c)=n at *
  have s1:Same H (upd H l (.lst [.int n])):=Same.upd hl;refine ⟨zLn0,fun d hd => ?_⟩;have dl:d ≠ l:=fun e=>by rw [e,aB] at hd; cases hd
  have hd0:H d=none:=same_none s1 hd;have e18':(10:Int) ^ Int.toNat 18=1000000000000000000:=e18;refine ⟨_,rfl,l,16,rfl,⟨n,by rw [aI (AM dl)]; exact aB,c0⟩,by decide,b9,fun m H1 m0 ml sb lf=>⟨_,_,rfl,rfl,_,rfl,by omega,by omega,?_⟩⟩;have s2:Same H H1:=eW (s1.trans (Same.upd hd)) sb hl;have hd1:H1 d=some (.lst []):=sb d _ dl aB;refine cY (fun i σ H'=>∃ (rs:List V) (v4 v5:Option V),σ=[some (.ref a),some (.ref w),some (.ref l),some (.ref d),v4,v5,none,none,none]/\Same H H'/\Lf H' l/\H' d=some (.lst rs)/\rs.length=i/\RmsT H' rs)
   ⟨[],none,none,rfl,s2,lf,hd1,rfl,RmsT.nil⟩ ?_ ?_
  ·rintro i σ H2 hi ⟨rs,v4,v5,rfl,s3,lf2,hd2,rl,rm⟩
   refine ⟨_,rfl,_,_,rfl,rfl,⟨by decide,by decide,bk⟩,l,_,rfl,lf2,?_,?_,fun t H3 t0 tl sb3 lf3=>⟨_,_,rfl,rfl,?_⟩⟩
   ·rw [e18']; decide
   ·rw [e18']; exact b9
   have hd3:=sb3 _ _ dl hd2;refine ⟨_,rfl,.inl ⟨rfl,_,SqL.of hd3⟩,_,rfl,_,rfl,_,_,rfl,rfl,⟨by decide,by decide,bk⟩,l,_,rfl,lf3,?_,?_,fun b H4 b0 bl' sb4 lf4=>⟨_,_,rfl,rfl,?_⟩⟩
   ·rw [e18']; decide
   ·rw [e18']; exact b9
   rw [e18'] at bl' tl;refine ⟨1+t,1+b,rfl,by omega,by omega,b9 (by omega) (by omega),fun p H5 s5 hp5 hp5' => ?_⟩;have hd4:=sb4 _ _ dl hd3;have hd5:=s5 _ _ hd4;have pd:p ≠ d:=fun e=>by rw [e,hd4] at hp5; cases hp5
   refine ⟨d,rs,_,rfl,rfl,hd5,bO (by omega),?_⟩;refine ⟨rs ++ [.ref p],_,_,rfl,fO ((eW (eW s3 sb3 hl) sb4 hl).trans s5) hd0,(lf4.keep s5).own dl,aB,by rw [AB,rl]; rfl,?_⟩;refine ((((rm.keep (sb3.tk lf2)).keep (sb4.tk lf3)).keep s5.tk).keep (Tk.lst hd5)).add (by rw [aI pd]; exact hp5') (jT (by omega) (by omega) (dE 100 (c:=2000000000000000000) (by omega) (by omega)) (dE 100 (c:=2000000000000000000) (by omega) (by omega)))
  ·rintro σ H2 ⟨rs,v4,v5,rfl,s3,lf2,hd2,rl,rm⟩
   have rl1:1<=rs.length:=by omega
   have rl16:rs.length<=16:=by omega
   refine ⟨zLn0,fun g hg => ?_⟩;have hg0:H g=none:=same_none s3 hg;have gd:g ≠ d:=fun e=>by rw [e,hd2] at hg; cases hg
   have s4:=s3.trans (Same.upd (o:=.lst []) hg);refine ⟨_,rfl,a,ns,2,rfl,s4.seq ha,by decide,fun c'=>⟨c',rfl,zLn1,fun l2 hl2 => ?_⟩⟩;have c0':=abs_nonneg c';generalize (if c' < 0 then -c' else c')=n' at *
   have s5:=s4.trans (Same.upd (o:=.lst [.int n']) hl2);have hl20:H l2=none:=same_none s4 hl2;have lg:l2 ≠ g:=fun e=>by rw [e,aB] at hl2; cases hl2
   have ld:l2 ≠ d:=fun e=>by rw [e,Same.upd hg _ _ hd2] at hl2; cases hl2
   refine ⟨_,rfl,w,ws,rfl,s5.seq hw,by have:=six0.l; omega,fun z ss pm st hz => ?_⟩;have six:=Six.of six0 pm st;have hz0:H z=none:=same_none s5 hz;have zl:z ≠ l2:=fun e=>by rw [e,aB] at hz; cases hz
   have zg:z ≠ g:=fun e=>by rw [e,Same.upd hl2 _ _ aB] at hz; cases hz
   have zd:z ≠ d:=fun e=>by rw [e,Same.upd hl2 _ _ (Same.upd hg _ _ hd2)] at hz; cases hz
   have s6:=s5.trans (Same.upd (o:=.lst (ss.map V.str)) hz);refine ⟨6,rfl,by decide,by decide,?_⟩;refine cY (fun i σ H'=>∃ (us:List V) (qs:List (Nat × Nat)) (v4 v8:Option V),σ=[some (.ref a),some (.ref w),some (.ref l2),some (.ref d),v4,v5,some (.ref g),some (.ref z),v8]/\Same H H'/\Lf H' l2/\H' d=some (.lst rs)/\RmsT H' rs/\H' g=some (.lst us)/\H' z=some (.lst (ss.map V.str))/\PsT H' us (qs.map (prS ss))/\Qs qs i 0/\qs.length<=5*min i 5)
    ⟨[],[],_,none,rfl,s6,⟨n',Same.upd hz _ _ aB,c0'⟩,Same.upd hz _ _ (Same.upd hl2 _ _ (Same.upd hg _ _ hd2)),((rm.keep (Same.upd hg).tk).keep (Same.upd hl2).tk).keep (Same.upd hz).tk,Same.upd hz _ _ (Same.upd hl2 _ _ aB),aB,PsT.nil,Qs.nil,by decide⟩ ?_ ?_
   ·rintro j σ H3 hj ⟨us,qs,v4,v8,rfl,s7,lf3,hd3,rm3,hg3,hz3,pt,hq,ql⟩
    have hj6:j < 6:=hj;refine ⟨_,rfl,_,_,rfl,rfl,_,_,rfl,by omega,?_⟩;refine cY (fun i σ H'=>∃ (us:List V) (qs:List (Nat × Nat)) (v4:Option V),σ=[some (.ref a),some (.ref w),some (.ref l2),some (.ref d),v4,v5,some (.ref g),some (.ref z),some (.int (0+j))]/\Same H H'/\Lf H' l2/\H' d=some (.lst rs)/\RmsT H' rs/\H' g=some (.lst us)/\H' z=some (.lst (ss.map V.str))/\PsT H' us (qs.map (prS ss))/\Qs qs j (j+1+i)/\qs.length<=5*min j 5+i)
     ⟨us,qs,v4,rfl,s7,lf3,hd3,rm3,hg3,hz3,pt,⟨hq.pw,fun q h=>by have:=hq.rg q h; omega⟩,by omega⟩ ?_ ?_
    ·rintro i σ H4 hi ⟨us,qs,v4,rfl,s8,lf4,hd4,rm4,hg4,hz4,pt,hq,ql⟩
     have hi6:j+1+i < 6:=by omega
     refine ⟨_,rfl,l2,2,rfl,lf4,by decide,b9,fun m H5 m0 ml sb5 lf5 => ?_⟩;have s9:=eW s8 sb5 hl20;have hd5:=sb5 _ _ (AM ld) hd4;have hg5:=sb5 _ _ (AM lg) hg4;have hz5:=sb5 _ _ zl hz4;have rm5:=rm4.keep (sb5.tk lf4);have pt5:=pt.keep (sb5.tk lf4);refine ⟨rfl,_,rfl,ite2 (fun _ => ?_) (fun _ => ?_)⟩
     ·refine ⟨_,rfl,.inl ⟨rfl,_,SqL.of hg5⟩,_,rfl,_,rfl,z,_,_,_,rfl,rfl,SqL.of hz5,rL six (i:=j) hj6 (by omega),_,rfl,_,rfl,z,_,_,_,rfl,rfl,SqL.of hz5,rL six (i:=j+1+i) hi6 (by omega),zLn2,fun q hq' => ?_⟩
      have qg:q ≠ g:=fun e=>by rw [e,hg5] at hq'; cases hq'
      have ul:us.length=qs.length:=by rw [pt.1,Ag]
      have e1:(upd H5 q (.tup [.str (ss.getD j ""),.str (ss.getD (j+1+i) "")])) g=some (.lst us):=Same.upd hq' _ _ hg5;refine ⟨g,us,_,rfl,rfl,e1,bO (by omega),us ++ [.ref q],qs ++ [(j,j+1+i)],_,rfl,fO (s9.trans (Same.upd hq')) hg0,(lf5.keep (Same.upd hq')).own (AM lg),?_,(rm5.keep (Same.upd hq').tk).keep (Tk.lst e1),aB,?_,?_,hq.add (by omega) hi6,by rw [AB,EF]; omega⟩
      ·rw [aI (AM gd)]
       exact Same.upd hq' _ _ hd5
      ·rw [aI zg]
       exact Same.upd hq' _ _ hz5
      ·rw [Bo]
       refine ((pt5.keep (Same.upd hq').tk).keep (Tk.lst e1)).add ?_;rw [aI qg];exact aB
     ·exact ⟨us,qs,_,rfl,s9,lf5,hd5,rm5,hg5,hz5,pt5,hq.more,by omega⟩
    ·rintro σ H4 ⟨us,qs,v4,rfl,s8,lf4,hd4,rm4,hg4,hz4,pt,hq,ql⟩
     exact ⟨us,qs,_,_,rfl,s8,lf4,hd4,rm4,hg4,hz4,pt,hq.next,by omega⟩
   ·rintro σ H3 ⟨us,qs,v4,v8,rfl,s7,lf3,hd3,rm3,hg3,hz3,pt,hq,ql⟩
    refine ⟨_,rfl,d,rs,rfl,.inl ⟨SqL.of hd3,fun r hr' => ?_⟩⟩;have t1:=Same.upd (o:=.tup rs) hr';refine ⟨_,rfl,g,us,rfl,.inl ⟨SqL.of (t1 _ _ hg3),fun q hq'=>⟨zLn2,fun p hp => ?_⟩⟩⟩;have t2:=Same.upd (o:=.tup us) hq';have t3:=Same.upd (o:=.tup [.ref r,.ref q]) hp;refine k p r q rs us _ _ (((s7.trans t1).trans t2).trans t3) ⟨aB,t3 _ _ (t2 _ _ aB),((rm3.keep t1.tk).keep t2.tk).keep t3.tk,rl1,rl16,t3 _ _ aB,((pt.keep t1.tk).keep t2.tk).keep t3.tk,hq.good six (by omega)⟩
end
theorem uX {H:Hp}{q1 q2 q3:Addr}{t1 t2 t3 b3 e:Int}(h0:0<=e)(h:e < 3)(h1:H q1=some (.tup [.int t1,.int 1]))(r1:Rm t1 1)(h2:H q2=some (.tup [.int t2,.int 1]))(r2:Rm t2 1)(h3:H q3=some (.tup [.int t3,.int b3]))(r3:Rm t3 b3) :
  ∃ q t b,atI [V.ref q1,V.ref q2,V.ref q3] e=some (.ref q)/\H q=some (.tup [.int t,.int b])/\Rm t b:=by
 obtain ⟨n,rfl⟩:=AN h0;have:n=0\/n=1\/n=2:=by omega
 rcases this with rfl | rfl | rfl
 ·exact ⟨q1,_,_,rfl,h1,r1⟩
 ·exact ⟨q2,_,_,rfl,h2,r2⟩
 ·exact ⟨q3,_,_,rfl,h3,r3⟩
section
variable {P:Ax}{w:World}{K:Aa}{mg:Str->Option Value}{base:Heap}
theorem gH:FnScope ["_law_script","_law_wares_here","_law_number","_law_many","_law_rooms","_law_k","_law_drawn"] ["_law_script","_law_wares_here"] (aH sBench):=fnScOk (by decide +kernel)
theorem zV (F:Fun K "_law_bench" "_law_bench" sBench f fd)(T:Txt mg)(cC:Cal P w K mg base CX0 2 "_law_cell_at" ["_law_script","_law_k"] (iK K))(cF:Cal P w K mg base CX0 2 "_law_free_bench" ["_law_script","_law_wares_here"] (gE K))(cM:Cal P w K mg base CX0 2 "_law_mixed" ["_law_cell","_law_k"] fD)(cU:Cal P w K mg base CX0 2 "_law_much" ["_law_number"] pY)(cA:Cal P w K mg base CX0 2 "_law_apart" ["_law_wares_here","_law_cell","_law_often"] (oJ K)):FnOk P w K mg base CX0 3 f fd ["_law_script","_law_wares_here"] (gE K):=by
 refine F.ok gH (fun vs H Q E h => ?_) (fun cdv A outer s H vs Q E hr h => ?_)
 ·obtain ⟨_,_,_,_,rfl,_⟩:=h
  rfl
 ·obtain ⟨a,ns,w,ws,rfl,ha,hw,six0,k⟩:=h
  refine ⟨_,(aC (bA (aQ cJ (aK bD (aJ cC hr rfl aT (aA (pv 0) (aA aG aD))) aG) aG (aU _))
    (aE (aM (aJ cF hr rfl aT (aA (pv 0) (aA (pv 1) aD)))))
    aP)
   (aC (aL (i:=2) gH.nd rfl (Or.inl rfl) (aJ cM hr rfl aT (aA (aJ cC hr rfl aT (aA (pv 0) (aA aG aD))) (aA aG aD))))
   (aC (aL (i:=3) gH.nd rfl (Or.inl rfl) (aK bC aG (aK bD (pv 2) (bU bG (dD (aA aG (aA aG (aA aG (aA aG aD))))) (aK bD (aK aY (pv 2) aG) aG) (fun _ _=>rfl)))))
   (aC (aL (i:=4) gH.nd rfl (Or.inl rfl) (dD aD))
   (aC (dI AU rfl (dU rfl T.range (aA (pv 3) aD)) (aV (i:=5) gH.nd rfl (Or.inl rfl))
    (aC (aL (i:=6) gH.nd rfl (Or.inl rfl) (aJ cM hr rfl aT (aA (aJ cC hr rfl aT (aA (pv 0) (aA aG aD))) (aA (aK bC (pv 5) aG) aD))))
    (aE (dJ (iS Bg Ba AZ bW (pv 4) (aA (bU bG (dD (aA (aW (aA (aK bC aG (aK bD (aK aY (pv 6) aG) aG)) (aA aG aD))) (aA (aW (aA (aK iV aG aG) (aA aG aD))) (aA (aJ cU hr rfl aT (aA (aK aY (pv 6) aG) aD)) aD)))) (aK bD (pv 6) aG) (fun _ _=>rfl)) aD))))))
   (aE (aM (aW (aA (aX bH rfl T.tup' cZ (aA (pv 4) aD)) (aA (aJ cA hr rfl aT (aA (pv 1) (aA (aJ cC hr rfl aT (aA (pv 0) (aA aG aD))) (aA (aK bC aG (aK bD (aK aY (pv 2) aG) aG)) aD)))) aD)))))))))),?_⟩
  refine cut6 ?_
  intros
  refine ⟨_,rfl,a,ns,0,rfl,ha,by decide,fun c=>⟨_,_,rfl,rfl,(by show (0:Int) < 2; decide),rfl,_,rfl,ite2 (fun _ => ?_) (fun _ => ?_)⟩⟩
  ·exact ⟨_,rfl,_,rfl,a,ns,w,ws,rfl,ha,hw,six0,k⟩
  refine ⟨_,rfl,a,ns,1,rfl,ha,by decide,fun c1=>⟨c1,1,rfl,by decide,by decide,fun n n0 nl => ?_⟩⟩;have e4:=bJ (n / 16) (m:=4) (by decide);obtain ⟨m,hm,m1,m16⟩:=aGz e4.1 e4.2;have em:=bJ n (m:=m) (by omega);refine ⟨_,rfl,zLn4,fun z hz=>⟨_,rfl,_,_,rfl,rfl,⟨by decide,b9⟩,_,_,rfl,rfl,(by show (0:Int) < 4; decide),z,_,_,_,rfl,rfl,SqL.of aB,hm,_,_,rfl,rfl,(by show 0 < m; omega),_,_,rfl,rfl,?_⟩⟩;have s1:Same H (upd H z (.lst [.int 5,.int 5,.int 5,.int 16])):=Same.upd hz;refine ⟨zLn0,fun d hd => ?_⟩;have hd0:H d=none:=same_none s1 hd;have s2:=s1.trans (Same.upd (o:=.lst []) hd);refine ⟨_,rfl,_,rfl,by omega,by omega,?_⟩;refine cY (fun i σ H'=>∃ (rs:List V) (v5 v6:Option V),σ=[some (.ref a),some (.ref w),some (.int n),some (.int (1+n % m)),some (.ref d),v5,v6]/\Same H H'/\H' d=some (.lst rs)/\rs.length=i/\RmsT H' rs)
   ⟨[],none,none,rfl,s2,aB,rfl,RmsT.nil⟩ ?_ ?_
  ·rintro i σ H2 hi ⟨rs,v5,v6,rfl,s3,hd2,rl,rm⟩
   refine ⟨_,rfl,a,ns,1,rfl,s3.seq ha,by decide,fun c2=>⟨_,rfl,_,_,rfl,rfl,c2,_,rfl,by omega,by omega,fun g g0 gl => ?_⟩⟩;have e40:=bJ (g / 8) (m:=40) (by decide);have e3:=bJ g (m:=3) (by decide);have g8:0<=g / 8:=DM g0 (by decide);have g8l:g / 8 < 2147483647:=Fn (BD _ g0) gl;refine ⟨_,rfl,.inl ⟨rfl,_,SqL.of hd2⟩,_,rfl,_,_,rfl,rfl,⟨by decide,b9⟩,_,_,rfl,rfl,(by show (0:Int) < 40; decide),_,_,rfl,rfl,zLn2,fun q1 h1 => ?_⟩;have t1:=Same.upd (o:=.tup [.int (1+g / 8 % 40),.int 1]) h1;refine ⟨_,_,rfl,rfl,⟨by decide,by decide,bk⟩,zLn2,fun q2 h2 => ?_⟩;have t2:=Same.upd (o:=.tup [.int ((10:Int) ^ Int.toNat 18),.int 1]) h2;refine ⟨_,rfl,_,_,rfl,rfl,⟨by decide,b9⟩,g / 8,rfl,g8,g8l,fun t b q3 H3 r3 _ t3 h3 h3'=>⟨zLn3,fun y hy => ?_⟩⟩;have t4:=Same.upd (o:=.lst [.ref q1,.ref q2,.ref q3]) hy;have tt:=((t1.trans t2).trans t3).trans t4;obtain ⟨q,t',b',hq,hq',rq⟩:=uX e3.1 e3.2 (t4 _ _ (t3 _ _ (t2 _ _ aB))) (aA2 (by omega) (dE 100 (c:=2000000000000000000) (by omega) (by omega))) (t4 _ _ (t3 _ _ aB)) (aA2 (by rw [e18]; decide) (by rw [e18]; exact dE 100 (c:=2000000000000000000) (by decide) (by decide))) (t4 _ _ h3') r3;have hd3:=tt _ _ hd2;have qd:q ≠ d:=fun e=>by rw [e,hd3] at hq'; cases hq'
   refine ⟨_,rfl,_,_,rfl,rfl,(by show (0:Int) < 3; decide),y,_,_,_,rfl,rfl,SqL.of aB,hq,d,rs,_,rfl,rfl,hd3,bO (by omega),?_⟩;exact ⟨rs ++ [.ref q],_,_,rfl,fO (s3.trans tt) hd0,aB,by rw [AB,rl]; rfl,((rm.keep tt.tk).keep (Tk.lst hd3)).add (by rw [aI qd]; exact hq') rq⟩
  ·rintro σ H2 ⟨rs,v5,v6,rfl,s3,hd2,rl,rm⟩
   have e60:=bJ (n / 64) (m:=60) (by decide);refine ⟨_,rfl,d,rs,rfl,.inl ⟨SqL.of hd2,fun r hr' => ?_⟩⟩;have t1:=Same.upd (o:=.tup rs) hr';refine ⟨_,rfl,_,rfl,a,ns,2,rfl,(s3.trans t1).seq ha,by decide,fun c3=>⟨_,rfl,_,_,rfl,rfl,⟨by decide,b9⟩,_,_,rfl,rfl,(by show (0:Int) < 60; decide),_,_,rfl,rfl,?_⟩⟩;refine ⟨w,ws,c3,_,rfl,(s3.trans t1).seq hw,six0,by omega,fun q us ps H3 t2 hq0 hq pt g=>⟨zLn2,fun p hp => ?_⟩⟩;have t3:=Same.upd (o:=.tup [.ref r,.ref q]) hp;exact k p r q rs us ps _ (((s3.trans t1).trans t2).trans t3) ⟨aB,t3 _ _ (t2 _ _ aB),((rm.keep t1.tk).keep t2.tk).keep t3.tk,by omega,by omega,t3 _ _ hq,pt.keep t3.tk,g⟩
end
end K34
namespace L2
open PySem PySem.Spec PyProof.Rows
def Itr3 (lo c:Int)(n:Nat):It:=⟨fun i _=>i < n,fun i H x H'=>H'=H/\x = .int (lo+(i:Nat)*c),fun i _=>n<=i⟩
def iRng3 (ta:TA):TI:=fun σ H R=>ta σ H fun vs H1=>∃ i j c:Int,vs=[.int i,.int j,.int c]/\(-(2 ^ 20)<=i/\i<=2 ^ 20 /\ -(2 ^ 20)<=j/\j<=2 ^ 20/\0 < c/\c<=2 ^ 20)/\R (Itr3 i c (if i < j then (j - i - 1) / c+1 else 0).toNat) H1
def tSortR (K:Aa)(te:TE):TE:=fun σ H Q=>te σ H fun x H1=>∃ (a:Addr) (ns:List Int),x = .ref a/\SqL K H1 a (ns.map V.int)/\ns.length < 64 /\
 ∀ (p:Addr) (ns':List Int),ns'.Perm ns->ns'.Pairwise (· ≥ ·)->H1 p=none->Q (.ref p) (upd H1 p (.lst (ns'.map V.int)))
abbrev rngObj (n:Int)(t u v:Tok):Obj:={ cls:=.type "range",data:=.fields #[.int 0 t,.int n u,.int 1 v] }
abbrev rngIt (n:Int):Obj:={ cls:=.type "range_iterator",data:=.fields #[rawInt (n - 1),rawInt n,rawInt (-1)] }
section
variable {prog:Ax}{w:World}{A:Around}{E:Value->Shared->Prop}{s:Shared}
end
def iRev (ta:TA):TI:=fun σ H R=>ta σ H fun vs H1=>∃ n:Int,vs=[.int n]/\0<=n/\n < 2 ^ 62/\R (Itr3 (n - 1) (-1) n.toNat) H1
def Itv (K:Aa)(a:Addr)(n:Nat):It :=
 ⟨fun i H=>∃ xs,SqL K H a xs/\xs.length=n/\i < n,fun i H x H'=>H'=H/\∀ xs,SqL K H a xs->xs[n - 1 - i]?=some x,fun i H=>n<=i⟩
def iRevL (K:Aa)(ta:TA):TI:=fun σ H R=>ta σ H fun vs H1=>∃ a xs,vs=[.ref a]/\SqL K H1 a xs/\R (Itv K a xs.length) H1
end L2
namespace L2
open PySem PySem.Spec PyProof.Rows PySem.W
structure Cal1 (P:Ax)(w:World)(K:Frag)(mg:Str->Option Value)(base:Heap)(CX:CXT)(k:Nat)(x:Str)(ps:List Str)(sp:Sp)(dv:V):Prop where
 ex : ∃ (f:Addr) (fd:Bf) (u:Value),mg x=some (.ref f)/\keepIn K (.ref f)=true/\Binds K fd ps [u]/\RelV dv u/\FnOk P w K mg base CX k f fd ps sp
end L2
namespace L2
open PySem PySem.Spec PyProof.Rows
theorem jV {lo:Int}{n:Nat}{g:TG}{tb:TS}{D:Ends}{σ:St}{H:Hp}(Pv:Nat->St->Hp->Prop)(h0:Pv 0 σ H)
  (hs : ∀ i σ H (D':Ends),(∀ σ' H',Pv (i+1) σ' H'->D'.nx σ' H')->i < n->Pv i σ H->g (.int (lo+i)) σ H (tb D')) (hd : ∀ σ H,Pv n σ H->D.nx σ H) :
  ∃ W:Nat->Nat->St->Hp->Prop,(∃ m,W 0 m σ H)/\∀ i m σ H,W i m σ H ->
   ((Itr lo n).stop i H/\D.nx σ H)\/((Itr lo n).go i H/\∃ N:St->Hp->Prop,(∀ σ' H',N σ' H'->∃ m',m' < m/\W (i+1) m' σ' H')/\∀ x H',(Itr lo n).yld i H x H'->g x σ H' fun σ2 H2=>tb { D with nx:=N,ct:=N,bk:=D.nx } σ2 H2) :=
 cY Pv h0 (fun i σ H hi p=>hs i σ H { D with nx:=Pv (i+1),ct:=Pv (i+1),bk:=D.nx } (fun _ _ h=>h) hi p) hd
theorem mW {d:Addr}{ob:Obj}{kvs:List (Key × V)}{g:TG}{tb:TS}{D:Ends}{σ:St}{H:Hp}(Pv:Nat->St->Hp->Prop)(h0:Pv 0 σ H)(hl : ∀ i σ H,i<=kvs.length->Pv i σ H->H d=some (.frz ob (.dK kvs)))
  (hs : ∀ i kv σ H (D':Ends),(∀ σ' H',Pv (i+1) σ' H'->D'.nx σ' H')->kvs[i]?=some kv->Pv i σ H->g (kV kv.1) σ H (tb D')) (hd : ∀ σ H,Pv kvs.length σ H->D.nx σ H) :
  ∃ W:Nat->Nat->St->Hp->Prop,(∃ m,W 0 m σ H)/\∀ i m σ H,W i m σ H ->
   ((Itd d ob kvs).stop i H/\D.nx σ H)\/((Itd d ob kvs).go i H/\∃ N:St->Hp->Prop,(∀ σ' H',N σ' H'->∃ m',m' < m/\W (i+1) m' σ' H')/\∀ v H',(Itd d ob kvs).yld i H v H'->g v σ H' fun σ2 H2=>tb { D with nx:=N,ct:=N,bk:=D.nx } σ2 H2) :=
 aAk Pv h0 hl (fun i x σ H hx p=>hs i x σ H { D with nx:=Pv (i+1),ct:=Pv (i+1),bk:=D.nx } (fun _ _ h=>h) hx p) hd
end L2
namespace L2
open PySem PySem.Spec PyProof.Rows PySem.W
structure CalK (P:Ax)(w:World)(K:Frag)(mg:Str->Option Value)(base:Heap)(CX:CXT)(k:Nat)(x:Str)(ps ks:List Str)(gV:List V->List V->List V)(sp:Sp):Prop where
 ex : ∃ (f:Addr) (fd:Bf) (g:List Value->List Value->List Value),mg x=some (.ref f)/\keepIn K (.ref f)=true/\KBinds K fd ps ks g gV/\FnOk P w K mg base CX k f fd ps sp
section
variable {X:Cx}
end
end L2
namespace K34
open PySem PySem.Spec PyProof.Rows L2 GM TM
def kR (K:Aa):Sp:=fun vs H Q _=>∃ v,vs=[v]/\((IsiD K H v "str" false/\Q (.bl false) H)\/∃ x:Str,v = .str x/\x.length<=1000/\(Wr x->∀ H',Same H H'->Q (.bl true) H')/\(¬ Wr x->∀ H',Same H H'->Q (.bl false) H'))
section
variable {P:Ax}{w:World}{K:Aa}{mg:Str->Option Value}{base:Heap}
theorem nd1:(["sign"]:List Str).Nodup:=by decide +kernel
theorem aDm (c:Nat):(!(AF.Str.occurrences LET ⟨#[c]⟩ 0 LET.length 1).isEmpty)=decide (97<=c/\c<=122):=by
 rw [StrLaws.found_one];have e:LET.cps.toList=(Bc 26).map (97 + ·):=by decide +kernel
 rw [e];refine decide_eq_decide.mpr ⟨fun h => ?_,fun h => ?_⟩
 ·obtain ⟨j,hj,rfl⟩:=AJ.mp h
  have:=Dd.mp hj;omega
 ·exact AJ.mpr ⟨c - 97,Dd.mpr (by omega),by omega⟩
theorem yU:FnScope ["thing"] ["thing"] (aH sIsWare):=fnScOk (by decide +kernel)
theorem vW {tk tk':Tok}(F:Fun K "is_ware" "is_ware" sIsWare f fd)(T:Txt mg)(mM:mg "MOST_LETTERS" = some (.int 8 tk))(mL:mg "LETTERS" = some (.str LET tk')):FnOk P w K mg base CX0 1 f fd ["thing"] (kR K):=by
 refine F.ok yU (fun vs H Q E h => ?_) (fun cdv A outer s H vs Q E hr h => ?_)
 ·obtain ⟨_,rfl,_⟩:=h
  rfl
 ·obtain ⟨v,rfl,h⟩:=h
  refine ⟨_,(aC (bA (eA (bY (aR xU rfl T.isi Bu (aA (pv 0) (aA (eE (v:=.ty "str") rfl T.str' aBp rfl) aD)))))
    (aE (aM eZ)) aP)
   (aE (aM (iT (qL aCz aCz aG (aR nI rfl T.len Bz (aA (pv 0) aD)) (dA (v:=.int 8) rfl mM ⟨_,rfl⟩)) (fT (aR (nJ rfl) rfl T.all' boot_all (aA (vG (N':=["sign"]) (cl:=[]) (fun _=>[none]) rfl rfl (by decide +kernel) (by decide +kernel) (jW (by decide +kernel)) (fun _ _=>nN)
      (aA5 (pv 0)) (fun _ _ _ _ _=>aV (i:=0) nd1 rfl (Or.inl rfl)) (fun _ _ _ _ _=>eN) (fun _ _ _ _ _=>dB vM (pv 0) (dA (v:=.str LET) rfl mL ⟨_,rfl⟩) rfl)) aD))))))),?_⟩
  rcases h with ⟨hi,hb⟩ | ⟨x,rfl,hl,kT,kF⟩
  ·exact ⟨_,rfl,v,"str",false,rfl,hi,_,rfl,iteT hb⟩
  ·have hz:=bL hl
   have le:=lenC x;refine ⟨_,rfl,_,"str",true,rfl,.inl .str_str,_,rfl,iteF ?_⟩;refine ⟨_,rfl,x,rfl,hz,_,_,rfl,rfl,_,rfl,ite2 (fun h1 => ?_) (fun h1 => ?_)⟩
   ·have h1':(1:Int)<=(x.length:Int):=of_decide_eq_true h1
    refine ⟨_,_,rfl,rfl,_,rfl,?_⟩
    by_cases h2:(x.length:Int)<=8
    ·rw [decide_eq_true h2]
     refine iteT ⟨_,rfl,x,rfl,fun D hD => ?_⟩;refine aAp (fun i ys H'=>ys=((cps x).take i).map (fun c=>V.bl (decide (97<=c/\c<=122)))/\Same H H'/\H' D=some (.lst ys)) ⟨by simp,Same.upd hD,aB⟩ ?_ ?_ ?_
     ·rintro i ys H' hi ⟨rfl,_,hD'⟩
      refine ⟨hD',?_⟩;rw [Ag,Ef];exact bO (by omega)
     ·rintro i c ys H' hc ⟨rfl,sm,hD'⟩
      refine ⟨(Keep.refl _).set rfl,?_⟩;unfold yM;dsimp only;rw [if_pos rfl];refine ⟨_,rfl,_,_,rfl,rfl,hD',Nx.mk (Ad.mp hc).1 ⟨?_,fun b o hb => ?_,aB⟩⟩
      ·rw [aDm,CN,hc,Bo]
       rfl
      ·have ne:b ≠ D:=fun z=>by rw [z,hD] at hb; cases hb
       rw [aI ne];exact sm b o hb
     ·rintro ys H' ⟨rfl,sm,hD'⟩
      rw [Ex (Ak _)] at hD';refine ⟨D,(cps x).map (fun c=>decide (97<=c/\c<=122)),rfl,SqL.of (by rw [Cg]; exact hD'),?_⟩
      by_cases a : ∀ c ∈ cps x,97<=c/\c<=122
      ·have e:((cps x).map (fun c=>decide (97<=c/\c<=122))).all id=true:=by
        rw [List.all_map,CG];exact fun c hc=>decide_eq_true (a c hc)
       rw [e];exact kT ⟨by omega,by omega,a⟩ _ sm
      ·have e:((cps x).map (fun c=>decide (97<=c/\c<=122))).all id=false:=by
        rw [Bool.eq_false_iff,Ne,List.all_map,CG];exact fun h=>a fun c hc=>of_decide_eq_true (h c hc)
       rw [e];exact kF (fun z=>a z.lt) _ sm
    ·rw [decide_eq_false h2]
     exact iteF (kF (fun z=>h2 (by have:=z.l8; omega)) _ (Same.refl _))
   ·have h1' : ¬ (1:Int)<=(x.length:Int):=fun z=>h1 (decide_eq_true z)
    exact ⟨_,rfl,iteF (kF (fun z=>h1' (by have:=z.l1; omega)) _ (Same.refl _))⟩
end
end K34
namespace L2
open PySem PySem.Spec PyProof.Rows
def Ite (K:Aa)(b:Addr):It :=
  ⟨fun i H=>∃ ys,SqL K H b ys/\i < ys.length,
   fun i H v H'=>∃ T,H T=none/\v = .ref T/\∀ ys,SqL K H b ys->∃ y,ys[i]?=some y/\H'=upd H T (.tup [.int i,y]),
   fun i H=>∃ ys,SqL K H b ys/\i=ys.length⟩
def EnuSt (n b:Nat)(i:Nat)(h:Heap):Prop:=(∃ old,IsEnum h (n+1) n (i:Int) old)/\h.IsListIter n b i
def iEnu (K:Aa)(ta:TA):TI:=fun σ H R=>ta σ H fun vs H1=>∃ b,vs=[.ref b]/\(∃ ys,SqL K H1 b ys)/\R (Ite K b) H1
end L2
namespace HT
open PySem PySem.Spec PyProof.Rows
open AutoSeq1 (wpAny_loadPart')
section
variable {prog:Ax}{w:World}{A:Around}{E:Value->Shared->Prop}{s:Shared}
end
end HT
namespace L2
open PySem PySem.Spec PyProof.Rows
def IteT (K:Aa)(b:Addr):It :=
  ⟨fun i H=>∃ ys,SqT K H b ys/\i < ys.length,
   fun i H v H'=>∃ T,H T=none/\v = .ref T/\∀ ys,SqT K H b ys->∃ y,ys[i]?=some y/\H'=upd H T (.tup [.int i,y]),
   fun i H=>∃ ys,SqT K H b ys/\i=ys.length⟩
def EnuStT (n b:Nat)(i:Nat)(h:Heap):Prop:=(∃ old,IsEnum h (n+1) n (i:Int) old)/\h.IsTupleIter n b i
def iEnuT (K:Aa)(ta:TA):TI:=fun σ H R=>ta σ H fun vs H1=>∃ b,vs=[.ref b]/\(∃ ys,SqT K H1 b ys)/\R (IteT K b) H1
theorem Same.seqt {K:Aa}{H H':Hp}{a:Addr}{xs:List V}(e:Same H H')(h:SqT K H a xs):SqT K H' a xs:=by
 rcases h with h | h
 ·rcases h with h | ⟨o,h⟩
  ·exact .inl (.inl (e _ _ h))
  ·exact .inl (.inr ⟨o,e _ _ h⟩)
 ·exact .inr h
theorem xO {K:Aa}{a b:Addr}{xs ys:List V}{D:Addr}{g:TG}{te:TE}{σ0:St}{QD:Hp->Prop}{H1:Hp}(ha:SqT K H1 a xs)(hb:SqT K H1 b ys)(hn:xs.length=ys.length)(Pr:Nat->V->Prop)(hD:H1 D=none)(hl:ys.length<=1000)
  (hs : ∀ (i:Nat) x y T Hx (R:VK),xs[i]?=some x->ys[i]?=some y->Same H1 Hx->Hx T=some (.tup [x,y])->(∀ v H4,Same Hx H4->Pr i v->R v H4)->g (.ref T) σ0 Hx fun σ2 H2=>Keep σ0 σ2/\te σ2 H2 R)
  (hd : ∀ zs H',Same H1 H'->H' D=some (.lst zs)->zs.length=xs.length->(∀ (i:Nat) z,zs[i]?=some z->Pr i z)->QD H') :
  ∃ W:Nat->Nat->List V->Hp->Prop,(∃ m,W 0 m [] (upd H1 D (.lst [])))/\∀ i m zs H,W i m zs H->H D=some (.lst zs)/\zs.length < Aw /\
   (((Itz2 K a b).stop i H/\QD H)\/((Itz2 K a b).go i H/\∀ x H',(Itz2 K a b).yld i H x H'->g x σ0 H' fun σ2 H2=>Keep σ0 σ2/\yM σ2 H2 fun b H3 =>
    if b=true then te σ2 H3 fun y H4=>H4 D=some (.lst zs)/\∃ m',m' < m/\W (i+1) m' (zs ++ [y]) (upd H4 D (.lst (zs ++ [y]))) else ∃ m',m' < m/\W (i+1) m' zs H3)):=by
 refine ⟨fun i m zs H=>m=xs.length - i/\i<=xs.length/\Same H1 H/\H D=some (.lst zs)/\zs.length=i/\∀ (j:Nat) z,zs[j]?=some z->Pr j z,
  ⟨_,rfl,BM _,Same.upd hD,aB,rfl,fun j z h=>by simp at h⟩,?_⟩
 rintro i m zs H ⟨rfl,hi,sm,hDH,zl,zp⟩
 refine ⟨hDH,bO (by omega),?_⟩
 by_cases hlt:i < xs.length
 ·refine .inr ⟨⟨xs,ys,sm.seqt ha,sm.seqt hb,hlt,by omega⟩,fun x H' y => ?_⟩
  obtain ⟨T,hT,rfl,y⟩:=y;obtain ⟨x',y',e1,e2,rfl⟩:=y xs ys (sm.seqt ha) (sm.seqt hb);have st:=Same.upd (o:=.tup [x',y']) hT;have:=hs i x' y' T _ (fun y H4=>H4 D=some (.lst zs)/\∃ m',m' < xs.length - i/\(m'=xs.length - (i+1)/\i+1<=xs.length/\Same H1 (upd H4 D (.lst (zs ++ [y])))/\(upd H4 D (.lst (zs ++ [y]))) D=some (.lst (zs ++ [y]))/\(zs ++ [y]).length=i+1/\∀ (j:Nat) z,(zs ++ [y])[j]?=some z->Pr j z)) e1 e2 (sm.trans st) aB (fun v H4 s4 pv => ?_)
  ·exact this
  ·refine ⟨s4 _ _ (st _ _ hDH),xs.length - (i+1),by omega,rfl,hlt,fun b o e => ?_,aB,by rw [AB,zl]; rfl,fun j z hz => ?_⟩
   ·rw [aI (bE e hD)]
    exact s4 _ _ (st _ _ (sm _ _ e))
   ·by_cases hj:j < zs.length
    ·rw [De hj] at hz
     exact zp j z hz
    ·have jl:=(Ad.mp hz).1
     rw [AB] at jl;have jl':j < zs.length+1:=jl;have ej:j=zs.length:=by omega
     subst ej;rw [Cu (Ak _),Nat.sub_self] at hz;obtain rfl:v=z:=by simpa using hz
     rw [zl];exact pv
 ·have e:i=xs.length:=by omega
  subst e;exact .inl ⟨⟨xs,ys,sm.seqt ha,sm.seqt hb,.inl rfl⟩,hd zs H sm hDH zl zp⟩
def rNeTs (K:Aa):R2:=fun x y H Q=>∃ a b xs,x = .ref a/\y = .ref b/\SqT K H a xs/\SqT K H b xs/\(∀ v ∈ xs,Sf v)/\Q (.bl false) H
section
variable {X:Cx}{pins:List (Addr × Obj)}{σ:St}{H:Hp}{s:Shared}{A:Around}{E:Value->Shared->Prop}
structure KDict (w:World)(K:Aa)(a:Addr)(f:Str->Option Addr):Prop where
 lo:(a == DG)=false
 ex : ∃ es n,K.lookup a=some ⟨.type "dict",none,.dict es n,#[]⟩/\PySem.W.KeysLit w.params es.toList/\∀ x,findBy ES es x=(f x).map AC
theorem aDp (D:KDict X.w X.K a f)(I:Inv X pins σ H s)(h : ∀ s',Inv X pins σ H s'->Q (((f x).map AC).getD .none) s') :
  wpAny (model X.prog X.w) A (call (.builtin "dict.get") [.ref a,.str x t]) Q E s:=by
 obtain ⟨es,n,hl,hk,hf⟩:=D.ex;have hm:=PySem.W.mapOf_K (prog:=X.prog) (w:=X.w) I.kIn hl hk;have q : ∀ s',Inv X pins σ H s'->Q ((findBy ES es x).getD .none) s':=fun s' I'=>by rw [hf x]; exact h s' I'
 exact call_meetsIn DB hm.typeIs PySem.F.entry_dict_get (PySem.F.args_dict_get_2 _ _) (meets_dict_get (strKind X.prog X.w) a (strKind_is X.prog X.w x t) D.lo) ⟨_,hm,q _ (I.tok _)⟩
end
theorem Inv.thaw {σ:St}(I:Inv X pins σ H s)(hd:H d=some (.frz ob (.dK kvs)))(h0 : ∀ o u,X.H₀ d ≠ some (.frz o u)):Inv X pins σ (upd H d (.dK kvs)) s:=by
 have ne : ∀ b,H b=none->b ≠ d:=fun b n z=>by rw [z,hd] at n; cases n
 have nd : ∀ b u,H b=some u->u ≠ .frz ob (.dK kvs)->b ≠ d:=fun b u e n z=>by
  rw [z,hd] at e;exact n (AH e).symm
 have st : ∀ {a:Addr} {u:HO},ObjOk X.prog X.w H s.heap a u->ObjOk X.prog X.w (upd H d (.dK kvs)) s.heap a u:=fun x =>
  x.stay (fun c v _ q=>q) (fun c q=>by rw [aI (nd c _ q (by intro z; cases z))]; exact q) fun c xs q=>by rw [aI (nd c _ q (by intro z; cases z))]; exact q
 refine ⟨I.ok,I.os,I.bare,⟨I.base.keep,I.base.slot,fun b o e n hx => ?_,I.base.there,fun b xs e => ?_,fun b o u e => ?_,fun b ps e => ?_⟩,I.loc,I.cell,?_,fun x c e => ?_,fun p hp => ?_,fun b u e => ?_,I.len⟩
 ·have z:=I.base.free b o e n hx
  rw [aI (ne b z)];exact z
 ·have z:=I.base.tups b xs e
  rw [aI (nd b _ z (by intro z; cases z))];exact z
 ·have z:=I.base.frzs b o u e
  rw [aI (fun q=>h0 o u (by rw [<- q]; exact e))];exact z
 ·obtain ⟨m,z⟩:=I.base.tbls b ps e
  exact ⟨m,by rw [aI (nd b _ z (by intro z; cases z))]; exact z⟩
 ·rw [aI (ne _ I.free)]
  exact I.free
 ·rw [aI (ne _ (I.freeC x c e))]
  exact I.freeC x c e
 ·obtain ⟨q1,q2,q3⟩:=I.pin p hp
  exact ⟨q1,by rw [aI (ne _ q2)]; exact q2,q3⟩
 ·by_cases e':b=d
  ·subst e'
   rw [aB] at e;cases e;exact st (I.hok b _ hd).2
  ·rw [aI e'] at e
   exact st (I.hok b u e)
def tThaw (H₀:Hp)(te:TE):TE:=fun σ H Q=>te σ H fun v H'=>∃ d ob kvs,H' d=some (.frz ob (.dK kvs))/\(∀ o u,H₀ d ≠ some (.frz o u))/\Q v (upd H' d (.dK kvs))
def rUpd:V->List V->Hp->VK->Prop:=fun x vs H Q=>∃ d o kvs more,x = .ref d/\vs=[.ref o]/\d ≠ o/\H d=some (.dK kvs)/\H o=some (.dK more)/\kvs.length+more.length<=1000/\Q .non (upd H d (.dK (jR kvs more)))
section
variable {prog:Ax}{w:World}{A:Around}{E:Value->Shared->Prop}{s:Shared}
end
def tMinD (te:TE):TE:=fun σ H Q=>te σ H fun x H1=>∃ l n,x = .ref l/\H1 l=some (.lst [.int n])/\Q (.int n) H1
structure MCal (P:Ax)(w:World)(K:Aa)(mg:Str->Option Value)(base:Heap)(CX:CXT)(k:Nat)(C:Addr)(m:Str)(ps:List Str)(sp:Sp):Prop where
 ex : ∃ (f:Addr) (fd:Bf),Meth K C m f/\Binds K fd ps []/\FnOk P w K mg base CX k f fd ps sp
section
variable {X:Cx}{CX:CXT}{k:Nat}{C:Addr}{m:Str}{ps:List Str}{sp:Sp}{E:XK}{o e:Expr}{es:List Expr}{ta:TE}{t:TA}{apos pos:Pos}
theorem vE {K:Aa}{f:Str}(h:X.K=K)(he:PE X o ta)(hb:Ed o f X.env (eval o X.env)=eval o X.env):PE X (.Attribute o f pos) (tFld K ta f):=h ▸ jO he hb
end
def aD9 (H₀:Hp)(t:TS):TS:=fun D σ H=>t { D with nx:=fun σ' H'=>∃ d ob kvs,H' d=some (.frz ob (.dK kvs))/\(∀ o u,H₀ d ≠ some (.frz o u))/\D.nx σ' (upd H' d (.dK kvs)) } σ H
theorem uP {X:Cx}{st:Stmt}{t:TS}(h:PS X st t):PS X st (aD9 X.H₀ t):=by
 intro pins s σ H D I q;refine thn (h pins s σ H _ I q) fun f s1 z => ?_;cases f with
 | next =>
  obtain ⟨σ',H',I',d,ob,kvs,hd,h0,q'⟩:=z;exact ⟨σ',_,I'.thaw hd h0,q'⟩
 | brk=>exact z
 | cont=>exact z
 | ret u=>exact z
section
variable {X:Cx}{e:Expr}{nm m:Str}{p apos cpos pos:Pos}{ty ta:TE}{aF:Addr}{f:Str->Option Addr}
def aGg (f:Str->Option Addr)(ty:TE):TE:=fun σ H Q=>ty σ H fun y H2=>∃ x,y = .str x/\Q (((f x).map V.ref).getD .non) H2
theorem aCs (D:KDict X.w X.K aF f)(hg:Gl X nm)(hm:X.mg nm=some (.ref aF))(he:PE X e ty)(M:M1 X (.Name nm p) "get" apos e cpos)(hd:(nm == ("__debug__" : Str))=false:=by decide):PE X (.Call (.Attribute (.Name nm p) "get" apos) [e] [] cpos) (aGg f ty):=by
 intro pins s σ H Q I h;refine wpAny_Call_method M.base M.few M.line Fs DB PySem.F.type_dict_get (eU I hg hm ?_ hd);obtain ⟨es,n,hl,hk,hf⟩:=D.ex;have hm':=PySem.W.mapOf_K (prog:=X.prog) (w:=X.w) I.kIn hl hk;refine ⟨hm'.typeIs,fun b q => ?_,?_⟩
 ·cases q
  exact ⟨_,I.kIn _ _ hl,rfl⟩
 rw [M.trees];refine Dy rfl (EL (El (thn (he pins s σ H _ I h) fun iv s2 ⟨y,H2,I2,ry,x,ex,q2⟩=>Calls.spliced_nil ?_)));subst ex;obtain ⟨t,rfl⟩:=(show ∃ t,iv=Value.str x t from ry);refine aDp D I2 fun s3 I3=>⟨_,H2,I3,?_,q2⟩;cases f x with
 | none=>exact rfl
 | some a=>exact rfl
def tMethD (m:Str)(Cs:List (Addr × Sp))(E:XK)(ta:TE):TE:=fun σ H Q=>ta σ H fun x H1=>∃ C sp a dx fs,(C,sp) ∈ Cs/\x = .ref a/\H1 a=some (.ins C dx fs)/\fs.lookup m=none/\sp [x] H1 Q E
end
structure InsK (K:Aa)(C:Addr):Prop where
 cl:Cls K C
 ha:Bb K (.ref C) "__class__" = some (some (.builtin "object.__class__"))
 hn:PySem.W.specialIn K (.builtin "object.__class__") "__get__" = some (some (.builtin "getset_descriptor.__get__"))
 htk:PySem.W.takesIn K (.builtin "object.__class__")=some true
 hm:PySem.W.mroIn K C (.type "object")=some true
end L2
namespace PySem.SeqAt
open PySem MeetsSeq
end PySem.SeqAt
namespace HT
open PySem PySem.Spec PyProof.Rows
section
variable {prog:Ax}{w:World}{A:Around}{E:Value->Shared->Prop}{s:Shared}
theorem getItem_tuple_whole {t sl:Addr}{items:Array Value}{vl vu:Value}{lo hi:Option Int}{Q:Value->Shared->Prop}(ht:IsTup s.heap t items)(hs:s.heap.IsSliceOf sl vl vu .none)(pl:IsPart vl lo)(pu:IsPart vu hi)
  (hw:sIx items.size 0 lo=0/\sIx items.size items.size hi=items.size) (h:Q (.ref t) s):wpAny (model prog w) A (getItem (.ref t) (.ref sl)) Q E s:=by
 obtain ⟨os,hos,hcs,hds⟩:=id hs;have hTs:s.TypeIs (.ref sl) "slice" := ⟨os,hos,hcs⟩;unfold getItem
 try with_reducible refine Br ?_
 first | refine Ab (Af ?_) | skip
 refine Ab (wpAny_sequenceKey ht.typeIs (by decide) ?_);refine Ab (Bs (name:=CM "__getitem__") ht.typeIs BG
  (Bq BG ht.typeIs entry_tuple_getitem ?_ (args_tuple_getitem _ _)))
 show wpAny _ _ (AF.Tuple.tupleItemsOf (.ref t) >>= _) _ _ s;refine Ab (tupleItemsOf_ ht ?_);refine Ab (DV hTs ?_);rw [if_pos (by decide)];refine Ab (eR hs pl pu ?_);rw [hw.1,hw.2];have hyes:(((0:Nat):Int) == 0 && (1:Int) == 1 && (items.size - 0) == items.size)=true:=by simp
 show wpAny _ _ (if (((0:Nat):Int) == 0 && (1:Int) == 1 && (items.size - 0) == items.size)=true then _ else _) _ _ s;rw [if_pos hyes];refine Ab (m:=AF.Tuple.tupleIsExact (.ref t)) ?_;unfold AF.Tuple.tupleIsExact;refine Ab (DV ht.typeIs (Af ?_));rw [if_pos (by decide)];exact Ab (Di (Af ⟨_,rfl,Af h⟩))
end
end HT
namespace L2
open PySem PySem.Spec PyProof.Rows
def rIndexF:V->List V->Hp->VK->Prop:=fun x vs H Q=>∃ l xs y,∃ i j:Nat,∃ z,x = .ref l/\vs=[y,.int (i:Int)]/\H l=some (.lst xs)/\eK y=true/\xs.all eK=true/\i<=j/\xs[j]?=some z/\eqV z y=true /\
 (∀ m z,i<=m->m < j->xs[m]?=some z->eqV z y=false)/\Q (.int (j:Int)) H
section
variable {X:Cx}
def aGq (K:Aa):V->Option Int->Option Int->Hp->VK->Prop:=fun x lo hi H Q=>∃ a xs,x = .ref a/\H a=some (.tup xs)/\∀ p H',Same H H'->H' p=some (.tup (cutV xs lo hi))->Q (.ref p) H'
theorem aB8:SlR X (aGq X.K):=by
 intro pins s σ H x v vl vu lo hi sl Q I rx hs pl pu h;obtain ⟨a,xs,rfl,hx,q⟩:=h
 by_cases hw:HT.sIx xs.length 0 lo=0/\HT.sIx xs.length xs.length hi=xs.length
 ·cases rx
  obtain ⟨its,r,ht,hz⟩:=I.tuple (SqT.of hx);have hlen:its.toArray.size=xs.length:=by rw [Aj]; exact r.length.symm
  refine ⟨"tuple",_,BG.lookup,ht.typeIs,?_⟩;refine HT.getItem_tuple_whole ht hs pl pu (by rw [hlen]; exact hw) ⟨.ref a,H,I,rfl,q a H (Same.refl _) ?_⟩;unfold cutV;rw [hw.1,hw.2,List.drop_zero,Nat.sub_zero,Bw];exact hx
 ·exact aEi pins s σ H _ v vl vu lo hi sl Q I rx hs pl pu ⟨a,xs,rfl,SqT.of hx,hw,fun p hp=>q p _ (Same.upd hp) aB⟩
end
end L2
namespace K34
open PySem PySem.Spec PyProof.Rows L2 GM TM
inductive WhV (K:Aa)(H:Hp):V->Bool->Prop where
 | int {n}:WhV K H (.int n) true
 | bl {b}:WhV K H (.bl b) false
 | oth {v}:Isi K H v "int" false->WhV K H v false
def spWh (K:Aa):Sp:=fun vs H Q _=>∃ v β,vs=[v]/\WhV K H v β/\Q (.bl β) H
inductive AmV (K:Aa)(H:Hp):V->Bool->Prop where
 | two {a t b}:SqT K H a [.int t,.int b]->AmV K H (.ref a) (decide (0<=t) && (decide (1<=b) && decide (G t b=1)))
 | tru {a k b}:SqT K H a [.bl k,.int b]->AmV K H (.ref a) false
 | len {a xs}:SqT K H a xs->xs.length ≠ 2->AmV K H (.ref a) false
 | oth {v}:Isi K H v "tuple" false->AmV K H v false
def uF (K:Aa):Sp:=fun vs H Q _=>∃ v β,vs=[v]/\AmV K H v β/\Q (.bl β) H
def oH (K:Aa)(aO:Addr):Sp:=fun vs H Q _=>∃ q t b,vs=[.ref aO,.ref q]/\SqT K H q [.int t,.int b]/\Q (.bl (decide (b < t))) H
structure AmG (K:Aa)(H:Hp)(a:Addr)(t b:Int):Prop where
 sq:SqT K H a [.int t,.int b]
 t0:0<=t
 b1:1<=b
 g1:G t b=1
inductive KindV (K:Aa)(H:Hp)(nb:Nat):Str->V->Bool->Prop where
 | ph {n:Int}:KindV K H nb "phial" (.int n) (decide (0<=n) && decide (n < (nb:Nat)))
 | phb {v}:WhV K H v false->KindV K H nb "phial" v false
 | wa {x:Str}:x.length<=1000->KindV K H nb "ware" (.str x) (decide (Wr x))
 | wo {v}:Isi K H v "str" false->KindV K H nb "ware" v false
 | am {k v}:k = "amount" \/ k = "level" \/ k = "part" -> AmV K H v false->KindV K H nb k v false
 | lv {a t b}:AmG K H a t b->KindV K H nb "level" (.ref a) true
 | mu {a t b}:AmG K H a t b->KindV K H nb "amount" (.ref a) (!decide ([t,b]=[0,1]))
 | pa {a t b}:AmG K H a t b->KindV K H nb "part" (.ref a) (!decide ([t,b]=[0,1]) && !decide (b < t))
def BnV (H:Hp)(b:Addr)(nb:Nat):Prop:=∃ r q rs,H b=some (.tup [.ref r,q])/\H r=some (.tup rs)/\rs.length=nb
theorem BnV.keep {nb:Nat}(s:Same H H')(h:BnV H b nb):BnV H' b nb:=by
 obtain ⟨r,q,rs,h1,h2,h3⟩:=h;exact ⟨r,q,rs,s _ _ h1,s _ _ h2,h3⟩
def kP (K:Aa):Sp:=fun vs H Q _=>∃ b nb k v β,vs=[.ref b,.str k,v]/\BnV H b nb/\KindV K H nb k v β/\∀ H',Same H H'->Q (.bl β) H'
theorem pJ {K:Aa}{H:Hp}{a:Addr}{t b:Int}(h:AmG K H a t b):AmV K H (.ref a) true:=by
 have:=AmV.two h.sq;rw [decide_eq_true h.t0,decide_eq_true h.b1,decide_eq_true h.g1] at this;exact this
section
variable {P:Ax}{w:World}{K:Aa}{mg:Str->Option Value}{base:Heap}
theorem aEp:FnScope ["thing"] ["thing"] (aH sIsWh):=fnScOk (by decide +kernel)
theorem aC9 (F:Fun K "is_whole_number" "is_whole_number" sIsWh f fd)(T:Txt mg):FnOk P w K mg base CX0 1 f fd ["thing"] (spWh K):=by
 refine F.ok aEp (fun vs H Q E h => ?_) (fun cdv A outer s H vs Q E hr h => ?_)
 ·obtain ⟨_,_,rfl,_⟩:=h
  rfl
 ·obtain ⟨v,β,rfl,h,k⟩:=h
  refine ⟨_,aE (aM (iT (aR dY rfl T.isi Bu (aA (pv 0) (aA (eE (v:=.ty "int") rfl T.int' xW rfl) aD)))
   (fT (vD (aR dY rfl T.isi Bu (aA (pv 0) (aA (eE (v:=.ty "bool") rfl T.bool' xY rfl) aD))))))),?_⟩
  cases h with
  | int=>exact ⟨_,rfl,_,"int",true,rfl,.int_int,_,rfl,iteT ⟨_,rfl,_,"bool",false,rfl,.int_bool,_,rfl,k⟩⟩
  | bl=>exact ⟨_,rfl,_,"int",true,rfl,.bl_int,_,rfl,iteT ⟨_,rfl,_,"bool",true,rfl,.bl_bool,_,rfl,k⟩⟩
  | oth h=>exact ⟨_,rfl,_,"int",false,rfl,h,_,rfl,iteF k⟩
theorem aEq:FnScope ["thing"] ["thing"] (aH sIsAm):=fnScOk (by decide +kernel)
theorem aDa (F:Fun K "is_amount" "is_amount" sIsAm f fd)(T:Txt mg)(cW:Cal P w K mg base CX0 1 "is_whole_number" ["thing"] (spWh K))(cG:Cal P w K mg base CX0 1 "common_divisor" ["one","other"] yP):FnOk P w K mg base CX0 2 f fd ["thing"] (uF K):=by
 refine F.ok aEq (fun vs H Q E h => ?_) (fun cdv A outer s H vs Q E hr h => ?_)
 ·obtain ⟨_,_,rfl,_⟩:=h
  rfl
 ·obtain ⟨v,β,rfl,h,k⟩:=h
  refine ⟨_,(aC (bA (PW.pt (hJ (eA (bY (aR dY rfl T.isi Bu (aA (pv 0) (aA (eE (v:=.ty "tuple") rfl T.tup' cZ rfl) aD))))) (fB (aQ mJ (aR aZ rfl T.len Bz (aA (pv 0) aD)) aG (aU _)))))
    (aE (aM eZ))
    aP)
   (aC (bA (PW.pt (hJ (eA (bY (aJ cW hr rfl aT (aA (pit 0 0) aD)))) (fB (eA (bY (aJ cW hr rfl aT (aA (pit 0 1) aD)))))))
    (aE (aM eZ))
    aP)
   (aE (aM (iT (dB aE7 (pit 0 0) aG (aU _)) (iT (dB aE7 (pit 0 1) aG (aU _)) (fT (dB cJ (aJ cG hr rfl aT (aA (pit 0 0) (aA (pit 0 1) aD))) aG (aU _))))))))),?_⟩
  refine cut3 ?_
  intros
  have kk : ∀ b:Bool,b=β->Q (.bl b) H:=fun _ e=>e ▸ k;cases h with
  | oth h=>exact ⟨_,rfl,_,"tuple",false,rfl,h,_,rfl,iteT k⟩
  | @len a xs h n =>
   refine ⟨_,rfl,_,"tuple",true,rfl,.tup_tuple h,_,rfl,iteF ⟨_,rfl,a,_,rfl,.inr h,rfl,_,rfl,ite2 (fun _=>k) (fun hc => ?_)⟩⟩;exfalso;refine hc ?_;have e:decide (V.int (xs.length:Int)=V.int 2)=false:=decide_eq_false fun z=>n (by have:=V.int.inj z; omega);show (!decide (V.int (xs.length:Int)=V.int 2))=true;rw [e];rfl
  | @tru a kb b h =>
   refine ⟨_,rfl,_,"tuple",true,rfl,.tup_tuple h,_,rfl,iteF ⟨_,rfl,a,_,rfl,.inr h,rfl,_,rfl,iteF ?_⟩⟩;exact ⟨a,_,_,rfl,h,rfl,.bl kb,false,rfl,.bl,_,rfl,iteT k⟩
  | @two a t b h =>
   refine ⟨_,rfl,_,"tuple",true,rfl,.tup_tuple h,_,rfl,iteF ⟨_,rfl,a,_,rfl,.inr h,rfl,_,rfl,iteF ?_⟩⟩;refine ⟨a,_,_,rfl,h,rfl,.int t,true,rfl,.int,_,rfl,iteF ⟨a,_,_,rfl,h,rfl,.int b,true,rfl,.int,_,rfl,iteF ?_⟩⟩;refine ⟨a,_,_,rfl,h,rfl,_,_,rfl,rfl,_,rfl,ite2 (fun h0 => ?_) (fun h0 => ?_)⟩
   ·have t0:0<=t:=of_decide_eq_true h0
    refine ⟨a,_,_,rfl,h,rfl,_,_,rfl,rfl,_,rfl,ite2 (fun h1 => ?_) (fun h1 => ?_)⟩
    ·have b1:1<=b:=of_decide_eq_true h1
     refine ⟨a,_,_,rfl,h,rfl,a,_,_,rfl,h,rfl,t,b,rfl,t0,by omega,rfl,kk _ ?_⟩;rw [decide_eq_true t0,decide_eq_true b1];simp
    ·refine kk _ ?_
     have nb : ¬ 1<=b:=fun z=>h1 (decide_eq_true z);rw [decide_eq_true t0,decide_eq_false nb];rfl
   ·refine kk _ ?_
    have nt : ¬ 0<=t:=fun z=>h0 (decide_eq_true z);rw [decide_eq_false nt];rfl
theorem aAy:FnScope ["one","other"] ["one","other"] (aH sLess):=fnScOk (by decide +kernel)
theorem zQ (F:Fun K "less" "less" sLess f fd)(sO : ∀ H:Hp,SqT K H aO [.int 1,.int 1]):FnOk P w K mg base CX0 1 f fd ["one","other"] (oH K aO):=by
 refine F.ok aAy (fun vs H Q E h => ?_) (fun cdv A outer s H vs Q E hr h => ?_)
 ·obtain ⟨_,_,_,rfl,_⟩:=h
  rfl
 ·obtain ⟨q,t,b,rfl,h,k⟩:=h
  refine ⟨_,aE (aM (dB vL (aK aA7 (pit 0 0) (pit 1 1)) (aK aA7 (pit 1 0) (pit 0 1)) (aU _))),?_⟩;refine ⟨aO,_,_,rfl,sO H,rfl,q,_,_,rfl,h,rfl,_,_,rfl,rfl,.inl ⟨by decide,by decide⟩,q,_,_,rfl,h,rfl,aO,_,_,rfl,sO H,rfl,_,_,rfl,rfl,.inr ⟨by decide,by decide⟩,_,_,rfl,rfl,?_⟩;have e:decide ((1:Int)*b < t*1)=decide (b < t):=by rw [Int.one_mul,Int.mul_one]
  show Q (.bl (decide ((1:Int)*b < t*1))) H;rw [e];exact k
theorem yT:FnScope ["bench","kind","thing"] ["bench","kind","thing"] (aH sOfKind):=fnScOk (by decide +kernel)
theorem vU (F:Fun K "is_of_kind" "is_of_kind" sOfKind f fd)(T:Txt mg)(mN:mg "NOUGHT" = some (.ref aN))(sN : ∀ H:Hp,SqT K H aN [.int 0,.int 1])(mO:mg "ONE" = some (.ref aO))(cW:Cal P w K mg base CX0 2 "is_whole_number" ["thing"] (spWh K))(cI:Cal P w K mg base CX0 2 "is_ware" ["thing"] (kR K))(cA:Cal P w K mg base CX0 2 "is_amount" ["thing"] (uF K))(cL:Cal P w K mg base CX0 2 "less" ["one","other"] (oH K aO)):FnOk P w K mg base CX0 3 f fd ["bench","kind","thing"] (kP K):=by
 refine F.ok yT (fun vs H Q E h => ?_) (fun cdv A outer s H vs Q E hr h => ?_)
 ·obtain ⟨_,_,_,_,_,rfl,_⟩:=h
  rfl
 ·obtain ⟨b,nb,kd,v,β,rfl,⟨r,q0,rs,hb,hr',rl⟩,h,k⟩:=h
  refine ⟨_,(aC (bA (aQ cJ (pv 1) aS (aU _))
    (aE (aM (iT (aJ cW hr rfl aT (aA (pv 2) aD)) (fT (qL aCz vL aG (pv 2) (aR aZ rfl T.len Bz (aA (pit 0 0) aD)))))))
    aP)
   (aC (bA (aQ cJ (pv 1) aS (aU _))
    (aE (aM (aJ cI hr rfl aT (aA (pv 2) aD))))
    aP)
   (aC (bA (eA (bY (aJ cA hr rfl aT (aA (pv 2) aD))))
    (aE (aM eZ))
    aP)
   (aC (bA (aQ cJ (pv 1) aS (aU _))
    (aE (aM eZ))
    aP)
   (aE (aM (iT (dB (vJ hr.units) (pv 2) (dA (v:=.ref aN) rfl mN rfl) (aU _)) (fT (aCq (dB cJ (pv 1) aS (aU _)) (fT (vD (aJ cL hr rfl aT (aA (dA (v:=.ref aO) rfl mO rfl) (aA (pv 2) aD)))))))))))))),?_⟩
  refine cut5 ?_
  intros
  have k0:=k H (Same.refl _);have eqS : ∀ {x y:Str} {B:Prop},x ≠ y->decide (V.str x=V.str y)=false:=fun {x y B} n=>decide_eq_false fun z=>n (V.str.inj z);cases h with
  | @ph n =>
   refine ⟨_,rfl,rfl,_,rfl,iteT ⟨_,rfl,_,true,rfl,.int,_,rfl,iteT ⟨_,rfl,_,_,rfl,rfl,_,rfl,ite2 (fun h0 => ?_) (fun h0 => ?_)⟩⟩⟩
   ·have n0:0<=n:=of_decide_eq_true h0
    refine ⟨b,_,_,rfl,SqT.of hb,rfl,r,_,rfl,.inr (SqT.of hr'),_,_,rfl,rfl,?_⟩;rw [rl];rw [decide_eq_true n0] at k0;exact k0
   ·have n0 : ¬ 0<=n:=fun z=>h0 (decide_eq_true z)
    rw [decide_eq_false n0] at k0;exact k0
  | phb h=>exact ⟨_,rfl,rfl,_,rfl,iteT ⟨_,rfl,_,false,rfl,h,_,rfl,iteF k0⟩⟩
  | @wa x xl =>
   refine ⟨_,rfl,rfl,_,rfl,iteF ⟨_,rfl,rfl,_,rfl,iteT ⟨_,rfl,_,rfl,.inr ⟨x,rfl,xl,fun w1 H' s' => ?_,fun w1 H' s' => ?_⟩⟩⟩⟩
   ·have:=k H' s'
    rw [decide_eq_true w1] at this;exact this
   ·have:=k H' s'
    rw [decide_eq_false w1] at this;exact this
  | wo h=>exact ⟨_,rfl,rfl,_,rfl,iteF ⟨_,rfl,rfl,_,rfl,iteT ⟨_,rfl,_,rfl,.inl ⟨.inl h,k0⟩⟩⟩⟩
  | am hk h =>
   rcases hk with rfl | rfl | rfl <;> exact ⟨_,rfl,rfl,_,rfl,iteF ⟨_,rfl,rfl,_,rfl,iteF ⟨_,rfl,_,false,rfl,h,_,rfl,iteT k0⟩⟩⟩
  | lv h=>exact ⟨_,rfl,rfl,_,rfl,iteF ⟨_,rfl,rfl,_,rfl,iteF ⟨_,rfl,_,true,rfl,pJ h,_,rfl,iteF ⟨_,rfl,rfl,_,rfl,iteT k0⟩⟩⟩⟩
  | @mu a t b h =>
   refine ⟨_,rfl,rfl,_,rfl,iteF ⟨_,rfl,rfl,_,rfl,iteF ⟨_,rfl,_,true,rfl,pJ h,_,rfl,iteF ⟨_,rfl,rfl,_,rfl,iteF ⟨_,rfl,a,aN,[t,b],[0,1],rfl,rfl,h.sq,sN H,_,rfl,ite2 (fun hc => ?_) (fun hc => ?_)⟩⟩⟩⟩⟩
   ·rw [hc] at k0
    exact ⟨_,rfl,rfl,_,rfl,iteT k0⟩
   ·rw [show (!decide ([t,b]=[0,1]))=false by simpa using hc] at k0
    exact k0
  | @pa a t b h =>
   refine ⟨_,rfl,rfl,_,rfl,iteF ⟨_,rfl,rfl,_,rfl,iteF ⟨_,rfl,_,true,rfl,pJ h,_,rfl,iteF ⟨_,rfl,rfl,_,rfl,iteF ⟨_,rfl,a,aN,[t,b],[0,1],rfl,rfl,h.sq,sN H,_,rfl,ite2 (fun hc => ?_) (fun hc => ?_)⟩⟩⟩⟩⟩
   ·rw [hc,Bool.true_and] at k0
    exact ⟨_,rfl,rfl,_,rfl,iteF ⟨_,rfl,a,t,b,rfl,h.sq,_,rfl,k0⟩⟩
   ·rw [show (!decide ([t,b]=[0,1]))=false by simpa using hc,Bool.false_and] at k0
    exact k0
end
def frm (x:Str):Option (List Str):=if x = "draw" then some ["phial","ware","amount"] else if x = "fill" then some ["phial","ware","level"] else if x = "pour" then some ["phial","phial","part"] else if x = "empty" then some ["phial"] else if x = "rinse" then some ["phial"] else none
theorem aDq (h:frm x=some ks):ks.length<=3:=by
  unfold frm at h
  repeat' split at h
  all_goals first | (cases h; decide) | cases h
structure FormsK (w:World)(K:Aa)(mg:Str->Option Value)(aF:Addr)(f:Str->Option Addr):Prop where
 d:KDict w K aF f
 m:mg "FORMS" = some (.ref aF)
 y : ∀ x ks,frm x=some ks->∃ a,f x=some a/\∀ H:Hp,SqT K H a (ks.map V.str)
 n : ∀ x,frm x=none->f x=none
def aD1 (K:Aa)(H:Hp)(nb:Nat)(ks:List Str)(us:List V)(βs:List Bool):Prop:=us.length=ks.length/\βs.length=ks.length/\∀ (i:Nat) k u β,ks[i]?=some k->us[i]?=some u->βs[i]?=some β->KindV K H nb k u β
inductive RowE (K:Aa)(H:Hp):V->Prop where
 | notT {v}:Isi K H v "tuple" false->RowE K H v
 | nil {a}:H a=some (.tup [])->RowE K H (.ref a)
 | head {a u us}:H a=some (.tup (u :: us))->Isi K H u "str" false->RowE K H (.ref a)
 | word {a x us}:H a=some (.tup (.str x :: us))->frm x=none->RowE K H (.ref a)
 | len {a x us ks}:H a=some (.tup (.str x :: us))->frm x=some ks->us.length ≠ ks.length->RowE K H (.ref a)
inductive RowV (K:Aa)(H:Hp)(nb:Nat):V->Bool->Prop where
 | early {v}:RowE K H v->RowV K H nb v false
 | big {a x us ks βs β}:H a=some (.tup (.str x :: us))->frm x=some ks->aD1 K H nb ks us βs->(βs.all id=false->β=false)->(βs.all id=true->(x ≠ "pour" /\ β=true)\/(x = "pour" /\ ∃ p o w',us=[.int p,.int o,w']/\β = !decide (V.int p=V.int o)))->RowV K H nb (.ref a) β
def oI (K:Aa):Sp:=fun vs H Q _=>∃ b nb v β,vs=[.ref b,v]/\BnV H b nb/\RowV K H nb v β/\∀ H',Same H H'->Q (.bl β) H'
theorem KindV.keep {K:Aa}{H H':Hp}{nb:Nat}{k:Str}{v:V}{β:Bool}(s:Same H H')(h:KindV K H nb k v β):KindV K H' nb k v β:=by
 have ki : ∀ {v T b},Isi K H v T b->Isi K H' v T b:=fun {v T b} h=>by
  cases h
  case tup_tuple h=>exact .tup_tuple (s.tup h)
  case tup_int h=>exact .tup_int (s.tup h)
  case tup_str h=>exact .tup_str (s.tup h)
  case tup_list h=>exact .tup_list (s.tup h)
  case lst_tuple h=>exact .lst_tuple (s.seq h)
  case lst_int h=>exact .lst_int (s.seq h)
  case lst_str h=>exact .lst_str (s.seq h)
  case lst_list h=>exact .lst_list (s.seq h)
  all_goals constructor
 have ka : ∀ {v β},AmV K H v β->AmV K H' v β:=fun {v β} h=>by
  cases h with
  | two h=>exact .two (s.tup h)
  | tru h=>exact .tru (s.tup h)
  | len h n=>exact .len (s.tup h) n
  | oth h=>exact .oth (ki h)
 have kg : ∀ {a t b},AmG K H a t b->AmG K H' a t b:=fun h=>⟨s.tup h.sq,h.t0,h.b1,h.g1⟩;cases h with
 | ph=>exact .ph
 | phb h =>
  cases h with
  | bl=>exact .phb .bl
  | oth h=>exact .phb (.oth (ki h))
 | wa h=>exact .wa h
 | wo h=>exact .wo (ki h)
 | am a h=>exact .am a (ka h)
 | lv h=>exact .lv (kg h)
 | mu h=>exact .mu (kg h)
 | pa h=>exact .pa (kg h)
theorem aAo {j:Nat}(h:j<=xs.length):cutV xs (some (j:Int)) none=xs.drop j:=by
 unfold cutV;rw [HT.sIx_nat,HT.sIx_none,Nat.min_eq_left h];exact Ex (by rw [List.length_drop]; omega)
theorem xN (x:Str)(us:List V):cutV (V.str x :: us) (some 1) none=us:=by
 have:=aAo (xs:=V.str x :: us) (j:=1) (by simp)
 simpa using this
section
variable {P:Ax}{w:World}{K:Aa}{mg:Str->Option Value}{base:Heap}
theorem aFj:(["kind","thing","bench"]:List Str).Nodup:=by decide +kernel
abbrev Nrow:List Str:=["bench","row","form"]
theorem uL:FnScope Nrow ["bench","row"] (aH sIsRow):=fnScOk (by decide +kernel)
theorem zR {f aF:Addr}{fF:Str->Option Addr}{fd:Bf}(F:Fun K "is_row" "is_row" sIsRow f fd)(T:Txt mg)(FK:FormsK w K mg aF fF)(cK:Cal P w K mg base CX0 3 "is_of_kind" ["bench","kind","thing"] (kP K)):FnOk P w K mg base CX0 4 f fd ["bench","row"] (oI K):=by
 refine F.ok uL (fun vs H Q E h => ?_) (fun cdv A outer s H vs Q E hr h => ?_)
 ·obtain ⟨_,_,_,_,rfl,_⟩:=h
  rfl
 ·obtain ⟨b,nb,v,β,rfl,bn,h,k⟩:=h
  refine ⟨_,(aC (bA (PW.pt (hJ (eA (bY (aR dY rfl T.isi Bu (aA (pv 1) (aA (eE (v:=.ty "tuple") rfl T.tup' cZ rfl) aD))))) (hJ (aQ cJ (aR aZ rfl T.len Bz (aA (pv 1) aD)) aG (aU _)) (fB (eA (bY (aR dY rfl T.isi Bu (aA (pit 1 0) (aA (eE (v:=.ty "str") rfl T.str' aBp rfl) aD)))))))))
    (aE (aM eZ))
    aP)
   (aC (aL (i:=2) uL.nd rfl (Or.inl rfl) (aCs FK.d rfl FK.m (pit 1 0) ⟨rfl,rfl,rfl,rfl⟩))
   (aC (bA (PW.pt (hJ (aQ aA8 (pv 2) dP (aU _)) (fB (aQ mJ (aR aZ rfl T.len Bz (aA (pv 1) aD)) (aK bC (aR aZ rfl T.len Bz (aA (pv 2) aD)) aG) (aU _)))))
    (aE (aM eZ))
    aP)
   (aC (bA (eA (bY (aR (nJ rfl) rfl T.all' boot_all (aA (hZ (N':=["kind","thing","bench"]) (g:=gTup K 2 (oZ (L2.gName 0) (oZ (L2.gName 1) gNil))) (fun σ=>[none,none,some 0].map fun t=>t.bind fun j=>(σ[j]?).join) rfl rfl (by decide +kernel) (by decide +kernel)
      (sX (sc:=aH sIsRow) rfl (by decide +kernel)) (fun _ _ _=>gN (sc:=aH sIsRow) (N:=Nrow) [none,none,some 0] rfl rfl rfl rfl (by decide +kernel))
      (aCp rfl T.zip' (aA (pv 2) (aA (zF aB8 (pv 1) (aCn aG) aCo) aD))) (fun _ _ _ _ _ _=>fS rfl (bR (aV (i:=0) aFj rfl (Or.inl rfl)) (bR (aV (i:=1) aFj rfl (Or.inl rfl)) eO)))
      (fun _ _ _ _ _ _=>eN)
      (fun _ _ _ _ _ _=>aJ cK hr rfl aT (aA (pv 2) (aA (pv 0) (aA (pv 1) aD))))) aD))))
    (aE (aM eZ))
    aP)
   (aE (aM (aCq (dB mJ (pit 1 0) aS (aU _)) (fT (dB mJ (pit 1 1) (pit 1 2) (aU _)))))))))),?_⟩
  refine cut5 ?_
  intros
  have k0:=k H (Same.refl _);cases h with
  | early h =>
   cases h with
   | notT h=>exact ⟨_,rfl,_,"tuple",false,rfl,h,_,rfl,iteT k0⟩
   | @nil a ha=>exact ⟨_,rfl,_,"tuple",true,rfl,.tup_tuple (SqT.of ha),_,rfl,iteF ⟨_,rfl,a,_,rfl,.inr (SqT.of ha),rfl,_,rfl,iteT k0⟩⟩
   | @head a u us ha hu =>
    refine ⟨_,rfl,_,"tuple",true,rfl,.tup_tuple (SqT.of ha),_,rfl,iteF ⟨_,rfl,a,_,rfl,.inr (SqT.of ha),rfl,_,rfl,ite2 (fun hc => ?_) (fun _=>⟨a,_,_,rfl,SqT.of ha,rfl,_,"str",false,rfl,hu,_,rfl,iteT k0⟩)⟩⟩;have:=V.int.inj (of_decide_eq_true hc);rw [AG] at this;omega
   | @word a x us ha hf =>
    refine ⟨_,rfl,_,"tuple",true,rfl,.tup_tuple (SqT.of ha),_,rfl,iteF ⟨_,rfl,a,_,rfl,.inr (SqT.of ha),rfl,_,rfl,ite2 (fun hc => ?_) (fun _=>⟨a,_,_,rfl,SqT.of ha,rfl,_,"str",true,rfl,.str_str,_,rfl,iteF ?_⟩)⟩⟩
    ·have:=V.int.inj (of_decide_eq_true hc)
     rw [AG] at this;omega
    ·refine ⟨a,_,_,rfl,SqT.of ha,rfl,x,rfl,?_⟩
     rw [FK.n x hf];exact ⟨_,rfl,rfl,_,rfl,iteT k0⟩
   | @len a x us ks ha hf ne =>
    refine ⟨_,rfl,_,"tuple",true,rfl,.tup_tuple (SqT.of ha),_,rfl,iteF ⟨_,rfl,a,_,rfl,.inr (SqT.of ha),rfl,_,rfl,ite2 (fun hc => ?_) (fun _=>⟨a,_,_,rfl,SqT.of ha,rfl,_,"str",true,rfl,.str_str,_,rfl,iteF ?_⟩)⟩⟩
    ·have:=V.int.inj (of_decide_eq_true hc)
     rw [AG] at this;omega
    ·obtain ⟨g,eg,hg⟩:=FK.y x ks hf
     refine ⟨a,_,_,rfl,SqT.of ha,rfl,x,rfl,?_⟩;rw [eg];refine ⟨_,rfl,rfl,_,rfl,iteF ⟨_,rfl,a,_,rfl,.inr (SqT.of ha),_,rfl,g,_,rfl,.inr (hg H),_,_,rfl,rfl,rfl,_,rfl,ite2 (fun _=>k0) (fun hc => ?_)⟩⟩;exfalso;refine hc ?_;have e:decide (V.int (((V.str x :: us).length:Nat):Int)=V.int (((ks.map V.str).length:Nat)+1))=false:=decide_eq_false fun z=>ne (by have:=V.int.inj z; rw [AG,Ag] at this; omega);show (!decide (V.int (((V.str x :: us).length:Nat):Int)=V.int (((ks.map V.str).length:Nat)+1)))=true;rw [e];rfl
  | @big a x us ks βs β ha hf ek n1 n2 =>
   obtain ⟨ul,bl',eq⟩:=ek;obtain ⟨g,eg,hg⟩:=FK.y x ks hf;have k3:=aDq hf;refine ⟨_,rfl,_,"tuple",true,rfl,.tup_tuple (SqT.of ha),_,rfl,iteF ⟨_,rfl,a,_,rfl,.inr (SqT.of ha),rfl,_,rfl,ite2 (fun hc => ?_) (fun _=>⟨a,_,_,rfl,SqT.of ha,rfl,_,"str",true,rfl,.str_str,_,rfl,iteF ?_⟩)⟩⟩
   ·have:=V.int.inj (of_decide_eq_true hc)
    rw [AG] at this;omega
   refine ⟨a,_,_,rfl,SqT.of ha,rfl,x,rfl,?_⟩;rw [eg];refine ⟨_,rfl,rfl,_,rfl,iteF ⟨_,rfl,a,_,rfl,.inr (SqT.of ha),_,rfl,g,_,rfl,.inr (hg H),_,_,rfl,rfl,rfl,_,rfl,ite2 (fun hc => ?_) (fun _ => ?_)⟩⟩
   ·exfalso
    have hc':(!decide (V.int (((V.str x :: us).length:Nat):Int)=V.int (((ks.map V.str).length:Nat)+1)))=true:=hc;rw [decide_eq_true (by rw [AG,Ag,ul]; rfl)] at hc';cases hc'
   refine ⟨_,rfl,_,rfl,_,rfl,a,_,rfl,ha,fun c H1 s1 hc => ?_⟩;have ec:cutV (V.str x :: us) (some 1) none=us:=by
    have:=xN x us;exact this
   rw [ec] at hc;refine ⟨g,c,rfl,⟨_,hg H1⟩,⟨_,SqT.of hc⟩,fun D nD => ?_⟩;refine xO (hg H1) (SqT.of hc) (by rw [Ag,ul]) (fun i v=>∀ β,βs[i]?=some β->v = .bl β) nD (by omega) (fun i kx u T' Hx R hk hu sx hT hR => ?_) (fun zs H2 s2 hD zl hz => ?_)
   ·rw [As] at hk
    obtain ⟨kd,hkd,rfl⟩:=Bv.mp hk;obtain ⟨β',hβ⟩ : ∃ β,βs[i]?=some β:=⟨_,Ae (by have:=(Ad.mp hkd).1; omega)⟩;refine ⟨T',_,rfl,SqT.of hT,rfl,_,_,rfl,_,_,rfl,rfl,((Keep.refl _).set rfl).set rfl,_,rfl,_,rfl,_,rfl,b,nb,kd,u,β',rfl,bn.keep (s1.trans sx),(eq i kd u β' hkd hu hβ).keep (s1.trans sx),fun H3 s3=>hR _ _ s3 fun β2 h2 => ?_⟩;rw [hβ] at h2;cases h2;rfl
   have ez:zs=βs.map V.bl:=by
    refine list_eq (by rw [zl,Ag,Ag,bl']) fun i x' y' hx' hy' => ?_;rw [As] at hx';obtain ⟨β',hβ,rfl⟩:=Bv.mp hx';exact hz i y' hy' β' hβ
   subst ez;have s02:=s1.trans s2;refine ⟨D,βs,rfl,SqL.of hD,_,rfl,ite2 (fun hc => ?_) (fun hc => ?_)⟩
   ·have hf':βs.all id=false:=by simpa using hc
    have:=k H2 s02;rw [n1 hf'] at this;exact this
   ·have ht:βs.all id=true:=by simpa using hc
    have kk:=k H2 s02;have ha2:=s02 _ _ ha;refine ⟨a,_,_,rfl,SqT.of ha2,rfl,rfl,_,rfl,?_⟩
    rcases n2 ht with ⟨nx,e⟩ | ⟨rfl,p,o,w',rfl,e⟩
    ·refine ite2 (fun _=>by rw [e] at kk; exact kk) (fun hc2 => ?_)
     exfalso;refine hc2 ?_;show (!decide (V.str x=V.str "pour"))=true;rw [decide_eq_false fun z=>nx (V.str.inj z)];rfl
    ·refine iteF ⟨a,_,_,rfl,SqT.of ha2,rfl,a,_,_,rfl,SqT.of ha2,rfl,rfl,?_⟩
     rw [e] at kk;exact kk
end
def uC:Sp:=fun vs H Q _=>∃ t b:Int,vs=[.int t,.int b]/\0<=t/\1<=b/\Bt 9000 b/\RetT H Q [t / G t b,b / G t b]
section
variable {P:Ax}{w:World}{K:Aa}{mg:Str->Option Value}{base:Heap}
theorem aEo:FnScope ["top","bottom","divisor"] ["top","bottom"] (aH sLow):=fnScOk (by decide +kernel)
theorem aFa (F:Fun K "lowest_terms" "lowest_terms" sLow f fd)(cG:Cal P w K mg base CX0 1 "common_divisor" ["one","other"] yP):FnOk P w K mg base CX0 2 f fd ["top","bottom"] uC:=by
 refine F.ok aEo (fun vs H Q E h => ?_) (fun cdv A outer s H vs Q E hr h => ?_)
 ·obtain ⟨a,b,rfl,_⟩:=h
  rfl
 ·obtain ⟨t,b,rfl,ht,hb,hs,k⟩:=h
  refine ⟨_,aC (aL (i:=2) aEo.nd rfl (Or.inl rfl) (aJ cG hr rfl aT (aA (pv 0) (aA (pv 1) aD))))
   (aE (aM (aW (aA (aK aY (pv 0) (pv 2)) (aA (aK aY (pv 1) (pv 2)) aD))))),?_⟩
  refine ⟨_,rfl,_,rfl,t,b,rfl,ht,by omega,?_⟩;have g:=mK (t:=t) hb hs;refine ⟨_,rfl,_,rfl,_,_,rfl,rfl,g,_,rfl,_,rfl,_,_,rfl,rfl,g,zLn2,fun p hp => ?_⟩;exact k p _ (Same.upd hp) aB
end
def Pr (H:Hp)(v:V)(x:Str × Int × Int):Prop:=∃ p q,v = .ref p/\H p=some (.tup [.str x.1,.ref q])/\H q=some (.tup [.int x.2.1,.int x.2.2])
theorem Pr.keep (h:Pr H v x)(k:Tk H H'):Pr H' v x:=by
 obtain ⟨p,q,e,h1,h2⟩:=h;exact ⟨p,q,e,k _ _ h1,k _ _ h2⟩
inductive PrL (H:Hp):List V->List (Str × Int × Int)->Prop where
 | nil:PrL H [] []
 | cons {v x vs xs}:Pr H v x->PrL H vs xs->PrL H (v :: vs) (x :: xs)
theorem PrL.keep (h:PrL H vs xs)(k:Tk H H'):PrL H' vs xs:=by
 induction h with
 | nil=>exact .nil
 | cons p _ ih=>exact .cons (p.keep k) ih
theorem PrL.snoc (h:PrL H vs xs)(p:Pr H v x):PrL H (vs ++ [v]) (xs ++ [x]):=by
 induction h with
 | nil=>exact .cons p .nil
 | cons q _ ih=>exact .cons q ih
theorem PrL.length (h:PrL H vs xs):vs.length=xs.length:=by
 induction h with
 | nil=>rfl
 | cons _ _ ih=>simp [ih]
structure Two (K:Aa)(H:Hp)(p q:Addr)(t1 b1 t2 b2:Int):Prop where
 sp:SqT K H p [.int t1,.int b1]
 sq:H q=some (.tup [.int t2,.int b2])
 ht1:0<=t1
 hb1:1<=b1
 am:Amt t2 b2
 st1:Bt 4000 t1
 sb1:Bt 4000 b1
 st2:Bt 4000 t2
 sb2:Bt 4000 b2
def pX (K:Aa):Sp:=fun vs H Q _=>∃ (p q:Addr) (t1 b1 t2 b2:Int),vs=[.ref p,.ref q]/\Two K H p q t1 b1 t2 b2 /\
 RetT H Q [(t1*b2+t2*b1) / G (t1*b2+t2*b1) (b1*b2),(b1*b2) / G (t1*b2+t2*b1) (b1*b2)]
theorem PrL.get (h:PrL H vs xs) : ∀ {i:Nat} {v:V},vs[i]?=some v->∃ x,xs[i]?=some x/\Pr H v x:=by
 induction h with
 | nil=>intro i v e; simp at e
 | cons p _ ih =>
  intro i v e;cases i with
  | zero=>cases e; exact ⟨_,rfl,p⟩
  | succ i=>exact ih (by simpa using e)
def nOf (M:Int)(x:Str × Int × Int):Int:=x.2.1*(M / x.2.2)
def sumN (M:Int)(xs:List (Str × Int × Int)):Int:=(xs.map (nOf M)).sum
theorem iH {M:Int}{xs:List (Str × Int × Int)}{i:Nat}{x:Str × Int × Int}(h:xs[i]?=some x):sumN M (xs.take (i+1))=sumN M (xs.take i)+nOf M x:=by
 unfold sumN;rw [CN,h,Bo,EZ];simp
theorem dM {M t b N:Int}(hM:0 < M)(h:Fr M t b N):t<=N/\b<=M:=by
 have hb:=Int.le_of_dvd hM h.dvd;refine ⟨?_,hb⟩;have n0:=h.nonneg hM;have:=CI hb n0;rw [<- h.e] at this;exact Int.le_of_mul_le_mul_right this hM
def Over (M:Int)(xs:List (Str × Int × Int)):Prop:=∀ x ∈ xs,Amt x.2.1 x.2.2/\x.2.2 ∣ M
def kJ (K:Aa):Sp:=fun vs H Q _=>∃ (m:Addr) (us:List V) (xs:List (Str × Int × Int)) (M:Int),vs=[.ref m]/\SqT K H m us/\PrL H us xs/\Over M xs/\0 < M/\Bt 3000 M/\(∀ i,Bt 3000 (sumN M (xs.take i))) /\
 ∀ (f:Addr) (t b:Int) H',Same H H'->SqT K H' f [.int t,.int b]->Fr M t b (sumN M xs)->Q (.ref f) H'
section
variable {P:Ax}{w:World}{K:Aa}{mg:Str->Option Value}{base:Heap}
theorem Two.botS {p q:Addr}{t1 b1 t2 b2:Int}(T:Two K H p q t1 b1 t2 b2):1<=b1*b2/\Bt 8000 (b1*b2):=by
 have:=Int.mul_le_mul T.hb1 T.am.b1 (by decide) (by have:=T.hb1; omega);exact ⟨by omega,T.sb1.mul T.sb2⟩
theorem aEm:FnScope ["one","other"] ["one","other"] (aH sPlus):=fnScOk (by decide +kernel)
theorem aC4 (F:Fun K "plus" "plus" sPlus f fd)(mN:mg "NOUGHT" = some (.ref aN))(sN : ∀ H:Hp,SqT K H aN [.int 0,.int 1])(cL:Cal P w K mg base CX0 2 "lowest_terms" ["top","bottom"] uC):FnOk P w K mg base CX0 3 f fd ["one","other"] (pX K):=by
 refine F.ok aEm (fun vs H Q E h => ?_) (fun cdv A outer s H vs Q E hr h => ?_)
 ·obtain ⟨_,_,_,_,_,_,rfl,_⟩:=h
  rfl
 ·obtain ⟨p,q,t1,b1,t2,b2,rfl,T,k⟩:=h
  refine ⟨_,aC (bA (aQ (aBa hr.units) (pv 0) (dA (v:=.ref aN) rfl mN rfl) (aU _)) (aE (aM (pv 1))) aP)
   (aE (aM (aJ cL hr rfl aT (aA (aK bC (aK bI (pit 0 0) (pit 1 1)) (aK bI (pit 1 0) (pit 0 1))) (aA (aK bI (pit 0 1) (pit 1 1)) aD))))),?_⟩
  have bs:=T.botS;have hs:=SqT.of (K:=K) T.sq;have m1:=BA T.ht1 (show 0<=b2 by have:=T.am.b1; omega);have m2:=BA T.am.t0 (show 0<=b1 by have:=T.hb1; omega);have a0:=T.am.t0;have a1:=T.am.b1;refine ⟨_,rfl,p,aN,[t1,b1],[0,1],rfl,rfl,T.sp,sN H,_,rfl,ite2 (fun hc => ?_) (fun _ => ?_)⟩
  ·have e:=of_decide_eq_true hc
   injection e with e1 e;injection e with e2 e;subst e1 e2;refine ⟨_,rfl,?_⟩;have u:=jS (t:=0*b2+t2*1) (b:=1*b2) (by omega) (by omega) T.am (by rw [BN,Int.zero_add,Int.one_mul,Int.mul_one]);rw [u.1,u.2] at k;exact k q H (Same.refl H) T.sq
  ·refine ⟨p,_,_,rfl,T.sp,rfl,q,_,_,rfl,hs,rfl,_,_,rfl,rfl,⟨b6 T.st1,b6 T.sb2⟩,q,_,_,rfl,hs,rfl,p,_,_,rfl,T.sp,rfl,_,_,rfl,rfl,⟨b6 T.st2,b6 T.sb1⟩,_,_,rfl,rfl,?_⟩
   exact ⟨p,_,_,rfl,T.sp,rfl,q,_,_,rfl,hs,rfl,_,_,rfl,rfl,⟨b6 T.sb1,b6 T.sb2⟩,_,_,rfl,by omega,bs.1,bs.2.mono (by decide),k⟩
theorem fM:FnScope ["one","found","ware","part"] ["one"] (aH sWholeM):=fnScOk (by decide +kernel)
theorem vQ {f aN:Addr}{fd:Bf}(F:Fun K "whole" "whole" sWholeM f fd)(mN:mg "NOUGHT" = some (.ref aN))(sN : ∀ H:Hp,SqT K H aN [.int 0,.int 1])(cP:Cal P w K mg base CX0 3 "plus" ["one","other"] (pX K)):FnOk P w K mg base CX0 4 f fd ["one"] (kJ K):=by
 refine F.ok fM (fun vs H Q E h => ?_) (fun cdv A outer s H vs Q E hr h => ?_)
 ·obtain ⟨_,_,_,_,rfl,_⟩:=h
  rfl
 ·obtain ⟨m,us,xs,M,rfl,hm,pr,ov,M0,bM,bS,k⟩:=h
  refine ⟨_,(aC (aL (i:=1) fM.nd rfl (Or.inl rfl) (dA (v:=.ref aN) rfl mN rfl))
   (aC (dI AU rfl (gR (pv 0)) (fS rfl (bR (aV (i:=2) fM.nd rfl (Or.inl rfl)) (bR (aV (i:=3) fM.nd rfl (Or.inl rfl)) eO)))
    (aE (aL (i:=1) fM.nd rfl (Or.inl rfl) (aJ cP hr rfl aT (aA (pv 1) (aA (pv 3) aD))))))
   (aE (aM (pv 1))))),?_⟩
  refine cut3 ?_
  intros
  refine ⟨_,rfl,m,rfl,⟨_,hm⟩,?_⟩;refine lF (xs:=us) (fun i σ H'=>∃ (g:Addr) (t b:Int) (v2 v3:Option V),σ=[some (.ref m),some (.ref g),v2,v3]/\SqT K H' g [.int t,.int b]/\Fr M t b (sumN M (xs.take i))/\Same H H')
   ⟨aN,0,1,none,none,rfl,sN H,Fr.zero,Same.refl H⟩ ?_ ?_ ?_
  ·rintro i σ H' hi ⟨_,_,_,_,_,rfl,_,_,s2⟩
   exact s2.tup hm
  ·rintro i v σ H2 hv ⟨g,t,b,v2,v3,rfl,hg,fr,s2⟩
   obtain ⟨x,hx,p,q,rfl,h1,h2⟩:=pr.get hv;refine ⟨p,_,rfl,SqT.of (s2 _ _ h1),rfl,_,_,rfl,_,_,rfl,rfl,?_⟩;obtain ⟨am,dv⟩:=ov x (Ay hx);have frx:Fr M x.2.1 x.2.2 (nOf M x):=Fr.of am dv;have sm:=dM M0 fr;have smx:=dM M0 frx;have n1:=fr.nonneg M0;have n2:=frx.nonneg M0;have fb:=fr.am;have bN:=bS i;have bN1:=bS (i+1);rw [iH hx] at bN1;have bx:Bt 3000 (nOf M x):=bN1.le n2 (by omega);refine ⟨_,rfl,_,rfl,g,q,t,b,x.2.1,x.2.2,rfl,⟨hg,s2 _ _ h2,fb.t0,fb.b1,am,(bN.le fb.t0 sm.1).mono (by decide),(bM.le (by have:=fb.b1; omega) sm.2).mono (by decide),(bx.le am.t0 smx.1).mono (by decide),(bM.le (by have:=am.b1; omega) smx.2).mono (by decide)⟩,fun r H3 s3 h3 => ?_⟩;refine ⟨r,_,_,_,_,rfl,SqT.of h3,?_,s2.trans s3⟩;rw [iH hx];exact fr.plus frx
  ·rintro σ H2 ⟨g,t,b,v2,v3,rfl,hg,fr,s2⟩
   rw [pr.length,Bw] at fr;exact ⟨_,rfl,k g t b H2 s2 hg fr⟩
end
def NW (M:Int)(xs:List (Str × Int × Int))(y:Str):Int:=sumN M (xs.filter fun x=>decide (x.1=y))
theorem aDz {M:Int}{xs:List (Str × Int × Int)}{i:Nat}{x:Str × Int × Int}(h:xs[i]?=some x)(y:Str):NW M (xs.take (i+1)) y=NW M (xs.take i) y+(if x.1=y then nOf M x else 0):=by
 unfold NW sumN;rw [CN,h,DC,Bo,EZ]
 congr 1
 by_cases e:x.1=y
 ·simp [e]
 ·simp [e]
theorem eP {M:Int}(h:y ∉ xs.map (·.1)):NW M xs y=0:=by
 unfold NW;rw [List.filter_eq_nil_iff.mpr (fun x hx e=>h (AJ.mpr ⟨x,hx,of_decide_eq_true e⟩))];rfl
theorem cQ {M:Int}(hM:0 < M)(h:Over M xs):0<=sumN M xs:=by
 induction xs with
 | nil=>exact Du _
 | cons x r ih =>
  have h1:=ih fun y hy=>h y (Al _ hy);have h2:=(Fr.of (h x Au).1 (h x Au).2).nonneg hM;show 0<=((x :: r).map (nOf M)).sum;rw [Ai,AI];exact Int.add_nonneg h2 h1
theorem pT {M:Int}(hM:0 < M)(p:Str × Int × Int->Bool) : ∀ {xs:List (Str × Int × Int)},Over M xs->sumN M (xs.filter p)<=sumN M xs
 | [],_=>Du _
 | x :: r,h=>by
  have h1:=pT hM p (xs:=r) fun y hy=>h y (Al _ hy);have h2:=(Fr.of (h x Au).1 (h x Au).2).nonneg hM;have e2:sumN M (x :: r)=nOf M x+sumN M r:=by unfold sumN; rw [Ai,AI]
  rw [e2];cases hp:p x with
  | true =>
   rw [Ep hp];have e1:sumN M (x :: r.filter p)=nOf M x+sumN M (r.filter p):=by unfold sumN; rw [Ai,AI]
   rw [e1];exact Int.add_le_add_left h1 _
  | false =>
   rw [Er (by rw [hp]; exact Az)];have:0<=nOf M x:=h2;omega
theorem fI {M:Int}(hM:0 < M) : ∀ {xs:List (Str × Int × Int)} (i:Nat),Over M xs->sumN M (xs.take i)<=sumN M xs
 | [],i,_=>by rw [List.take_nil]; exact Du _
 | x :: r,0,h=>cQ hM h
 | x :: r,i+1,h=>by
  have h1:=fI hM (xs:=r) i fun y hy=>h y (Al _ hy);have e2:sumN M (x :: r)=nOf M x+sumN M r:=by unfold sumN; rw [Ai,AI]
  have e1:sumN M (x :: r.take i)=nOf M x+sumN M (r.take i):=by unfold sumN; rw [Ai,AI]
  rw [List.take_succ_cons,e1,e2];exact Int.add_le_add_left h1 _
theorem Over.take {M:Int}(h:Over M xs)(i:Nat):Over M (xs.take i):=fun x hx=>h x (List.mem_of_mem_take hx)
theorem Over.filter {M:Int}(h:Over M xs)(p:Str × Int × Int->Bool):Over M (xs.filter p):=fun x hx=>h x (List.mem_filter.mp hx).1
theorem pK {M:Int}(hM:0 < M)(h:Over M xs)(i:Nat)(y:Str):0<=NW M (xs.take i) y/\NW M (xs.take i) y<=sumN M xs :=
 ⟨cQ hM ((h.take i).filter _),Ej (pT hM _ (h.take i)) (fI hM i h)⟩
def aF5 (M:Int)(xs ys:List (Str × Int × Int)):Prop:=∃ ks:List Str,sortedS ks=true/\ks.Nodup/\(∀ y,y ∈ ks ↔ y ∈ xs.map (·.1))/\ys.map (·.1)=ks.filter (fun y=>decide (NW M xs y ≠ 0))/\∀ p ∈ ys,Fr M p.2.1 p.2.2 (NW M xs p.1)
theorem qP {M:Int}(hM:0 < M){f:Str->Int} : ∀ {ys zs:List (Str × Int × Int)},ys.map (·.1)=zs.map (·.1)->(∀ p ∈ ys,Fr M p.2.1 p.2.2 (f p.1))->(∀ p ∈ zs,Fr M p.2.1 p.2.2 (f p.1))->ys=zs
  | [],[],_,_,_=>rfl
  | [],_ :: _,e,_,_=>by simp at e
  | _ :: _,[],e,_,_=>by simp at e
  | (w1,t1,b1) :: ys,(w2,t2,b2) :: zs,e,h1,h2=>by
    simp only [Ai,List.cons.injEq] at e;obtain ⟨e1,e2⟩:=e;subst e1;have a1:=h1 _ Au;have a2:=h2 _ Au;obtain ⟨u1,u2⟩:=Fr.uniq hM a1 a2;simp only at u1 u2;subst u1 u2;rw [qP hM e2 (fun p hp=>h1 p (Al _ hp)) (fun p hp=>h2 p (Al _ hp))]
structure DK (kvs:List (Key × V))(ks:List Str):Prop where
 keys:kvs.map (·.1)=ks.map AL
 nd:ks.Nodup
theorem DK.nil:DK [] []:=⟨rfl,.nil⟩
theorem DK.len (h:DK kvs ks):kvs.length=ks.length:=by
 have:=congrArg List.length h.keys;rwa [Ag,Ag] at this
theorem DK.get (h:DK kvs ks)(y:Str):(valV kvs (AL y)).isSome=true ↔ y ∈ ks:=by
 rw [<- eL,List.any_eq_true];constructor
 ·rintro ⟨kv,hm,e⟩
  have e':kv.1=AL y:=of_decide_eq_true e;have:kv.1 ∈ ks.map AL:=by rw [<- h.keys]; exact AJ.mpr ⟨kv,hm,rfl⟩
  obtain ⟨z,hz,ez⟩:=AJ.mp this;rw [e'] at ez;cases ez;exact hz
 ·intro hy
  have:AL y ∈ kvs.map (·.1):=by rw [h.keys]; exact AJ.mpr ⟨y,hy,rfl⟩
  obtain ⟨kv,hm,e⟩:=AJ.mp this;exact ⟨kv,hm,decide_eq_true e⟩
theorem DK.put (h:DK kvs ks)(y:Str)(v:V) : ∃ ks',DK (putK kvs (AL y) v) ks'/\(∀ z,z ∈ ks' ↔ z ∈ ks\/z=y)/\ks'.length<=ks.length+1:=by
 unfold putK;split
 ·rename_i hany
  have hy:y ∈ ks:=(h.get y).mp (by rw [<- eL]; exact hany);refine ⟨ks,⟨?_,h.nd⟩,fun z=>⟨.inl,fun q=>q.elim id fun e=>e ▸ hy⟩,Dh _⟩;rw [<- h.keys,Cg];refine Eg fun kv _ => ?_;show (if kv.1=AL y then (kv.1,v) else kv).1=kv.1;split <;> rfl
 ·rename_i hany
  have hy:y ∉ ks:=fun q=>hany (by rw [eL]; exact (h.get y).mpr q);refine ⟨ks ++ [y],⟨by rw [Bo,Bo,h.keys]; rfl,?_⟩,fun z=>by simp,by simp⟩;exact List.nodup_append.mpr ⟨h.nd,by simp,fun a ha b hb e=>hy (by rw [AE.mp hb] at e; exact e ▸ ha)⟩
def DN (M:Int)(xs:List (Str × Int × Int))(kvs:List (Key × V))(ks:List Str):Prop:=DK kvs ks/\(∀ y,y ∈ ks ↔ y ∈ xs.map (·.1))/\∀ y,y ∈ ks->valV kvs (AL y)=some (.int (NW M xs y))
def DA (H:Hp)(M:Int)(xs:List (Str × Int × Int))(kvs:List (Key × V))(ks:List Str):Prop:=DK kvs ks/\(∀ y,y ∈ ks ↔ y ∈ xs.map (·.1))/\∀ y,y ∈ ks->∃ (p:Addr) (t b:Int),valV kvs (AL y)=some (.ref p)/\H p=some (.tup [.int t,.int b])/\Fr M t b (NW M xs y)
theorem DA.keep {M:Int}(h:DA H M xs kvs ks)(k:Tk H H'):DA H' M xs kvs ks:=⟨h.1,h.2.1,fun y hy=>by
 obtain ⟨p,t,b,e1,e2,e3⟩:=h.2.2 y hy;exact ⟨p,t,b,e1,k _ _ e2,e3⟩⟩
theorem rN {xs:List (Str × Int × Int)}{i:Nat}{x:Str × Int × Int}(h:xs[i]?=some x)(y:Str):y ∈ (xs.take (i+1)).map (·.1) ↔ y ∈ (xs.take i).map (·.1)\/y=x.1:=by
 rw [CN,h,Bo,Bi];simp
theorem DA.step {H:Hp}{M:Int}{xs:List (Str × Int × Int)}{kvs:List (Key × V)}{ks:List Str}{i:Nat}{x:Str × Int × Int}{r:Addr}{t b:Int}(hx:xs[i]?=some x)(h:DA H M (xs.take i) kvs ks)(hr:H r=some (.tup [.int t,.int b]))(fr:Fr M t b (NW M (xs.take i) x.1+nOf M x)) :
  ∃ ks',DA H M (xs.take (i+1)) (putK kvs (AL x.1) (.ref r)) ks'/\ks'.length<=ks.length+1:=by
 obtain ⟨ks',d',m',l'⟩:=h.1.put x.1 (.ref r);refine ⟨ks',⟨d',fun y=>by rw [m',h.2.1,rN hx],fun y hy => ?_⟩,l'⟩;rw [pN,aDz hx]
 by_cases e:y=x.1
 ·subst e
  rw [if_pos rfl,if_pos rfl];exact ⟨r,t,b,rfl,hr,fr⟩
 ·rw [if_neg (fun z=>e (AL.inj z)),if_neg (fun z=>e z.symm),Int.add_zero]
  exact h.2.2 y (((m' y).mp hy).resolve_right e)
theorem Tk.dk {l:Addr}(h:H l=some (.dK kvs)):Tk H (upd H l o):=fun b ys e=>by
 have ne:b ≠ l:=fun z=>by rw [z,h] at e; cases e
 rw [aI ne];exact e
def vTx:V->Str
 | .str s=>s
 | _ => ""
def MixP (M:Int)(xs:List (Str × Int × Int))(x y:V)(H:Hp):Prop:=∃ (p q:Addr) (t b:Int),y = .ref p/\H p=some (.tup [x,.ref q])/\H q=some (.tup [.int t,.int b])/\Fr M t b (NW M xs (vTx x))
theorem qV {M:Int} : ∀ (ss:List Str) (ys:List V),ys.length=ss.length->(∀ (i:Nat) (x y:V),(ss.map V.str)[i]?=some x->ys[i]?=some y->MixP M xs x y H)->∃ zs,PrL H ys zs/\zs.map (·.1)=ss/\∀ p ∈ zs,Fr M p.2.1 p.2.2 (NW M xs p.1)
 | [],[],_,_=>⟨[],.nil,rfl,(fun _ h=>nomatch h)⟩
 | s :: ss,y :: ys,hl,h=>by
  obtain ⟨zs,z1,z2,z3⟩:=qV ss ys (by simpa using hl) fun i x y hx hy=>h (i+1) x y (by simpa using hx) (by simpa using hy);obtain ⟨p,q,t,b,rfl,hp,hq,fr⟩:=h 0 (.str s) y rfl rfl;refine ⟨(s,t,b) :: zs,.cons ⟨p,q,rfl,hp,hq⟩ z1,by rw [Ai,z2],fun r hr => ?_⟩
  rcases AD.mp hr with rfl | hr
  ·exact fr
  ·exact z3 r hr
 | [],_ :: _,hl,_=>by simp at hl
 | _ :: _,[],hl,_=>by simp at hl
theorem rE (p:V->Bool)(q:Str->Bool)(e : ∀ s,p (.str s)=q s) : ∀ ss:List Str,(ss.map V.str).filter p=(ss.filter q).map V.str
 | []=>rfl
 | s :: r=>by
  rw [Ai,List.filter_cons,List.filter_cons,e,rE p q e r];split <;> rfl
def fK (K:Aa):Sp:=fun vs H Q _=>∃ (l:Addr) (us:List V) (xs:List (Str × Int × Int)) (M:Int),vs=[.ref l]/\SqL K H l us/\PrL H us xs/\xs.length<=63/\Over M xs/\0 < M/\Bt 3000 M/\Bt 3000 (sumN M xs) /\
 ∀ m zs ys H',Same H H'->H' m=some (.tup zs)->PrL H' zs ys->aF5 M xs ys->Q (.ref m) H'
section
variable {P:Ax}{w:World}{K:Aa}{mg:Str->Option Value}{base:Heap}
theorem fN:FnScope ["pairs","sums","ware","part"] ["pairs"] (aH sMixture):=fnScOk (by decide +kernel)
theorem nd2:(["ware","sums"]:List Str).Nodup:=by decide +kernel
theorem sL {f aN:Addr}{fd:Bf}(F:Fun K "mixture" "mixture" sMixture f fd)(T:Txt mg)(mN:mg "NOUGHT" = some (.ref aN))(sN : ∀ H:Hp,SqT K H aN [.int 0,.int 1])(cP:Cal P w K mg base CX0 3 "plus" ["one","other"] (pX K)):FnOk P w K mg base CX0 4 f fd ["pairs"] (fK K):=by
 refine F.ok fN (fun vs H Q E h => ?_) (fun cdv A outer s H vs Q E hr h => ?_)
 ·obtain ⟨_,_,_,_,rfl,_⟩:=h
  rfl
 ·obtain ⟨l,us,xs,M,rfl,hl,pr,xl,ov,M0,bM,bS,k⟩:=h
  refine ⟨_,(aC (aL (i:=1) fN.nd rfl (Or.inr rfl) qJ)
   (aC (dI AU rfl (vA (pv 0)) (fS rfl (bR (aV (i:=2) fN.nd rfl (Or.inl rfl)) (bR (aV (i:=3) fN.nd rfl (Or.inl rfl)) eO)))
    (aE (oN (jH hr) (pv 1) (pv 2) (aJ cP hr rfl aT (aA (qK (jH hr) (pv 1) (pv 2) (dA (v:=.ref aN) rfl mN rfl) ⟨rfl,rfl,rfl,rfl⟩) (aA (pv 3) aD))) rfl)))
   (aE (aM (aX bH rfl T.tup' cZ (aA (hZ (N':=["ware","sums"]) (fun σ=>[none,some 1].map fun t=>t.bind fun j=>(σ[j]?).join) rfl rfl (by decide +kernel) (by decide +kernel)
     (sX (sc:=aH sMixture) rfl (by decide +kernel)) (fun _ _ _=>gN (sc:=aH sMixture) (N:=["pairs","sums","ware","part"]) [none,some 1] rfl rfl rfl rfl (by decide +kernel))
     (vA (aR (pG rfl) rfl T.sorted' boot_sorted (aA (pv 1) aD))) (fun _ _ _ _ _ _=>aV (i:=0) nd2 rfl (Or.inl rfl))
     (fun _ _ _ _ _ _=>zC (aQ (aCy (K:=K) rfl hr.units) (iR (jH hr) (pv 1) (pv 0) (fun _ _=>rfl)) (dA (v:=.ref aN) rfl mN rfl) (aU _)))
     (fun _ _ _ _ _ _=>aW (aA (pv 0) (aA (iR (jH hr) (pv 1) (pv 0) (fun _ _=>rfl)) aD)))) aD)))))),?_⟩
  refine cut3 ?_
  intros
  intro d hd;have s1:Same H (upd H d (.dK [])):=Same.upd hd;refine ⟨_,rfl,l,rfl,⟨_,s1.seq hl⟩,?_⟩;refine aAj (xs:=us) (fun i σ H'=>∃ (kvs:List (Key × V)) (ks:List Str) (v4 v5:Option V),σ=[some (.ref l),some (.ref d),v4,v5]/\Same H H'/\H' d=some (.dK kvs)/\DA H' M (xs.take i) kvs ks/\ks.length<=i)
   ⟨[],[],none,none,rfl,s1,aB,⟨.nil,fun y=>by simp,fun y hy=>by simp at hy⟩,Ak _⟩ ?_ ?_ ?_
  ·rintro i σ H' _ ⟨_,_,_,_,rfl,sm,_⟩
   exact sm.seq hl
  ·rintro i v σ H2 hv ⟨kvs,ks,v4,v5,rfl,s2,hd2,da,kl⟩
   obtain ⟨x,hx,p,q,rfl,h1,h2⟩:=pr.get hv;have hi:=(Ad.mp hx).1;have xm:=Ay hx;obtain ⟨am,dv⟩:=ov x xm;have frx:Fr M x.2.1 x.2.2 (nOf M x):=Fr.of am dv;obtain ⟨g,t,b,eg,hg,fr⟩ : ∃ (g:Addr) (t b:Int),(valV kvs (AL x.1)).getD (.ref aN) = .ref g/\SqT K H2 g [.int t,.int b]/\Fr M t b (NW M (xs.take i) x.1):=by
    by_cases hy:x.1 ∈ ks
    ·obtain ⟨p,t,b,e1,e2,e3⟩:=da.2.2 _ hy
     exact ⟨p,t,b,by rw [e1]; rfl,SqT.of e2,e3⟩
    ·have:valV kvs (AL x.1)=none:=by
      cases e:valV kvs (AL x.1) with
      | none=>rfl
      | some v=>exact absurd ((da.1.get x.1).mp (by rw [e]; rfl)) hy
     refine ⟨aN,0,1,by rw [this]; rfl,sN _,?_⟩;rw [eP (fun z=>hy ((da.2.1 _).mpr z))];exact Fr.zero
   have two:Two K H2 g q t b x.2.1 x.2.2:=by
    have nw:=pK M0 ov i x.1;have sm:=dM M0 fr;have smx:=dM M0 frx;have nx:nOf M x<=sumN M xs:=by
     have e:=iH (M:=M) hx;have:=fI M0 (i+1) ov;have:=cQ M0 (ov.take i);omega
    exact ⟨hg,s2 _ _ h2,fr.am.t0,fr.am.b1,am,(bS.le fr.am.t0 (by omega)).mono (by decide),(bM.le (by have:=fr.am.b1; omega) sm.2).mono (by decide),(bS.le am.t0 (by omega)).mono (by decide),(bM.le (by have:=am.b1; omega) smx.2).mono (by decide)⟩
   refine ⟨p,_,rfl,SqT.of (s2 _ _ h1),rfl,_,_,rfl,_,_,rfl,rfl,?_⟩;refine ⟨_,rfl,d,rfl,.inl ⟨kvs,.inl hd2⟩,_,rfl,_,DGet.k (k:=AL x.1) hd2,?_⟩;rw [eg];refine ⟨_,rfl,_,q,t,b,x.2.1,x.2.2,rfl,two,fun r H3 s3 h3 => ?_⟩;obtain ⟨ks',da',kl'⟩:=(da.keep (Same.tk s3)).step hx h3 (fr.plus frx);have hd3:=s3 _ _ hd2;refine ⟨_,rfl,_,rfl,d,_,rfl,DPut.k (k:=AL x.1) hd3 (bO (by rw [da.1.len]; omega)),?_⟩;refine ⟨_,ks',_,_,rfl,fun b o hb => ?_,aB,da'.keep (Tk.dk hd3),by omega⟩;rw [aI (bE hb hd)];exact s3 _ _ (s2 _ _ hb)
  ·rintro σ H2 ⟨kvs,ks,v4,v5,rfl,s2,hd2,da,kl⟩
   rw [pr.length,Bw] at da;have kl2:ks.length<=63:=by have:=pr.length; omega
   refine ⟨_,rfl,d,kvs,ks,rfl,hd2,da.1.keys,(by rw [da.1.len]; omega),fun a ss' pm so ha => ?_⟩;have hd3:upd H2 a (.lst (ss'.map V.str)) d=some (.dK kvs):=Same.upd ha _ _ hd2;have da3:=da.keep (Same.tk (Same.upd ha (o:=.lst (ss'.map V.str))));have sl:(ss'.map V.str).length=ss'.length:=Ag ..;have pl:=pm.length_eq;refine ⟨a,rfl,⟨_,SqL.of aB⟩,fun D hD => ?_⟩;refine xP (Ys.list (SqL.of aB)) (fun v=>decide (NW M xs (vTx v) ≠ 0)) (MixP M xs) ?_ hD (by omega) (fun i x H' R1 R2 hx sm h1 h2 => ?_) (fun ys H4 sm4 hD4 yl hy => ?_)
   ·rintro x y H5 H6 ⟨p,q,t,b,e,hp,hq,fr⟩ tk
    exact ⟨p,q,t,b,e,tk _ _ hp,tk _ _ hq,fr⟩
   ·rw [As] at hx
    obtain ⟨c,hc,rfl⟩:=Bv.mp hx;obtain ⟨g,t,b,e1,e2,e3⟩:=da3.2.2 c (pm.mem_iff.mp (Ay hc));have hdd:=sm _ _ hd3;have e2':=sm _ _ e2;have nz:=e3.nought M0;have gg:DGet H' d (.str c) (some (.ref g)):=by
     have:=DGet.k (k:=AL c) hdd;rw [e1] at this;exact this
    refine ⟨(Keep.refl _).set rfl,_,rfl,_,rfl,d,_,rfl,gg,g,aN,[t,b],[0,1],rfl,rfl,SqT.of e2',sN _,_,rfl,ite2 (fun hf => ?_) (fun hf => ?_)⟩
    ·have hn:NW M xs c ≠ 0:=fun z=>by
      have t0:=nz.mp z;rw [z,t0] at e3;obtain ⟨_,u2⟩:=Fr.uniq M0 e3 Fr.zero;rw [t0,u2] at hf;exact absurd hf (by decide)
     refine ⟨_,rfl,_,rfl,_,rfl,d,_,rfl,gg,(show 2<=Aw by decide +kernel),fun l' hl' => ?_⟩;exact h1 (decide_eq_true hn) _ _ (Same.upd hl') ⟨l',g,t,b,rfl,aB,Same.upd hl' _ _ e2',e3⟩
    ·have hn:NW M xs c=0:=nz.mpr (by
      by_cases e:[t,b]=[0,1]
      ·injection e
      ·exact absurd (by rw [decide_eq_false e]; rfl) hf)
     exact h2 (decide_eq_false fun z=>z hn) _ (Same.refl _)
   ·have ef:=rE (fun v=>decide (NW M xs (vTx v) ≠ 0)) (fun y=>decide (NW M xs y ≠ 0)) (fun _=>rfl) ss'
    rw [ef] at yl hy;obtain ⟨zs,z1,z2,z3⟩:=qV _ ys (by rw [yl,Ag]) hy;refine ⟨D,ys,rfl,.inl ⟨SqL.of hD4,fun m hm => ?_⟩⟩;have s5:Same H4 (upd H4 m (.tup ys)):=Same.upd hm;exact k m ys zs _ (((s2.trans (Same.upd ha)).trans sm4).trans s5) aB (z1.keep (Same.tk s5)) ⟨ss',so,pm.nodup_iff.mpr da.1.nd,fun y=>by rw [pm.mem_iff,da.2.1],z2,z3⟩
end
def dOf (x:Str × Int × Int):Dt:=.t [.s x.1,.t [.i x.2.1,.i x.2.2]]
theorem PrL.append (h:PrL H vs xs)(k:PrL H us ys):PrL H (vs ++ us) (xs ++ ys):=by
 induction h with
 | nil=>exact k
 | cons p _ ih=>exact .cons p ih
theorem aFu {M:Int}{N:Int}(h:Fr M x.2.1 x.2.2 N):nOf M x=N:=by
 have e:=h.e;obtain ⟨c,hc⟩:=h.dvd;have b1:=h.am.b1;unfold K34.nOf;rw [hc,Int.mul_ediv_cancel_left _ (by omega)];rw [hc] at e;have e2:x.2.2*(x.2.1*c)=x.2.2*N:=by
  rw [BO _ N,<- e,<- BF,<- BF,BO x.2.2]
 exact Int.eq_of_mul_eq_mul_left (by omega) e2
theorem aAw {n:Int} : ∀ {ks:List Str},ks.Nodup->y ∈ ks->(ks.map fun k=>if y=k then n else 0).sum=n
 | [],_,h=>by simp at h
 | k :: ks,nd,h=>by
  rw [Ai,AI];have nd':=BJ.mp nd
  by_cases e:y=k
  ·subst e
   rw [if_pos rfl];have : ∀ (ks:List Str),y ∉ ks->(ks.map fun k=>if y=k then n else 0).sum=0:=by
    intro ks
    induction ks with
    | nil=>intro _; rfl
    | cons z r ih =>
     intro hz;rw [Ai,AI,if_neg (fun e:y=z=>hz (e ▸ Au)),ih (fun q=>hz (Al _ q))];rfl
   rw [this ks nd'.1];omega
  ·rw [if_neg e,aAw nd'.2 ((AD.mp h).resolve_left e)]
   omega
theorem lP {M:Int}(y:Str):NW M (x :: xs) y=(if x.1=y then nOf M x else 0)+NW M xs y:=by
 unfold NW sumN
 by_cases e:x.1=y
 ·rw [Ep (by simpa using e),if_pos e,Ai,AI]
 ·rw [Er (by simpa using e),if_neg e]
  omega
theorem sum_add {f g:Str->Int} : ∀ (ks:List Str),(ks.map fun k=>f k+g k).sum=(ks.map f).sum+(ks.map g).sum
 | []=>rfl
 | k :: r=>by
  rw [Ai,Ai,Ai,AI,AI,AI,sum_add r];omega
theorem kA {M:Int}{ks:List Str}(nd:ks.Nodup) : ∀ {xs:List (Str × Int × Int)},(∀ x ∈ xs,x.1 ∈ ks)->(ks.map (NW M xs)).sum=sumN M xs
 | [],_=>by
  have : ∀ r:List Str,(r.map (NW M [])).sum=0:=by
   intro r
   induction r with
   | nil=>rfl
   | cons k r ih=>rw [Ai,AI,ih]; rfl
  exact this ks
 | x :: xs,h=>by
  have e:(ks.map (NW M (x :: xs)))=ks.map fun k=>(if x.1=k then nOf M x else 0)+NW M xs k:=Eg fun k _=>lP k;rw [e,sum_add,aAw nd (h x Au),kA nd fun y hy=>h y (Al _ hy)];unfold sumN;rw [Ai,AI]
abbrev leS (a b:Str):Prop:=a.cps.toList<=b.cps.toList
theorem aCl {a b:List Str}(h:a.Perm b)(ha:a.Pairwise leS)(hb:b.Pairwise leS):a=b :=
 h.eq_of_pairwise (le:=leS) (fun x y _ _ h1 h2=>TM.ext (EJ h1 h2)) ha hb
structure IsMx (M:Int)(f:Str->Int)(ys:List (Str × Int × Int)):Prop where
 pw:(ys.map (·.1)).Pairwise leS
 nd:(ys.map (·.1)).Nodup
 mem : ∀ y,y ∈ ys.map (·.1) ↔ f y ≠ 0
 fr : ∀ p ∈ ys,Fr M p.2.1 p.2.2 (f p.1)
theorem IsMx.of {M:Int}(h:aF5 M xs ys):IsMx M (NW M xs) ys:=by
 obtain ⟨ks,so,nd,mm,em,fr⟩:=h;refine ⟨?_,?_,fun y => ?_,fr⟩
 ·rw [em]
  exact (iL so).filter _
 ·rw [em]
  exact nd.filter _
 ·rw [em,List.mem_filter]
  constructor
  ·exact fun z=>of_decide_eq_true z.2
  ·intro z
   refine ⟨(mm y).mpr ?_,decide_eq_true z⟩
   by_cases hy:y ∈ xs.map (·.1)
   ·exact hy
   ·exact absurd (eP hy) z
theorem IsMx.congr {M:Int}{f g:Str->Int}(h:IsMx M f ys)(e : ∀ y,f y=g y):IsMx M g ys:=by
 have:f=g:=funext e;exact this ▸ h
theorem IsMx.uniq {M:Int}(hM:0 < M){f:Str->Int}(h:IsMx M f ys)(k:IsMx M f zs):ys=zs:=by
 have e:ys.map (·.1)=zs.map (·.1):=aCl ((List.perm_ext_iff_of_nodup h.nd k.nd).mpr fun y=>by rw [h.mem,k.mem]) h.pw k.pw;exact qP hM e h.fr k.fr
theorem IsMx.over {M:Int}{f:Str->Int}(h:IsMx M f ys):Over M ys:=fun x hx=>⟨(h.fr x hx).am,(h.fr x hx).dvd⟩
theorem IsMx.nw {M:Int}{f:Str->Int}(h:IsMx M f ys)(y:Str):NW M ys y=f y:=by
 have key : ∀ (ys:List (Str × Int × Int)),(ys.map (·.1)).Nodup->(∀ p ∈ ys,Fr M p.2.1 p.2.2 (f p.1))->NW M ys y=if y ∈ ys.map (·.1) then f y else 0:=by
  intro ys
  induction ys with
  | nil=>intro _ _; rfl
  | cons x r ih =>
   intro nd fr;rw [Ai] at nd;have nd':=BJ.mp nd;rw [lP,ih nd'.2 fun p hp=>fr p (Al _ hp)]
   by_cases e:x.1=y
   ·subst e
    rw [if_pos rfl,if_neg nd'.1,if_pos (by simp),aFu (fr x Au)];omega
   ·rw [if_neg e]
    by_cases m:y ∈ r.map (·.1)
    ·rw [if_pos m,if_pos (by rw [Ai]; exact Al _ m)]
     omega
    ·rw [if_neg m,if_neg (by
      rw [Ai,AD]
      rintro (z | z)
      ·exact e z.symm
      ·exact m z)]
     rfl
 rw [key ys h.nd h.fr];split
 ·rfl
 ·rename_i hn
  by_cases z:f y=0
  ·exact z.symm
  ·exact absurd ((h.mem y).mpr z) hn
theorem jG {M:Int}(xs ys:List (Str × Int × Int))(y:Str):NW M (xs ++ ys) y=NW M xs y+NW M ys y:=by
 unfold NW sumN;rw [DC,Bo,EZ]
theorem oA {M:Int}(xs ys:List (Str × Int × Int)):sumN M (xs ++ ys)=sumN M xs+sumN M ys:=by
 unfold sumN;rw [Bo,EZ]
def Brt (M N ta ba:Int):List (Str × Int × Int)->List (Str × Int × Int)->Prop
 | [],[]=>True
 | x :: xs,z :: zs=>z.1=x.1/\Fr (N*ba) z.2.1 z.2.2 (nOf M x*ta)/\Brt M N ta ba xs zs
 | _,_=>False
structure Tw (K:Aa)(H:Hp)(p q:Addr)(t1 b1 t2 b2:Int):Prop where
 sp:SqT K H p [.int t1,.int b1]
 sq:SqT K H q [.int t2,.int b2]
 a1:Amt t1 b1
 a2:Amt t2 b2
 st1:Bt 4000 t1
 sb1:Bt 4000 b1
 st2:Bt 4000 t2
 sb2:Bt 4000 b2
def oF (K:Aa):Sp:=fun vs H Q _=>∃ (p q:Addr) (t1 b1 t2 b2:Int),vs=[.ref p,.ref q]/\Tw K H p q t1 b1 t2 b2 /\
 RetT H Q [(t1*t2) / G (t1*t2) (b1*b2),(b1*b2) / G (t1*t2) (b1*b2)]
def aB4 (K:Aa):Sp:=fun vs H Q _=>∃ (m1 m2:Addr) (us1 us2:List V) (ys1 ys2:List (Str × Int × Int)) (M:Int),vs=[.ref m1,.ref m2]/\SqT K H m1 us1/\PrL H us1 ys1/\SqT K H m2 us2/\PrL H us2 ys2 /\
 ys1.length+ys2.length<=63/\Over M ys1/\Over M ys2/\0 < M/\Bt 3000 M/\Bt 3000 (sumN M (ys1 ++ ys2)) /\
 ∀ m zs ys H',Same H H'->H' m=some (.tup zs)->PrL H' zs ys->IsMx M (fun y=>NW M ys1 y+NW M ys2 y) ys->Q (.ref m) H'
theorem mul1 {a b:Int}(ha:1<=a)(hb:1<=b):1<=a*b:=by
 have:=Int.mul_le_mul ha hb (by decide) (by omega);omega
def gO (K:Aa):Sp:=fun vs H Q _=>∃ (p q:Addr) (t1 b1 t2 b2:Int),vs=[.ref p,.ref q]/\Tw K H p q t1 b1 t2 b2/\Q (.bl (decide (t1*b2 < t2*b1))) H
def kQ (K:Aa):Sp:=fun vs H Q _=>∃ (p q:Addr) (t1 b1 t2 b2:Int),vs=[.ref p,.ref q]/\Tw K H p q t1 b1 t2 b2/\t2*b1<=t1*b2 /\
 RetT H Q [(t1*b2 - t2*b1) / G (t1*b2 - t2*b1) (b1*b2),(b1*b2) / G (t1*b2 - t2*b1) (b1*b2)]
theorem fY {M1 M2 t1 b1 n1 t2 b2 n2:Int}(h1:0 < M1)(h2:0 < M2)(f1:Fr M1 t1 b1 n1)(f2:Fr M2 t2 b2 n2)(le:n2*M1<=n1*M2):t2*b1<=t1*b2/\Fr (M1*M2) ((t1*b2 - t2*b1) / G (t1*b2 - t2*b1) (b1*b2)) ((b1*b2) / G (t1*b2 - t2*b1) (b1*b2)) (n1*M2 - n2*M1):=by
 have e1:=f1.e;have e2:=f2.e;have a1:=f1.am.b1;have a2:=f2.am.b1;have bb:1<=b1*b2:=mul1 a1 a2;have MM:0 < M1*M2:=Cf h1 h2;have key:(t1*b2 - t2*b1)*(M1*M2)=(n1*M2 - n2*M1)*(b1*b2):=by grind
 have le':0<=t1*b2 - t2*b1:=by
  have r:0<=(n1*M2 - n2*M1)*(b1*b2):=BA (by omega) (by omega);rw [<- key] at r;exact Int.nonneg_of_mul_nonneg_left r MM
 refine ⟨by omega,iX le' bb,?_⟩;have c:=fW (t1*b2 - t2*b1) (b1*b2);generalize (t1*b2 - t2*b1) / G (t1*b2 - t2*b1) (b1*b2)=x at *
 generalize b1*b2 / G (t1*b2 - t2*b1) (b1*b2)=y at *
 refine BC (show b1*b2 ≠ 0 by omega) ?_
 grind
section
variable {P:Ax}{w:World}{K:Aa}{mg:Str->Option Value}{base:Heap}
theorem aCc:FnScope ["one","other"] ["one","other"] (aH sTimes):=fnScOk (by decide +kernel)
theorem zK (F:Fun K "times" "times" sTimes f fd)(cL:Cal P w K mg base CX0 2 "lowest_terms" ["top","bottom"] uC):FnOk P w K mg base CX0 3 f fd ["one","other"] (oF K):=by
 refine F.ok aCc (fun vs H Q E h => ?_) (fun cdv A outer s H vs Q E hr h => ?_)
 ·obtain ⟨_,_,_,_,_,_,rfl,_⟩:=h
  rfl
 ·obtain ⟨p,q,t1,b1,t2,b2,rfl,T,k⟩:=h
  refine ⟨_,aE (aM (aJ cL hr rfl aT (aA (aK bI (pit 0 0) (pit 1 0)) (aA (aK bI (pit 0 1) (pit 1 1)) aD)))),?_⟩;refine ⟨p,_,_,rfl,T.sp,rfl,q,_,_,rfl,T.sq,rfl,_,_,rfl,rfl,⟨b6 T.st1,b6 T.st2⟩,?_⟩;exact ⟨p,_,_,rfl,T.sp,rfl,q,_,_,rfl,T.sq,rfl,_,_,rfl,rfl,⟨b6 T.sb1,b6 T.sb2⟩,_,_,rfl,BA T.a1.t0 T.a2.t0,mul1 T.a1.b1 T.a2.b1,(T.sb1.mul T.sb2).mono (by decide),k⟩
theorem rW:FnScope ["one","other"] ["one","other"] (aH sTogether):=fnScOk (by decide +kernel)
theorem oR (F:Fun K "together" "together" sTogether f fd)(T:Txt mg)(cM:Cal P w K mg base CX0 4 "mixture" ["pairs"] (fK K)):FnOk P w K mg base CX0 5 f fd ["one","other"] (aB4 K):=by
 refine F.ok rW (fun vs H Q E h => ?_) (fun cdv A outer s H vs Q E hr h => ?_)
 ·obtain ⟨_,_,_,_,_,_,_,rfl,_⟩:=h
  rfl
 ·obtain ⟨m1,m2,us1,us2,ys1,ys2,M,rfl,q1,p1,q2,p2,yl,o1,o2,M0,bM,bS,k⟩:=h
  refine ⟨_,(aE (aM (aJ cM hr rfl aT (aA (aK aBb (aX bV rfl T.list' eG (aA (pv 0) aD)) (aX bV rfl T.list' eG (aA (pv 1) aD))) aD)))),?_⟩;refine ⟨_,rfl,m1,us1,rfl,.inr q1,fun c1 hc1 => ?_⟩;have s1:Same H (upd H c1 (.lst us1)):=Same.upd hc1;refine ⟨_,rfl,m2,us2,rfl,.inr (s1.tup q2),fun c2 hc2 => ?_⟩;have s2:Same (upd H c1 (.lst us1)) (upd (upd H c1 (.lst us1)) c2 (.lst us2)):=Same.upd hc2;have l1:=p1.length;have l2:=p2.length;refine ⟨c1,c2,us1,us2,rfl,rfl,s2 _ _ aB,aB,bL (by omega),fun c3 hc3 => ?_⟩;have s3:Same (upd (upd H c1 (.lst us1)) c2 (.lst us2)) (upd (upd (upd H c1 (.lst us1)) c2 (.lst us2)) c3 (.lst (us1 ++ us2))):=Same.upd hc3;have s13:=(s1.trans s2).trans s3;refine ⟨c3,us1 ++ us2,ys1 ++ ys2,M,rfl,SqL.of aB,(p1.keep (Same.tk s13)).append (p2.keep (Same.tk s13)),by rw [AB]; omega,fun x hx=>(Bi.mp hx).elim (o1 x) (o2 x),M0,bM,bS,fun m zs ys H' s' hm pm mx => ?_⟩;exact k m zs ys H' (s13.trans s') hm pm ((IsMx.of mx).congr fun y=>jG ys1 ys2 y)
theorem aC7 (F:Fun K "less" "less" sLess f fd):FnOk P w K mg base CX0 1 f fd ["one","other"] (gO K):=by
 refine F.ok aAy (fun vs H Q E h => ?_) (fun cdv A outer s H vs Q E hr h => ?_)
 ·obtain ⟨_,_,_,_,_,_,rfl,_⟩:=h
  rfl
 ·obtain ⟨p,q,t1,b1,t2,b2,rfl,T,k⟩:=h
  refine ⟨_,aE (aM (dB vL (aK bI (pit 0 0) (pit 1 1)) (aK bI (pit 1 0) (pit 0 1)) (aU _))),?_⟩;refine ⟨p,_,_,rfl,T.sp,rfl,q,_,_,rfl,T.sq,rfl,_,_,rfl,rfl,⟨b6 T.st1,b6 T.sb2⟩,q,_,_,rfl,T.sq,rfl,p,_,_,rfl,T.sp,rfl,_,_,rfl,rfl,⟨b6 T.st2,b6 T.sb1⟩,_,_,rfl,rfl,k⟩
theorem aCe:FnScope ["one","other"] ["one","other"] (aH sMinus):=fnScOk (by decide +kernel)
theorem zP (F:Fun K "minus" "minus" sMinus f fd)(cE:Cal P w K mg base CX0 2 "less" ["one","other"] (gO K))(cL:Cal P w K mg base CX0 2 "lowest_terms" ["top","bottom"] uC):FnOk P w K mg base CX0 3 f fd ["one","other"] (kQ K):=by
 refine F.ok aCe (fun vs H Q E h => ?_) (fun cdv A outer s H vs Q E hr h => ?_)
 ·obtain ⟨_,_,_,_,_,_,rfl,_⟩:=h
  rfl
 ·obtain ⟨p,q,t1,b1,t2,b2,rfl,T,le,k⟩:=h
  refine ⟨_,aC (bA (bY (aJ cE hr rfl aT (aA (pv 0) (aA (pv 1) aD)))) (aE zB) aP)
   (aE (aM (aJ cL hr rfl aT (aA (aK jQ (aK bI (pit 0 0) (pit 1 1)) (aK bI (pit 1 0) (pit 0 1))) (aA (aK bI (pit 0 1) (pit 1 1)) aD))))),?_⟩
  refine ⟨_,rfl,_,rfl,p,q,t1,b1,t2,b2,rfl,T,_,rfl,?_⟩;rw [decide_eq_false (by omega)];refine iteF ⟨p,_,_,rfl,T.sp,rfl,q,_,_,rfl,T.sq,rfl,_,_,rfl,rfl,⟨b6 T.st1,b6 T.sb2⟩,q,_,_,rfl,T.sq,rfl,p,_,_,rfl,T.sp,rfl,_,_,rfl,rfl,⟨b6 T.st2,b6 T.sb1⟩,_,_,rfl,rfl,?_⟩;exact ⟨p,_,_,rfl,T.sp,rfl,q,_,_,rfl,T.sq,rfl,_,_,rfl,rfl,⟨b6 T.sb1,b6 T.sb2⟩,_,_,rfl,by omega,mul1 T.a1.b1 T.a2.b1,(T.sb1.mul T.sb2).mono (by decide),k⟩
end
theorem Tw.bot {K:Aa}{H:Hp}{p q:Addr}{t1 b1 t2 b2:Int}(T:Tw K H p q t1 b1 t2 b2):1<=b1*b2/\Bt 8000 (b1*b2):=by
 have:=Int.mul_le_mul T.a1.b1 T.a2.b1 (by decide) (by have:=T.a1.b1; omega);exact ⟨by omega,T.sb1.mul T.sb2⟩
theorem Tw.nn {K:Aa}{H:Hp}{p q:Addr}{t1 b1 t2 b2:Int}(T:Tw K H p q t1 b1 t2 b2):0<=t1*b2/\0<=t2*b1/\0<=t1*t2 :=
 ⟨BA T.a1.t0 (by have:=T.a2.b1; omega),BA T.a2.t0 (by have:=T.a1.b1; omega),BA T.a1.t0 T.a2.t0⟩
def yQ (K:Aa):Sp:=fun vs H Q _=>∃ (p q:Addr) (t1 b1 t2 b2:Int),vs=[.ref p,.ref q]/\Tw K H p q t1 b1 t2 b2 /\
 RetT H Q [(t1*b2+t2*b1) / G (t1*b2+t2*b1) (b1*b2),(b1*b2) / G (t1*b2+t2*b1) (b1*b2)]
def lU (K:Aa):Sp:=fun vs H Q _=>∃ (p q:Addr) (t1 b1 t2 b2:Int),vs=[.ref p,.ref q]/\Tw K H p q t1 b1 t2 b2/\t2*b1<=t1*b2 /\
 RetT H Q [(t1*b2 - t2*b1) / G (t1*b2 - t2*b1) (b1*b2),(b1*b2) / G (t1*b2 - t2*b1) (b1*b2)]
def spBy (K:Aa):Sp:=fun vs H Q _=>∃ (p q:Addr) (t1 b1 t2 b2:Int),vs=[.ref p,.ref q]/\Tw K H p q t1 b1 t2 b2 /\
 RetT H Q [(t1*t2) / G (t1*t2) (b1*b2),(b1*b2) / G (t1*t2) (b1*b2)]
def pairOf:List V->List (Str × Str)->List Str->V
 | u :: us,p :: ps,xs=>if p.1 ∈ xs/\p.2 ∈ xs then u else pairOf us ps xs
 | _,_,_=>.non
theorem iU {us:List V}{ps:List (Str × Str)}{xs:List Str}{i:Nat}{u:V}{p:Str × Str}(hu:us[i]?=some u)(hp:ps[i]?=some p):pairOf (us.drop i) (ps.drop i) xs=if p.1 ∈ xs/\p.2 ∈ xs then u else pairOf (us.drop (i+1)) (ps.drop (i+1)) xs:=by
 obtain ⟨h1,e1⟩:=Ad.mp hu;obtain ⟨h2,e2⟩:=Ad.mp hp;rw [List.drop_eq_getElem_cons h1,List.drop_eq_getElem_cons h2,e1,e2];rfl
theorem gJ :pairOf [] ps xs = .non:=by
 cases ps <;> rfl
def kN (K:Aa):Sp:=fun vs H Q _=>∃ (p r q:Addr) (rs us:List V) (ps:List (Str × Str)) (nm:Addr) (xs:List Str),vs=[.ref p,.ref nm]/\Bn H p r q rs us ps/\SqT K H nm (xs.map V.str)/\Q (pairOf us ps xs) H
def RmL (H:Hp)(rs:List V)(rbs:List (Int × Int)):Prop:=rs.length=rbs.length/\∀ (i:Nat) v rb,rs[i]?=some v->rbs[i]?=some rb->∃ q,v = .ref q/\H q=some (.tup [.int rb.1,.int rb.2])/\Rm rb.1 rb.2
theorem RmL.keep (h:RmL H rs rbs)(k:Tk H H'):RmL H' rs rbs:=⟨h.1,fun i v d hv hd=>by
 obtain ⟨q,e,h1,h2⟩:=h.2 i v d hv hd;exact ⟨q,e,k _ _ h1,h2⟩⟩
theorem RmL.get {ds:List (Int × Int)}(h:RmL H vs ds){i:Nat}(hv:vs[i]?=some v) : ∃ d,ds[i]?=some d/\∃ q,v = .ref q/\H q=some (.tup [.int d.1,.int d.2])/\Rm d.1 d.2:=by
 obtain ⟨d,hd⟩ : ∃ d,ds[i]?=some d:=⟨_,Ae (by rw [<- h.1]; exact (Ad.mp hv).1)⟩;exact ⟨d,hd,h.2 i v d hv hd⟩
theorem RmsT.list  : ∀ {rs:List V},RmsT H rs->∃ rbs,RmL H rs rbs
 | [],_=>⟨[],rfl,fun i v rb h=>by simp at h⟩
 | u :: r,h=>by
  obtain ⟨q,t,b,rfl,sq,rm⟩:=h u (Au ..);obtain ⟨rbs,l,k⟩:=RmsT.list (rs:=r) fun x hx=>h x (Al _ hx);refine ⟨(t,b) :: rbs,by rw [AG,AG,l],fun i v rb hv hb => ?_⟩;cases i with
  | zero =>
   cases hv;cases hb;exact ⟨q,rfl,sq,rm⟩
  | succ i=>exact k i v rb (by simpa using hv) (by simpa using hb)
theorem wY {M t b N rt rb:Int}(hM:0 < M)(h:Fr M t b N):decide (rt*b < t*rb)=decide (rt*M < N*rb):=by
 have b0:0 < b:=by have:=h.am.b1; omega
 refine decide_eq_decide.mpr ?_;have e1:rt*b*M=rt*M*b:=AR ..;have e2:t*rb*M=N*rb*b:=by rw [AR,h.e,AR]
 rw [<- EY hM,e1,e2,EY b0]
section
variable {P:Ax}{w:World}{K:Aa}{mg:Str->Option Value}{base:Heap}
theorem aGo:FnScope ["_law_one","_law_other"] ["_law_one","_law_other"] (aH sAdd):=fnScOk (by decide +kernel)
theorem aFd {f:Addr}{fd:Bf}(F:Fun K "_law_add" "_law_add" sAdd f fd)(cL:Cal P w K mg base CX0 1 "_law_lowest" ["_law_top","_law_bottom"] dS):FnOk P w K mg base CX0 2 f fd ["_law_one","_law_other"] (yQ K):=by
 refine F.ok aGo (fun vs H Q E h => ?_) (fun cdv A outer s H vs Q E hr h => ?_)
 ·obtain ⟨_,_,_,_,_,_,rfl,_⟩:=h
  rfl
 ·obtain ⟨p,q,t1,b1,t2,b2,rfl,T,k⟩:=h
  refine ⟨_,aE (aM (aJ cL hr rfl aT (aA (aK bC (aK bI (pit 0 0) (pit 1 1)) (aK bI (pit 1 0) (pit 0 1))) (aA (aK bI (pit 0 1) (pit 1 1)) aD)))),?_⟩;have nn:=T.nn;refine ⟨p,_,_,rfl,T.sp,rfl,q,_,_,rfl,T.sq,rfl,_,_,rfl,rfl,⟨b6 T.st1,b6 T.sb2⟩,q,_,_,rfl,T.sq,rfl,p,_,_,rfl,T.sp,rfl,_,_,rfl,rfl,⟨b6 T.st2,b6 T.sb1⟩,_,_,rfl,rfl,?_⟩;exact ⟨p,_,_,rfl,T.sp,rfl,q,_,_,rfl,T.sq,rfl,_,_,rfl,rfl,⟨b6 T.sb1,b6 T.sb2⟩,_,_,rfl,by omega,T.bot.1,T.bot.2.mono (by decide),fun z H' s _ e=>k z H' s e⟩
theorem aEk:FnScope ["_law_one","_law_other"] ["_law_one","_law_other"] (aH sTake):=fnScOk (by decide +kernel)
theorem aC3 (F:Fun K "_law_take" "_law_take" sTake f fd)(cL:Cal P w K mg base CX0 1 "_law_lowest" ["_law_top","_law_bottom"] dS):FnOk P w K mg base CX0 2 f fd ["_law_one","_law_other"] (lU K):=by
 refine F.ok aEk (fun vs H Q E h => ?_) (fun cdv A outer s H vs Q E hr h => ?_)
 ·obtain ⟨_,_,_,_,_,_,rfl,_⟩:=h
  rfl
 ·obtain ⟨p,q,t1,b1,t2,b2,rfl,T,le,k⟩:=h
  refine ⟨_,aE (aM (aJ cL hr rfl aT (aA (aK jQ (aK bI (pit 0 0) (pit 1 1)) (aK bI (pit 1 0) (pit 0 1))) (aA (aK bI (pit 0 1) (pit 1 1)) aD)))),?_⟩;refine ⟨p,_,_,rfl,T.sp,rfl,q,_,_,rfl,T.sq,rfl,_,_,rfl,rfl,⟨b6 T.st1,b6 T.sb2⟩,q,_,_,rfl,T.sq,rfl,p,_,_,rfl,T.sp,rfl,_,_,rfl,rfl,⟨b6 T.st2,b6 T.sb1⟩,_,_,rfl,rfl,?_⟩;exact ⟨p,_,_,rfl,T.sp,rfl,q,_,_,rfl,T.sq,rfl,_,_,rfl,rfl,⟨b6 T.sb1,b6 T.sb2⟩,_,_,rfl,by omega,T.bot.1,T.bot.2.mono (by decide),fun z H' s _ e=>k z H' s e⟩
theorem scBy:FnScope ["_law_one","_law_other"] ["_law_one","_law_other"] (aH sBy):=fnScOk (by decide +kernel)
theorem aG4 (F:Fun K "_law_by" "_law_by" sBy f fd)(cL:Cal P w K mg base CX0 1 "_law_lowest" ["_law_top","_law_bottom"] dS):FnOk P w K mg base CX0 2 f fd ["_law_one","_law_other"] (spBy K):=by
 refine F.ok scBy (fun vs H Q E h => ?_) (fun cdv A outer s H vs Q E hr h => ?_)
 ·obtain ⟨_,_,_,_,_,_,rfl,_⟩:=h
  rfl
 ·obtain ⟨p,q,t1,b1,t2,b2,rfl,T,k⟩:=h
  refine ⟨_,aE (aM (aJ cL hr rfl aT (aA (aK bI (pit 0 0) (pit 1 0)) (aA (aK bI (pit 0 1) (pit 1 1)) aD)))),?_⟩;refine ⟨p,_,_,rfl,T.sp,rfl,q,_,_,rfl,T.sq,rfl,_,_,rfl,rfl,⟨b6 T.st1,b6 T.st2⟩,?_⟩;exact ⟨p,_,_,rfl,T.sp,rfl,q,_,_,rfl,T.sq,rfl,_,_,rfl,rfl,⟨b6 T.sb1,b6 T.sb2⟩,_,_,rfl,T.nn.2.2,T.bot.1,T.bot.2.mono (by decide),fun z H' s _ e=>k z H' s e⟩
theorem aCb:FnScope ["_law_one","_law_other"] ["_law_one","_law_other"] (aH sUnder):=fnScOk (by decide +kernel)
theorem zJ (F:Fun K "_law_under" "_law_under" sUnder f fd):FnOk P w K mg base CX0 1 f fd ["_law_one","_law_other"] (gO K):=by
 refine F.ok aCb (fun vs H Q E h => ?_) (fun cdv A outer s H vs Q E hr h => ?_)
 ·obtain ⟨_,_,_,_,_,_,rfl,_⟩:=h
  rfl
 ·obtain ⟨p,q,t1,b1,t2,b2,rfl,T,k⟩:=h
  refine ⟨_,aE (aM (dB vL (aK bI (pit 0 0) (pit 1 1)) (aK bI (pit 1 0) (pit 0 1)) (aU _))),?_⟩;refine ⟨p,_,_,rfl,T.sp,rfl,q,_,_,rfl,T.sq,rfl,_,_,rfl,rfl,⟨b6 T.st1,b6 T.sb2⟩,q,_,_,rfl,T.sq,rfl,p,_,_,rfl,T.sp,rfl,_,_,rfl,rfl,⟨b6 T.st2,b6 T.sb1⟩,_,_,rfl,rfl,k⟩
theorem qC:FnScope ["bench","names","pair"] ["bench","names"] (aH sPairIn):=fnScOk (by decide +kernel)
theorem vT {f:Addr}{fd:Bf}(F:Fun K "pair_in" "pair_in" sPairIn f fd):FnOk P w K mg base CX0 1 f fd ["bench","names"] (kN K):=by
 refine F.ok qC (fun vs H Q E h => ?_) (fun cdv A outer s H vs Q E hr h => ?_)
 ·obtain ⟨_,_,_,_,_,_,_,_,rfl,_⟩:=h
  rfl
 ·obtain ⟨p,r,q,rs,us,ps,nm,xs,rfl,bn,hn,k⟩:=h
  refine ⟨_,(aC (dI AU rfl (gR (pit 0 1)) (aV (i:=2) qC.nd rfl (Or.inl rfl))
    (aE (bA (PW.pt (mB (aQ eT (pit 2 0) (pv 1) rfl) (iO (aQ eT (pit 2 1) (pv 1) rfl)))) (aE (aM (pv 2))) aP)))
   (aE (aM dP))),?_⟩
  have hq:SqT K H q us:=SqT.of bn.hq;refine ⟨p,_,_,rfl,SqT.of bn.hp,rfl,q,rfl,⟨_,hq⟩,?_⟩;refine lF (xs:=us) (fun i σ H'=>∃ v2:Option V,σ=[some (.ref p),some (.ref nm),v2]/\pairOf us ps xs=pairOf (us.drop i) (ps.drop i) xs/\H'=H) ⟨none,rfl,rfl,rfl⟩ ?_ ?_ ?_
  ·rintro i σ H' hi ⟨_,rfl,_,rfl⟩
   exact hq
  ·rintro i v σ H2 hv ⟨v2,rfl,e,rfl⟩
   obtain ⟨y,hy⟩ : ∃ y,ps[i]?=some y:=⟨_,Ae (by rw [<- bn.pt.1]; exact (Ad.mp hv).1)⟩;obtain ⟨z,rfl,hz⟩:=bn.pt.2 i v y hv hy;have hz':SqT K H2 z [.str y.1,.str y.2]:=SqT.of hz;rw [iU hv hy] at e;refine ⟨z,_,_,rfl,hz',rfl,_,rfl,nm,_,rfl,.inr hn,rfl,eV xs,_,rfl,ite2 (fun h1 => ?_) (fun h1 => ?_)⟩
   ·have m1:=eF.mp h1
    refine ⟨z,_,_,rfl,hz',rfl,_,rfl,nm,_,rfl,.inr hn,rfl,eV xs,_,rfl,ite2 (fun h2 => ?_) (fun h2 => ?_)⟩
    ·rw [if_pos ⟨m1,eF.mp h2⟩] at e
     rw [e] at k;exact ⟨_,rfl,k⟩
    ·rw [if_neg fun z=>h2 (eF.mpr z.2)] at e
     exact ⟨_,rfl,e,rfl⟩
   ·rw [if_neg fun z=>h1 (eF.mpr z.1)] at e
    exact ⟨_,rfl,e,rfl⟩
  ·rintro σ H2 ⟨v2,rfl,e,rfl⟩
   rw [List.drop_length,gJ] at e;rw [e] at k;exact k
end
end K34
namespace L2
open PySem PySem.Spec PyProof.Rows PySem.W
def tTryN (K:Frag)(Dc:Addr)(tb:St->XK->TS)(th:TS):TS:=fun D σ H=>tb σ (fun cls _ H'=>∃ C,cls = .ref C/\ExK K C/\subIn K (.ref C) (.ref Dc)=some true/\th D σ H') D σ H
section
variable {X:Cx}
end
section
variable {X:Cx}
theorem aCw (hu:X.A.units+64 < cLine):OpR X (BI .NotEq) (fun x y H Q=>∃ a b xs,x = .ref a/\y = .ref b/\SqT X.K H a xs/\SqT X.K H b []/\Q (.bl (!xs.isEmpty)) H):=by
 intro pins s σ H x y v u Q I rx ry h;obtain ⟨a,b,xs,rfl,rfl,ha,hb,q⟩:=h;cases rx;cases ry;obtain ⟨its,r,p,_⟩:=I.tuple ha;obtain ⟨its',r',p',_⟩:=I.tuple hb;cases r';obtain ⟨o,o1,o2,n,o3⟩:=p;obtain ⟨o',o1',o2',n',o3'⟩:=p';have key:=SeqAt.RcNeAt.tuples (A:=X.A) (s:=s) (l:=a) (b:=b) (items:=its.toArray) (items2 := #[]) (e:=fun _=>true) ⟨o,o1,o2,n,o3⟩ ⟨o',o1',o2',n',o3'⟩ (by omega) (fun j h1 h2=>absurd h2 (by simp));cases r with
 | nil=>exact key X.prog X.w X.xe _ ⟨.bl _,H,I,rfl,q⟩
 | cons r t=>exact key X.prog X.w X.xe _ ⟨.bl _,H,I,rfl,q⟩
end
end L2
namespace L2
open PySem PySem.Spec PyProof.Rows PySem.W PySem.Builtin PySem.Builtin.ObjectAttr
section
variable {X:Cx}{o value:Expr}{x:Str}{pos pos':Pos}{ta tv:TE}{C P f:Addr}
def sExM (K:Frag)(C P f:Addr)(ta tv:TE)(x:Str):TS:=fun D σ H=>tv σ H fun y H1=>ta σ H1 fun z H2=>∃ a dx fs,z = .ref a/\H2 a=some (exN a C (some dx))/\H2 dx=some (xdE dx fs)/\fs.length<=90/\ExF K C P f x /\
 D.nx σ (upd H2 dx (xdE dx ((x,y) :: fs)))
theorem mD (ha:PE X o ta)(hv:PE X value tv)(hs:swapsWith value (some (.Attribute o x pos')) pos.line X.env=pure false):PS X (.Assign [.Attribute o x pos'] value pos) (sExM X.K C P f ta tv x):=by
 intro pins s σ H D I h;refine EN (thn (hv pins s σ H _ I h) fun u s1 ⟨y,H1,I1,ry,q⟩=>thn (ha pins s1 σ H1 _ I1 q) fun ov s2 ⟨z,H2,I2,rx,a,dx,fs,ez,ea,ed,hl,F,q2⟩ => ?_) hs;subst ez;obtain rfl:ov=AC a:=rx;obtain ⟨⟨ob,t',⟨o1,o2,o3⟩,o4⟩,_⟩:=I2.hok _ _ ea;obtain ⟨⟨mA,n1,r1,w1⟩,_⟩:=I2.hok _ _ ed;obtain ⟨hh,g,d,tk,os⟩:=s2;refine mX I2.kIn (jF I2.kIn F.i.xi) F.i.k F.sa F.nn ⟨o1,o2⟩ o3 n1 w1 (by rw [Ag]; omega) fun h' tk' hn' ks => ?_;have hx : ∃ u,h'.get? dx=some u:=by
  obtain ⟨o,es,ep,e,q⟩:=id hn';exact ⟨o,e⟩
 refine ⟨σ,_,I2.write (x:=dx) (e:=dx) (t':=tk') (by rw [ed]; exact Dx) (.inl rfl) ks hx ?_,q2⟩;refine aAs hn' (fun g => ?_) (fun g hg => ?_)
 ·by_cases z:g=x
  ·subst z
   simp only [Dr,beq_self_eq_true,if_true];exact ry
  ·have:((x,y) :: fs:List (Str × V)).lookup g=fs.lookup g:=by
    simp only [Dr];rw [beq_eq_false_iff_ne.mpr z]
   rw [this,if_neg z];exact r1 g
 ·by_cases z:g=x
  ·rw [z]; simp
  ·rw [if_neg z] at hg
   exact Al _ (w1 g hg)
end
end L2
namespace SX
open PySem PySem.Spec PyProof.Rows
def byT (w:World):Bool:=w.params.followText "set-order"
def kv:Value->Str
 | .str x _=>x
 | _=>⟨#[]⟩
theorem sU (t:BW)(es:Array (Int × Value))(c:Int)(x:Value):(layNew t es c x).2.1.led=t.led:=by
 unfold layNew;split
 ·unfold BW.orStandIn
  simp only;split <;> rfl
 ·rfl
theorem aAc {m f v:Nat}{l p:Bool}{r:BW × Array Nat}(h:BW.laid m f v l p hs=some r):r.1.led=l/\r.1.plain=p:=by
 unfold BW.laid at h;cases e:BW.layClean m hs with
 | none=>rw [e] at h; cases h
 | some o =>
  rw [e] at h;cases h;exact ⟨rfl,rfl⟩
theorem uN (t:BW)(es:Array (Int × Value))(n:Nat)(hp:t.plain=false):(relayAll t es n).2.1.led=t.led/\(relayAll t es n).2.1.plain=false:=by
 unfold relayAll;split
 ·next t' o e =>
  have q:=aAc (show BW.laid _ _ _ t.led t.plain _=some _ from e);simp only;split
  ·exact ⟨q.1,q.2.trans hp⟩
  ·exact ⟨rfl,rfl⟩
 ·exact ⟨rfl,rfl⟩
def setO (es:Array (Int × Value))(ep:Nat)(t:BW):Obj:={ cls:=.type "set",dict:=none,data:=.set es ep t,slots := #[] }
structure SetS (P:Ax)(w:World)(h:Heap)(a:Addr)(ks:List Str):Prop where
 ex : ∃ es ep t,h.get? a=some (setO es ep t)/\ElemsOf (strKind P w) es.toList/\t.fits es.size=true/\t.led=(!byT w)/\(t.plain=false\/es.size=0)/\(es.toList.map fun e=>kv e.2).Perm ks
 nd:ks.Nodup
 lt:ks.length < EC
def dd (ks:List Str)(x:Str):List Str:=if x ∈ ks then ks else ks ++ [x]
def ddl (ss:List Str):List Str:=ss.foldl dd []
theorem aF0 :y ∈ dd ks x ↔ y ∈ ks\/y=x:=by
 unfold dd;split
 ·next h=>exact ⟨.inl,fun z=>z.elim id fun e=>e ▸ h⟩
 ·simp
theorem rH (h:ks.Nodup):(dd ks x).Nodup:=by
 unfold dd;split
 ·exact h
 ·next n =>
  rw [List.nodup_append];refine ⟨h,by simp,fun a ha b hb => ?_⟩;rw [AE.mp hb];exact fun e=>n (e ▸ ha)
theorem aBo :(dd ks x).length<=ks.length+1:=by
 unfold dd;split
 ·omega
 ·simp
theorem aAn (ss:List Str)(x:Str):ddl (ss ++ [x])=dd (ddl ss) x:=by unfold ddl; rw [List.foldl_append]; rfl
theorem lK : ∀ (ss acc:List Str),acc.Nodup->(ss.foldl dd acc).Nodup/\(∀ y,y ∈ ss.foldl dd acc ↔ y ∈ acc\/y ∈ ss)/\(ss.foldl dd acc).length<=acc.length+ss.length
 | [],acc,h=>⟨h,fun y=>by simp,by simp⟩
 | x :: r,acc,h=>by
  obtain ⟨a,b,c⟩:=lK r (dd acc x) (rH h);refine ⟨a,fun y => ?_,?_⟩
  ·rw [Fb,b,aF0,AD]
   exact or_assoc
  ·rw [Fb,AG]
   have:=aBo (ks:=acc) (x:=x);omega
theorem ddl_nodup (ss:List Str):(ddl ss).Nodup:=(lK ss [] DY).1
theorem ddl_mem :y ∈ ddl ss ↔ y ∈ ss:=((lK ss [] DY).2.1 y).trans (by simp)
theorem ddl_len (ss:List Str):(ddl ss).length<=ss.length:=by
 have h:=(lK ss [] DY).2.2;rw [List.length_nil,Nat.zero_add] at h;exact h
theorem aBl {w:World}(el:ElemsOf (strKind P w) es)(h:e ∈ es) : ∃ t,e.2 = .str (kv e.2) t:=by
 obtain ⟨⟨k,hk,_⟩,_⟩:=el e h;obtain ⟨t,ht⟩:=Dm (x:=k) (v:=e.2) hk;exact ⟨t,by rw [ht]; rfl⟩
theorem aFx {w:World}(el:ElemsOf (strKind P w) es)(pm:(es.map fun e=>kv e.2).Perm ks)(x:Str):x ∈ ks ↔ ∃ e ∈ es,(strKind P w).is x e.2=true:=by
 rw [<- pm.mem_iff,AJ];constructor
 ·rintro ⟨e,he,rfl⟩
  obtain ⟨t,ht⟩:=aBl el he;exact ⟨e,he,by rw [ht]; exact strKind_is P w _ t⟩
 ·rintro ⟨e,he,h⟩
  obtain ⟨t,ht⟩:=Dm (x:=x) (v:=e.2) h;exact ⟨e,he,by rw [ht]; rfl⟩
section
variable {P:Ax}{w:World}{A:Around}{E:Value->Shared->Prop}{s:Shared}
theorem SetS.stored {h:Heap}{a:Addr}{es es':Array (Int × Value)}{ep:Nat}{t t':BW}{ks:List Str}(ho:h.get? a=some (setO es ep t))(el:ElemsOf (strKind P w) es'.toList)(hf:t'.fits es'.size=true)(hl:t'.led=(!byT w))(hp:t'.plain=false)
  (pm:(es'.toList.map fun e=>kv e.2).Perm ks) (nd:ks.Nodup) (lt:ks.length < EC):(h.update a (Obj.putSet es' t')).get? a=some (setO es' (ep+1) t')/\SetS P w (h.update a (Obj.putSet es' t')) a ks:=by
 have hg:(h.update a (Obj.putSet es' t')).get? a=some (setO es' (ep+1) t'):=by
  have:=BK (Obj.putSet es' t') ho (by rw [putSet_of es' t' rfl]; rfl);rw [putSet_of es' t' rfl] at this;exact this
 exact ⟨hg,⟨_,_,_,hg,el,hf,hl,.inl hp,pm⟩,nd,lt⟩
theorem pS {g:Bool->Sem Unit}(hg : ∀ (b:Bool) (s1:Shared) (Q':Unit->Shared->Prop),Q' () s1->wpAny (model P w) A (g b) Q' E s1){a:Addr}{es es1:Array (Int × Value)}{ep:Nat}{t t2:BW}{ks:List Str}{wd:Bool}{R:Option Bool->Shared->Prop}
  (ho:s.heap.get? a=some (setO es ep t)) (el:ElemsOf (strKind P w) es1.toList) (hf:t2.fits es1.size=true) (hl:t2.led=(!byT w)) (hp:t2.plain=false) (pm:(es1.toList.map fun e=>kv e.2).Perm ks) (nd:ks.Nodup) (lt:ks.length < EC)
  (h : ∀ h',Ci a s.heap h'->SetS P w h' a ks->R (some true) { s with heap:=h' }) :
  wpAny (model P w) A (do
    storeSet a es1 t2
    if (!wd && t2.tooFull)=true then do
      g (relayAll t2 es1 (DO es1.size)).2.2; storeSet a (relayAll t2 es1 (DO es1.size)).1 (relayAll t2 es1 (DO es1.size)).2.1; pure (some true)
     else pure (some true)) R E s:=by
 have sz:es1.size=ks.length:=by rw [<- BB,<- Ag (f:=fun e=>kv e.2),pm.length_eq]
 refine Ab (wpAny_storeSet_of ho rfl ?_ (ER (by omega)));obtain ⟨o1,S1⟩:=SetS.stored (P:=P) (w:=w) ho el hf hl hp pm nd lt;have b1:=Ez s.heap a (Obj.putSet es1 t2);split
 ·have p2:=relayAll_perm t2 es1 (DO es1.size)
  have f2:=relayAll_fits t2 es1 (DO es1.size);have l2:=uN t2 es1 (DO es1.size) hp;generalize relayAll t2 es1 (DO es1.size)=r at p2 f2 l2 ⊢;obtain ⟨es2,t3,gv⟩:=r;dsimp only at p2 f2 l2 ⊢;have pm2:=(p2.map fun e=>kv e.2).trans pm;have sz2:es2.size=ks.length:=by rw [<- BB,<- Ag (f:=fun e=>kv e.2),pm2.length_eq]
  refine Ab (hg _ _ _ ?_);refine Ab (wpAny_storeSet_of o1 rfl ?_ (ER (by omega)));obtain ⟨_,S2⟩:=SetS.stored (P:=P) (w:=w) o1 (el.perm p2) f2 (l2.1.trans hl) l2.2 pm2 nd lt;exact Af (h _ (b1.trans (Ez _ a _)) S2)
 ·exact Af (h _ b1 S1)
theorem add_str {tk:Tok}(S:SetS P w s.heap a ks)(hr:ks.length+1 < EC)(h : ∀ b h',Ci a s.heap h'->SetS P w h' a (dd ks x)->Q b { s with heap:=h' }) :
  wpAny (model P w) A (setAddHashed a (.str x tk) ((strKind P w).hash x)) Q E s:=by
 have S0:=S;obtain ⟨⟨es,ep,t,ho,el,hf,hl,hp,pm⟩,nd,lt⟩:=S;have sz:es.size=ks.length:=by rw [<- BB,<- Ag (f:=fun e=>kv e.2),pm.length_eq]
 have key:=strKind_is P w x tk;have hsc:(Value.str x tk).scannable=true:=rfl;unfold setAddHashed setAddHashedIn;refine Br (Ab (Ea ho rfl hf ?_));dsimp only;rw [byScan_of (knd:=strKind P w) hsc (by omega) el];simp only [↓reduceIte];unfold setAddByScan;refine Ab (Ab (Di (Ab (wpAny_setScan_of key ho rfl hf el ?_))));have mem:=aFx el pm x;cases q:List.findIdx? (fun e=>(strKind P w).is x e.2) es.toList with
 | some j =>
  dsimp only;obtain ⟨hj,hpj,_⟩:=List.findIdx?_eq_some_iff_getElem.mp q;have hin:x ∈ ks:=mem.mpr ⟨es.toList[j],Dw hj,hpj⟩;refine Af (Af ?_);have e:dd ks x=ks:=by unfold dd; rw [if_pos hin]
  exact h false s.heap (Ci.refl a s.heap) (by rw [e]; exact S0)
 | none =>
  dsimp only;have hin:x ∉ ks:=fun z=>by
   obtain ⟨e,he,hpe⟩:=mem.mp z;have:=List.findIdx?_eq_none_iff.mp q e he;rw [hpe] at this;cases this
  have e:dd ks x=ks ++ [x]:=by unfold dd; rw [if_neg hin]
  have hgw : ∀ (b:Bool) {s1:Shared} {Q':Unit->Shared->Prop},Q' () s1->wpAny (model P w) A (match b with | true=>rule "set.scan.the-table-gave-way" | false=>pure ()) Q' E s1:=fun b s1 Q' z=>by
   cases b
   ·exact Af z
   ·exact Di z
  have lp:=layNew_perm t es ((strKind P w).hash x) (.str x tk);have lf:=layNew_fits t es ((strKind P w).hash x) (.str x tk);have ll:=sU t es ((strKind P w).hash x) (.str x tk);generalize layNew t es ((strKind P w).hash x) (.str x tk)=r at lp lf ll ⊢;obtain ⟨es1,t1,wd,gv⟩:=r;dsimp only at lp lf ll ⊢;rw [Array.toList_push] at lp;have el1:ElemsOf (strKind P w) es1.toList:=(el.push key hsc).perm lp;have pm1:(es1.toList.map fun e=>kv e.2).Perm (dd ks x):=by
   rw [e];refine (lp.map _).trans ?_;rw [Bo];exact pm.append_right _
  have nd1:=rH (x:=x) nd;have lt1:(dd ks x).length < EC:=by have:=aBo (ks:=ks) (x:=x); omega
  refine Ab (hgw _ ?_);split
  ·refine Ab ?_
   rw [hashByValue_scannable 8 hsc];refine Af ?_;refine pS (ks:=dd ks x) ?_ ho el1 (BW.fits_plain_off lf) (ll.trans hl) rfl pm1 nd1 lt1 ?_
   ·intro b s1 Q' z
    cases b
    ·exact Af z
    ·exact Di z
   ·intro h' sb S'
    exact Af (h _ h' sb S')
  ·next np =>
   refine Ab (Af ?_);simp only [↓reduceIte];refine pS (ks:=dd ks x) ?_ ho el1 lf (ll.trans hl) (by simpa using np) pm1 nd1 lt1 ?_
   ·intro b s1 Q' z
    cases b
    ·exact Af z
    ·exact Di z
   ·intro h' sb S'
    exact Af (h _ h' sb S')
end
theorem SetS.at {w:World}(S:SetS P w h a ks)(k : ∀ o,h.get? a=some o->h'.get? a=some o):SetS P w h' a ks:=by
 obtain ⟨⟨es,ep,t,ho,r⟩,nd,lt⟩:=S;exact ⟨⟨es,ep,t,k _ ho,r⟩,nd,lt⟩
theorem oB : ∀ {vs:List Value} {ss:List Str},EE vs ss->∀ (i:Nat) (v:Value),vs[i]?=some v->∃ x t,ss[i]?=some x/\v = .str x t
 | _,_,.nil,i,v,h=>by simp at h
 | _,_,.cons y t hr,0,v,h=>by simp at h; exact ⟨y,t,rfl,h.symm⟩
 | _,_,.cons y t hr,i+1,v,h=>by
  obtain ⟨x,u,h1,h2⟩:=oB hr i v (by simpa using h);exact ⟨x,u,by simpa using h1,h2⟩
section
variable {P:Ax}{w:World}{A:Around}{R:Result->Shared->Prop}{I:Addr}{fp wr:List Addr}{G:Array GenState->Array GenState->Prop}{n:Nat}{Pr:Nat->Value->Prop}{St:Nat->Shared->Prop}
theorem pP (W:WalksS P w A.in1 I fp wr G n Pr St)(a:Addr)(haf:a ∉ fp)(ss:List Str)(hl:ss.length=n)(hval : ∀ i v,Pr i v->∃ x t,ss[i]?=some x/\v = .str x t)(hb:n+1 < EC) :
  ∀ (k i:Nat) (s:Shared),n - i=k->i<=n->St i s->SetS P w s.heap a (ddl (ss.take i))->(∀ s',Moved (a :: wr) G s s'->SetS P w s'.heap a (ddl ss)->R (.ok (.ret .none)) s') ->
   DJ (model P w) A (.builtin "set.update.loop" ⟨[.ref a,.ref I],[]⟩) R s:=by
 have haw:a ∉ wr:=fun h=>haf (W.sub _ h);have sub : ∀ b ∈ wr,b ∈ a :: wr:=fun b hb=>Al _ hb;intro k
 induction k with
 | zero =>
  intro i s hk hi st S q;obtain rfl:i=n:=by omega
  refine Cr F.entry_set_update_loop ?_;rw [CH Fv _];show wpAny _ A.in1 (pyNext (.ref I) >>= _) _ _ s;refine Ab (W.done s _ _ st fun s' hm => ?_);show wpAny _ A.in1 (ret BP) _ _ s';refine Af (q s' (hm.mono sub) ?_);rw [Ex (by omega)] at S;exact S.at fun o e=>hm.heap a o haw e
 | succ k ih =>
  intro i s hk hi st S q;have lt:i < n:=by omega
  refine Cr F.entry_set_update_loop ?_;rw [CH Fv _];show wpAny _ A.in1 (pyNext (.ref I) >>= _) _ _ s;refine Ab (W.item i s _ _ lt st fun v s' hP st' hm => ?_);obtain ⟨x,t,hx,rfl⟩:=hval i v hP;have S':SetS P w s'.heap a (ddl (ss.take i)):=S.at fun o e=>hm.heap a o haw e;show wpAny _ A.in1 (holding [Value.str x t] (setAdd a (.str x t)) >>= _) _ _ s';refine Ab (Br ?_);unfold setAdd;refine Br ?_;refine Ab ((strKind P w).pyHash (k:=x) (strKind_is _ _ _ _) ?_);have room:(ddl (ss.take i)).length+1 < EC:=by
   have h1:=ddl_len (ss.take i);rw [Ef] at h1;omega
  refine add_str (s:={ s' with toks:=s'.toks+1 }) S' room fun b h' sb S2 => ?_;have S3:SetS P w h' a (ddl (ss.take (i+1))):=by
   have e:ss.take (i+1)=ss.take i ++ [x]:=by rw [List.take_succ,hx]; rfl
   rw [e,aAn];exact S2
  refine Af ⟨ED Fv _,ih (i+1) _ (by omega) lt (W.frame _ s' _ _ st' (Dh _) fun b hb o e => ?_) S3 fun s2 m2 z2 => ?_⟩
  ·rw [sb.2 b (fun h:b=a=>haf (by rw [<- h]; exact hb))]; exact e
  ·refine q s2 (Moved.trans W.gtrans ((hm.mono sub).then_heap (Dh _) fun b o hb e => ?_) m2) z2
   rw [sb.2 b (fun h:b=a=>hb (by rw [h]; exact Au))]; exact e
end
section
variable {P:Ax}{w:World}{A:Around}{E:Value->Shared->Prop}{s:Shared}
abbrev eI (w:World):Obj:=setO #[] 0 (.fresh 0 0 (!byT w))
theorem wC (v:Value)(h:Q1 (.ref s.heap.objs.size) { s with heap:=s.heap.push (eI w) }) :
  DJ (model P w) A (.call (.builtin "set.__new__") ⟨[.type "set",v],[]⟩) (wants Q1 E) s:=by
 refine Fq ?_;show wpAny _ A.in1 (do checkBuiltinCall "set.__new__" ⟨[.type "set",v],[]⟩; again (.builtin "set.__new__" ⟨[.type "set",v],[]⟩)) _ _ s;refine Ab (Et (F.newCall_set_1 v) (Af ⟨ED F.plain_set_new _,Cr F.entry_set_new ?_⟩));rw [CH F.plain_set_new _];unfold AF.«set.__new__» AF.Frozenset.newClass;have sub:=sub_set_self;obtain ⟨hp,g,d,tk,os⟩:=s;dsimp only
 wp_walk
 refine Em (Af ?_);dsimp only;simp only [newObj];refine Ab (wpAny_alloc (Af ?_));exact Af h
theorem qR (h:Heap):SetS P w (h.push (eI w)) h.objs.size [] :=
 ⟨⟨#[],0,_,Ah _ rfl,fun e he=>by simp at he,rfl,rfl,.inr rfl,.refl _⟩,DY,by decide⟩
theorem call_set_strs {l:Addr}(hh:A.handled=none)(hl:s.heap.IsList l its)(hi:EE its.toList ss)(hb:its.size+1 < EC)(h : ∀ (h':Heap) (tk:Nat),SetS P w h' s.heap.objs.size (ddl ss)->(∀ b o,s.heap.get? b=some o->h'.get? b=some o)->Q (.ref s.heap.objs.size) { s with heap:=h',toks:=tk }) :
  wpAny (model P w) A (call (.type "set") [.ref l]) Q E s:=by
 obtain ⟨c,tl,hmro⟩:=Ca.mro;have hmade:=Ca.made;have hsub:=Ca.sub;refine Ew (Fq ?_);show wpAny _ _ (callAny (.type "set") _) _ _ _;refine Af ⟨DD _ (by decide +kernel),Cr F.entry_type_call ?_⟩;rw [Around.under_plain (weight_type_call_type "set" [.ref l] []) rfl];have h1:=Ca.notType;have h2:=Ca.canCreate;have hct:=F.typeCall_set_1 (.ref l)
 repeat (any_goals (first | assumption | wp_step))
 refine Ck (wC (.ref l) (E:=E) (Q1:=fun obj s1=>obj = .ref s.heap.objs.size/\s1={ s with heap:=s.heap.push (eI w) }) ⟨rfl,rfl⟩) fun r s1 hr => ?_;cases r with
 | error e=>exact hr
 | ok fl =>
  cases fl with
  | ret obj =>
   obtain ⟨rfl,rfl⟩:=hr;have hS:(s.heap.push (eI w)).get? s.heap.objs.size=some (eI w):=Ah _ rfl;have hT:Shared.TypeIs { s with heap:=s.heap.push (eI w) } (.ref s.heap.objs.size) "set" := ⟨_,hS,rfl⟩;have hli:=Ca.init.lookup;have hbi:=Ca.init.bind (.ref s.heap.objs.size)
   repeat (any_goals (first | assumption | wp_step))
   refine Ck (Cv (R:=wants (fun r s2=>r = .none/\∃ h' tk,s2={ s with heap:=h',toks:=tk }/\SetS P w h' s.heap.objs.size (ddl ss)/\(∀ b o,s.heap.get? b=some o->h'.get? b=some o)) E) Ca.init.plain F.entry_set_init (check_set_init_1 hT ?_)) fun r2 s2 hr2 => ?_
   ·obtain ⟨ol,hol,hcl,nl,hdl⟩:=hl
    obtain ⟨ocls,odict,odata,oslots⟩:=ol;simp only at hcl hdl;subst hcl; subst hdl;have hol':(s.heap.push (eI w)).get? l=some { cls:=.type "list",dict:=odict,data:=.seq its nl,slots:=oslots }:=Ac _ hol;have hsls:=F.sub_list_set;have hslf:=F.sub_list_frozenset;have hne:(CT "list" == CT "dict")=false:=by decide
    have hl1:(s.heap.push (eI w)).IsList l its:=⟨_,hol',rfl,nl,rfl⟩;unfold AF.«set.__init__» noKeywords AF.Frozenset.updateFrom;generalize hPI:pyIter=PI
    wp_walk
    subst hPI;refine wpAny_pyIter_list hl1 ?_;refine Ab (wpAny_runValue ?_);have hlS:l < s.heap.objs.size:=Aq hol;have hh3:A.in1.in1.in1.handled=none:=by simp [hh]
    have hz:(s.heap.push (eI w)).objs.size=s.heap.objs.size+1:=BE ..;have hneI:l ≠ (s.heap.push (eI w)).objs.size:=by
     rw [hz];exact Av (Cj hlS)
    have haf:s.heap.objs.size ∉ [(s.heap.push (eI w)).objs.size,l]:=by
     simp only [AD,Ee,or_false,not_or];rw [hz];exact ⟨Av (Co _),Dq hlS⟩
    have hlen:ss.length=its.size:=by rw [<- BB]; exact (EE.length hi).symm
    refine pP ((Walks.list hh3 _ l hneI its).toS) s.heap.objs.size haf ss hlen (fun i v hv=>oB hi i v (by rw [Bm]; exact hv)) hb (its.size - 0) 0 _ (by omega) (BM _) ⟨⟨_,Ah _ rfl,rfl,rfl⟩,(hl1.push _)⟩ ((qR s.heap).at fun o e=>Ac _ e) fun s' hm S' => ?_;obtain ⟨h',g',d',tk',os'⟩:=s';have eg:g'=s.gens:=hm.gens;have ed:d'=s.drawn:=hm.drawn;have eo:os'=s.os:=hm.os;subst eg; subst ed; subst eo;show wpAny _ _ _ _ _ _;refine Af ?_;show wpAny _ _ (ret BP) _ _ _;refine Af ⟨rfl,h',tk',rfl,S',fun b o e => ?_⟩;have hb0:=Aq e;refine hm.heap b o ?_ (Ac _ (Ac _ e));simp only [AD,Ee,or_false,not_or];rw [hz];exact ⟨Av hb0,Av (Cj hb0)⟩
   ·cases r2 with
    | error e=>exact hr2
    | ok f2 =>
     cases f2 with
     | ret r =>
      obtain ⟨rfl,h',tk,rfl,S',hk'⟩:=hr2
      repeat (any_goals (first | assumption | wp_step))
      exact h _ _ S' hk'
     | _=>exact hr2.elim
  | _=>exact hr.elim
end
end SX
namespace DX
open PySem PySem.Spec PyProof.Rows
theorem fQ:plainId "dict.update.loop" = true:=by decide +kernel
theorem nE:entryFor table "dict.update.loop" = some AF.«dict.update.loop» := entryFor_of_tree (by kernel_rfl)
section
variable {P:Ax}{w:World}{A:Around}{E:Value->Shared->Prop}{s:Shared}
def TupAt (h:Heap)(z:Addr)(x y:Value):Prop:=∃ o n,h.get? z=some o/\o.cls = .type "tuple" /\ o.data = .seq #[x,y] n
theorem lB (ht:TupAt s.heap z x y)(h:Q [x,y] s):wpAny (model P w) A (AF.Dict.pairItems (.ref z)) Q E s:=by
 obtain ⟨o,n,ho,hc,hd⟩:=ht;unfold AF.Dict.pairItems;refine Ab (DV (T := "tuple") ⟨_,ho,hc⟩ ?_)
 wp_walk
 rw [hd];exact Af (Af h)
end
section
variable {P:Ax}{w:World}{K:Type}[DecidableEq K]{knd:KeyKind P w K}{A:Around}{R:Result->Shared->Prop}
theorem rT (acc:List (K × Value))(k:K)(v:Value):(stored acc k v).length<=acc.length+1:=by
 unfold stored;split
 ·rw [Ag]; omega
 ·rw [AB]; exact Ak _
end
section
variable {P:Ax}{w:World}{K:Type}[DecidableEq K]{knd:KeyKind P w K}{A:Around}{E:Value->Shared->Prop}{s:Shared}
abbrev nuD:Obj:={ cls:=.type "dict",data:=.dict #[] }
end
end DX
namespace L2
open PySem PySem.Spec PyProof.Rows
section
variable {X:Cx}
def rDictL (K:Aa):List V->Hp->VK->Prop:=fun xs H Q=>∃ (a:Addr) (us:List V) (kvs:List (Key × V)),xs=[.ref a]/\H a=some (.lst us)/\us.length=kvs.length/\(kvs.map (·.1)).Nodup /\
 (∀ (i:Nat) u kv,us[i]?=some u->kvs[i]?=some kv->∃ z,u = .ref z/\H z=some (.tup [kV kv.1,kv.2]))/\∀ p,H p=none->Q (.ref p) (upd H p (.dK kvs))
theorem rD : ∀ (kvs acc:List (Key × V)),(kvs.map (·.1)).Nodup->(∀ kv ∈ kvs,∀ kw ∈ acc,kv.1 ≠ kw.1)->kvs.foldl (fun acc kv=>putK acc kv.1 kv.2) acc=acc ++ kvs
 | [],acc,_,_=>by simp
 | kv :: r,acc,nd,h=>by
  rw [Ai] at nd;have nd':=BJ.mp nd;have e:putK acc kv.1 kv.2=acc ++ [kv]:=by
   unfold putK;rw [if_neg];intro z;obtain ⟨kw,hk,e⟩:=List.any_eq_true.mp z;exact h kv (Au ..) kw hk (of_decide_eq_true e).symm
  rw [Fb,e,rD r (acc ++ [kv]) nd'.2 fun k1 h1 k2 h2 => ?_,List.append_assoc]
  ·rfl
  ·rcases Bi.mp h2 with h2 | h2
   ·exact h k1 (Al _ h1) k2 h2
   ·rw [AE.mp h2]
    exact fun z=>nd'.1 (z ▸ Cd h1)
theorem wK : ∀ {kvs:List (Key × V)} {vs:List (Key × Value)} {acc:List (Key × V)} {bcc:List (Key × Value)},KV kvs vs->KV acc bcc->KV (kvs.foldl (fun acc kv=>putK acc kv.1 kv.2) acc) (vs.foldl (fun acc kv=>stored acc kv.1 kv.2) bcc)
 | [],[],_,_,_,h=>h
 | kv :: r,v :: q,acc,bcc,.cons ⟨e,rv⟩ t,h=>by
  have h1:=h.put kv.1 rv;rw [e] at h1;rw [Fb,Fb,e];exact wK t h1
end
end L2
namespace L2.TS
open PySem PySem.Spec PyProof.Rows
abbrev Ky:=List Nat
theorem wJ {a b:Ky}(hn:a ≠ b)(hl : ¬ a < b):b < a:=by
 by_cases hb:b < a
 ·exact hb
 ·exact absurd (EJ (List.not_lt.mp hb) (List.not_lt.mp hl)) hn
def ka (f:Value->Ky)(xs:Array Keyed)(i:Nat):Ky:=(xs[i]?.map fun p=>f p.1).getD []
theorem wN {i j:Nat}(e:xs[i]?=ys[j]?):ka f xs i=ka f ys j:=by
 unfold ka; rw [e]
def Up (f:Value->Ky)(xs:Array Keyed)(n:Nat):Prop:=∀ i j,i < j->j < n->ka f xs i < ka f xs j
def Dn (f:Value->Ky)(xs:Array Keyed)(n:Nat):Prop:=∀ i j,i < j->j < n->ka f xs j < ka f xs i
def Df (f:Value->Ky)(xs:List Keyed):Prop:=xs.Pairwise fun p q=>f p.1 ≠ f q.1
structure Sb (f:Value->Ky)(kd:SortKind)(o:Array Keyed)(st:SortSt):Prop where
 pm:(arrOf st).Perm o
 kn:kindOf st=kd
 fl:failedOf st=none
 pe:pendingOf st = #[]
 df:Df f (arrOf st).toList
section
variable {prog:Ax}{w:World}{A:Around}{E:Value->Shared->Prop}{s:Shared}{o:Array Keyed}{f:Value->Ky}{kd:SortKind}
theorem Sb.sz {st:SortSt}(b:Sb f kd o st):(arrOf st).size=o.size:=b.pm.size_eq
theorem Sb.put {st:SortSt}(b:Sb f kd o st)(p:xs.Perm (arrOf st)):Sb f kd o (setArr st xs) :=
 ⟨p.trans b.pm,b.kn,b.fl,b.pe,((DQ.mp p).symm.pairwise_iff fun h=>AM h).mp b.df⟩
theorem Sb.ne {st:SortSt}(b:Sb f kd o st){i j:Nat}(hi:i < o.size)(hj:j < o.size)(hij:i ≠ j):ka f (arrOf st) i ≠ ka f (arrOf st) j:=by
 have h:=Da.mp b.df;have hi':i < (arrOf st).size:=by rw [b.sz]; exact hi
 have hj':j < (arrOf st).size:=by rw [b.sz]; exact hj
 have e1:ka f (arrOf st) i=f (arrOf st)[i].1:=by unfold ka; rw [getElem?_pos (arrOf st) i hi']; rfl
 have e2:ka f (arrOf st) j=f (arrOf st)[j].1:=by unfold ka; rw [getElem?_pos (arrOf st) j hj']; rfl
 rw [e1,e2]
 rcases Nat.lt_or_gt_of_ne hij with l | l
 ·exact h i j (by simpa using hi') (by simpa using hj') l
 ·exact (h j i (by simpa using hj') (by simpa using hi') l).symm
def Cmp (prog:Ax)(w:World)(A:Around)(s:Shared)(kd:SortKind)(f:Value->Ky)(o:Array Keyed):Prop :=
 ∀ (p q:Keyed) (E:Value->Shared->Prop) (Q:Bool->Shared->Prop),p ∈ o.toList->q ∈ o.toList->f p.1 ≠ f q.1->Q (decide (f p.1 < f q.1)) s->wpAny (model prog w) A (keyLt' kd p.1 q.1) Q E s
theorem wH (C:Cmp prog w A s kd f o){st:SortSt}(b:Sb f kd o st){i j:Nat}(hi:i < o.size)(hj:j < o.size)(hij:i ≠ j)(h:Q (some (decide (ka f (arrOf st) i < ka f (arrOf st) j))) st):wpS (model prog w) A E s (ltAt' i j) Q st:=by
 have hd:=b.ne hi hj hij;have hi':i < (arrOf st).size:=by rw [b.sz]; exact hi
 have hj':j < (arrOf st).size:=by rw [b.sz]; exact hj
 have g1:(arrOf st)[i]?=some (arrOf st)[i]:=getElem?_pos _ i hi';have g2:(arrOf st)[j]?=some (arrOf st)[j]:=getElem?_pos _ j hj';have m1:(arrOf st)[i] ∈ o.toList:=(DQ.mp b.pm).mem_iff.mp (Array.getElem_mem_toList _);have m2:(arrOf st)[j] ∈ o.toList:=(DQ.mp b.pm).mem_iff.mp (Array.getElem_mem_toList _);have k1:ka f (arrOf st) i=f (arrOf st)[i].1:=by unfold ka; rw [g1]; rfl
 have k2:ka f (arrOf st) j=f (arrOf st)[j].1:=by unfold ka; rw [g2]; rfl
 rw [k1,k2] at h hd;rw [ltAt'_eq];refine BU (wpS_get ?_);dsimp only;rw [elem'_eq,elem'_eq,g1,g2];refine BU (CW (BU (CW ?_)));rw [lt'_eq];refine BU (wpS_get ?_);rw [b.kn];exact BU (wpS_lift (Dz (C _ _ _ _ m1 m2 hd ⟨rfl,CW h⟩)))
theorem aD5 :Up f xs 1:=fun i j h1 h2=>by omega
theorem asc (C:Cmp prog w A s kd f o){st:SortSt}(b:Sb f kd o st){a r:Nat}(hr:r<=o.size)(ha:1<=a)(har:a<=r)(hs:Up f (arrOf st) a){Q:AscSt->SortSt->Prop}
  (h : ∀ n,a<=n->n<=r->Up f (arrOf st) n->(n=r\/ka f (arrOf st) n < ka f (arrOf st) (n - 1))->Q (none,n) st):wpS (model prog w) A E s (ascLoop a r) Q st:=by
 unfold ascLoop;refine wpS_forRange (I:=fun x c u=>u=st/\c=(none,x)/\Up f (arrOf st) x) (fun x c u h1 h2 h3 => ?_) (fun c u h3 => ?_) ⟨rfl,rfl,hs⟩
 ·obtain ⟨rfl,rfl,up⟩:=h3
  refine BU (wH C b (by omega) (by omega) (by omega) ?_)
  by_cases l:ka f (arrOf u) x < ka f (arrOf u) (x - 1)
  ·simp only [l,decide_true,if_true]
   exact CW (h x h1 (by omega) up (.inr l))
  ·simp only [l,decide_false,CY,if_false]
   have l':=wJ (b.ne (by omega) (by omega) (by omega)) l;refine CW ⟨rfl,rfl,fun i j hij hj => ?_⟩
   by_cases jx:j < x
   ·exact up i j hij jx
   ·obtain rfl:j=x:=by omega
    by_cases ix:i=j - 1
    ·rw [ix]; exact l'
    ·exact List.lt_trans (up i (j - 1) (by omega) (by omega)) l'
 ·obtain ⟨rfl,rfl,up⟩:=h3
  rw [show max a r=r by omega] at up ⊢;exact h r har (Ak _) up (.inl rfl)
theorem mR {n:Nat}(hn:n<=xs.size)(k:Nat):ka f (mirror xs 0 n ((n - 0) / 2)) k=if k < n then ka f xs (n - 1 - k) else ka f xs k:=by
 have e:=getElem?_mirror_all (i:=0) hn k
 by_cases l:k < n
 ·rw [if_pos ⟨BM _,l⟩] at e
  rw [if_pos l,wN e,Nat.zero_add]
 ·rw [if_neg fun q=>l q.2] at e
  rw [if_neg l,wN e]
theorem tail (C:Cmp prog w A s kd f o){st:SortSt}(b:Sb f kd o st){n r:Nat}(hr:r<=o.size)(h1:1<=n)(hn:n<=r)(hs:Dn f (arrOf st) n)(h : ∀ m u,Sb f kd o u->1<=m->m<=r->Up f (arrOf u) m->Q (some m) u):wpS (model prog w) A E s (tail3 n r) Q st:=by
 unfold tail3;have z:n<=(arrOf st).size:=by rw [b.sz]; omega
 refine BU (wpS_reverse ?_);have b':=b.put (mirror_perm (arrOf st) 0 n ((n - 0) / 2));refine BU (asc C b' hr h1 hn (fun i j hij hj => ?_) fun m q1 q2 q3 _=>CW (h m _ b' (by omega) q2 q3));show ka f (mirror _ 0 n _) i < ka f (mirror _ 0 n _) j;rw [mR z,mR z,if_pos (by omega),if_pos hj];exact hs _ _ (by omega) (by omega)
theorem desc (C:Cmp prog w A s kd f o){st:SortSt}(b:Sb f kd o st){n r:Nat}(hr:r<=o.size)(h1:1<=n)(hn:n<=r)(hs:Dn f (arrOf st) n){Q:DescSt->SortSt->Prop}
  (h : ∀ m,n<=m->m<=r->Dn f (arrOf st) m->Q (none,m,0) st):wpS (model prog w) A E s (descLoop n r) Q st:=by
 unfold descLoop;refine wpS_forRange (I:=fun x c u=>u=st/\c=(none,x,0)/\Dn f (arrOf st) x) (fun x c u q1 q2 q3 => ?_) (fun c u q3 => ?_) ⟨rfl,rfl,hs⟩
 ·obtain ⟨rfl,rfl,dn⟩:=q3
  dsimp only;refine BU (wH C b (by omega) (by omega) (by omega) ?_)
  by_cases l:ka f (arrOf u) x < ka f (arrOf u) (x - 1)
  ·simp only [l,decide_true,if_true,gt_iff_lt,CB,if_false]
   refine CW ⟨rfl,rfl,fun i j hij hj => ?_⟩
   by_cases jx:j < x
   ·exact dn i j hij jx
   ·obtain rfl:j=x:=by omega
    by_cases ix:i=j - 1
    ·rw [ix]; exact l
    ·exact List.lt_trans l (dn i (j - 1) (by omega) (by omega))
  ·simp only [l,decide_false,CY,if_false]
   have l':=wJ (b.ne (by omega) (by omega) (by omega)) l;refine BU (wH C b (by omega) (by omega) (by omega) ?_);simp only [l',decide_true,if_true];exact CW (h x q1 (by omega) dn)
 ·obtain ⟨rfl,rfl,dn⟩:=q3
  rw [show max n r=r by omega] at dn ⊢;exact h r hn (Ak _) dn
theorem count (C:Cmp prog w A s kd f o){st:SortSt}(b:Sb f kd o st){r:Nat}(hr:r<=o.size)(h1:1<=r)(h : ∀ m u,Sb f kd o u->1<=m->m<=r->Up f (arrOf u) m->Q (some m) u):wpS (model prog w) A E s (countRun' 0 r) Q st:=by
 rw [countRun0_eq];refine BU (asc C b hr (Ak 1) h1 aD5 fun n q1 q2 up or => ?_);dsimp only
 by_cases nr:n=r
 ·rw [if_pos (by simpa using nr)]
  exact CW (h n st b q1 q2 up)
 ·rw [if_neg (by simpa using nr)]
  by_cases n1:n > 1
  ·rw [if_pos n1]
   refine BU (wH C b (by omega) (by omega) (by omega) ?_);have l:=up 0 (n - 1) (by omega) (by omega);simp only [l,decide_true,if_true];exact CW (h n st b q1 q2 up)
  ·rw [if_neg n1]
   obtain rfl:n=1:=by omega
   have l:=or.resolve_left nr;unfold descPart;refine BU (wpS_lift (Di ⟨rfl,?_⟩));refine BU (desc C b hr (by omega) (by omega) (fun i j hij hj => ?_) fun m p1 p2 dn => ?_)
   ·obtain rfl:i=0:=by omega
    obtain rfl:j=1:=by omega
    exact l
   ·simp only [gt_iff_lt,CB,if_false]
    exact tail C b hr (by omega) p2 dn h
theorem mS {k l:Nat}(hk:k < xs.size)(hl:l<=k)(i:Nat):ka f (bubble xs k (k - l)) i=if i=l then ka f xs k else if l < i/\i<=k then ka f xs (i - 1) else ka f xs i:=by
 have e:=getElem?_bubble hk (k - l) (Nat.sub_le _ _) i;rw [show k - (k - l)=l by omega] at e
 by_cases c1:i=l
 ·rw [if_pos c1] at e ⊢; exact wN e
 ·rw [if_neg c1] at e ⊢
  by_cases c2:l < i/\i<=k
  ·rw [if_pos c2] at e ⊢; exact wN e
  ·rw [if_neg c2] at e ⊢; exact wN e
end
section
variable {prog:Ax}{w:World}{A:Around}{E:Value->Shared->Prop}{s:Shared}{o:Array Keyed}{f:Value->Ky}{kd:SortKind}
def At (f:Value->Ky)(xs:Array Keyed)(k l r:Nat):Prop:=(∀ i,i < l->ka f xs i < ka f xs k)/\∀ i,r<=i->i < k->ka f xs k < ka f xs i
theorem aD4 {k l:Nat}(hk:k < xs.size)(hl:l<=k)(up:Up f xs k)(a:At f xs k l l):Up f (bubble xs k (k - l)) (k+1):=by
 intro i j hij hj;rw [mS hk hl,mS hk hl]
 by_cases c1:i=l
 ·subst c1
  rw [if_pos rfl,if_neg (by omega),if_pos (by omega)];exact a.2 _ (by omega) (by omega)
 ·rw [if_neg c1]
  by_cases c2:j=l
  ·subst c2
   rw [if_pos rfl,if_neg (by omega)];exact a.1 _ hij
  ·rw [if_neg c2]
   by_cases c3:l < i/\i<=k
   ·rw [if_pos c3,if_pos (by omega)]
    exact up _ _ (by omega) (by omega)
   ·rw [if_neg c3]
    by_cases c4:l < j/\j<=k
    ·rw [if_pos c4]
     exact up _ _ (by omega) (by omega)
    ·rw [if_neg c4]
     exact up _ _ hij (by omega)
theorem binary (C:Cmp prog w A s kd f o){st:SortSt}(b:Sb f kd o st){n m:Nat}(hn:n<=o.size)(hm:m<=n)(hs:Up f (arrOf st) m){Q:Bool->SortSt->Prop}
  (h : ∀ u,Sb f kd o u->Up f (arrOf u) n->Q true u):wpS (model prog w) A E s (binarySort' 0 n m) Q st:=by
 rw [binarySort'_eq];simp only [Nat.zero_add];refine BU (wpS_mono (wpS_forRange (I:=fun k c u=>c=(none,())/\Sb f kd o u/\Up f (arrOf u) (min k n)) (Q:=fun c u=>c=(none,())/\Sb f kd o u/\Up f (arrOf u) n)
  (fun k c u q1 q2 q3 => ?_) (fun c u q3 => ?_) ⟨rfl,b,fun i j hij hj=>hs i j hij (by omega)⟩) fun c u q => ?_)
 ·obtain ⟨rfl,b',up⟩:=q3
  rw [show min k n=k by omega] at up;have ko:k < o.size:=by omega
  refine BU (wpS_mono (wpS_forRange (I:=fun x c v=>v=u/\∃ l r,c=(none,l,r)/\l<=r/\r<=k/\r - l<=k - x/\At f (arrOf u) k l r) (Q:=fun c v=>v=u/\∃ l r,c=(none,l,r)/\l<=k/\At f (arrOf u) k l l)
   (fun x c v p1 p2 p3 => ?_) (fun c v p3 => ?_) ⟨rfl,0,k,rfl,by omega,by omega,by omega,fun i hi=>by omega,fun i g1 g2=>by omega⟩) fun c v p => ?_)
  ·obtain ⟨rfl,l,r,rfl,g1,g2,g3,a1,a2⟩:=p3
   dsimp only
   by_cases lr:l ≥ r
   ·rw [if_pos lr]
    obtain rfl:l=r:=by omega
    exact CW ⟨rfl,l,l,rfl,g2,a1,a2⟩
   ·rw [if_neg lr]
    refine BU (wH C b' ko (by omega) (by omega) ?_)
    by_cases ls:ka f (arrOf v) k < ka f (arrOf v) ((l+r) / 2)
    ·simp only [ls,decide_true,if_true]
     refine CW ⟨rfl,l,(l+r) / 2,rfl,by omega,by omega,by omega,a1,fun i t1 t2 => ?_⟩
     by_cases im:i=(l+r) / 2
     ·rw [im]; exact ls
     ·exact List.lt_trans ls (up _ _ (by omega) t2)
    ·simp only [ls,decide_false,CY,if_false]
     have ls':=wJ (b'.ne ko (by omega) (by omega)) ls;refine CW ⟨rfl,(l+r) / 2+1,r,rfl,by omega,by omega,by omega,fun i t1 => ?_,a2⟩
     by_cases im:i=(l+r) / 2
     ·rw [im]; exact ls'
     ·exact List.lt_trans (up _ _ (by omega) (by omega)) ls'
  ·obtain ⟨rfl,l,r,rfl,g1,g2,g3,a1⟩:=p3
   obtain rfl:l=r:=by omega
   exact ⟨rfl,l,l,rfl,g2,a1⟩
  ·obtain ⟨rfl,l,r,rfl,g2,a1⟩:=p
   dsimp only;rw [moveDown'_eq];refine BU (wpS_modify (CW ⟨rfl,b'.put (bubble_perm _ _ _),?_⟩));rw [show min (k+1) n=k+1 by omega];exact aD4 (by rw [b'.sz]; exact ko) g2 up a1
 ·obtain ⟨rfl,b',up⟩:=q3
  rw [show min (max (max m 1) n) n=n by omega] at up;exact ⟨rfl,b',up⟩
 ·obtain ⟨rfl,b',up⟩:=q
  exact CW (h u b' up)
def Dne (f:Value->Ky)(o:Array Keyed)(st:SortSt):Prop:=(arrOf st).Perm o/\failedOf st=none/\(pendingOf st).size=1/\Up f (arrOf st) o.size
theorem Sb.dne {st:SortSt}(b:Sb f kd o st)(up:Up f (arrOf st) o.size):Dne f o (setPending st ((pendingOf st).push x)) :=
 ⟨b.pm,b.fl,by show ((pendingOf st).push x).size=1; rw [b.pe]; rfl,up⟩
theorem runs (C:Cmp prog w A s kd f o){st:SortSt}(b:Sb f kd o st)(h2:2<=o.size)(h64:o.size < 64)(h : ∀ u,(arrOf u).Perm o->failedOf u=none->Up f (arrOf u) o.size->Q () u):wpS (model prog w) A E s sortRuns' Q st:=by
 rw [sortRuns'_eq];refine BU (wpS_get ?_);dsimp only;have mr:minRun' o.size o.size 0=o.size:=by
  generalize hz:o.size=z at h2 h64;cases z with
  | zero=>omega
  | succ z=>rw [minRun'_succ,if_pos h64]
 simp only [b.sz,mr];refine BU (wpS_mono (wpS_forRange (I:=fun x c u=>(x=0/\c=(none,0)/\Sb f kd o u)\/(0 < x/\c=(none,o.size)/\Dne f o u)) (Q:=fun c u=>c=(none,o.size)/\Dne f o u)
  (fun x c u q1 q2 q3 => ?_) (fun c u q3 => ?_) (.inl ⟨rfl,rfl,b⟩)) fun c u q => ?_)
 ·rcases q3 with ⟨rfl,rfl,b'⟩ | ⟨x1,rfl,d⟩
  ·dsimp only
   rw [if_neg (by omega)];simp only [Nat.sub_zero,Nat.min_self,Nat.zero_add];refine BU (count C b' (Ak _) (by omega) fun m v b2 m1 m2 up => ?_);dsimp only
   by_cases lt:m < o.size
   ·rw [if_pos lt]
    refine BU (wpS_lift (Di ⟨rfl,?_⟩));refine BU (binary C b2 (Ak _) m2 up fun v3 b3 up3 => ?_);simp only [Bool.not_true,CY,if_false];refine BU (wpS_get ?_);rw [show (pendingOf v3).back?=none by rw [b3.pe]; rfl];exact BU (wpS_modify (CW (.inr ⟨by omega,rfl,b3.dne up3⟩)))
   ·rw [if_neg lt]
    obtain rfl:m=o.size:=by omega
    refine BU (wpS_get ?_);rw [show (pendingOf v).back?=none by rw [b2.pe]; rfl];exact BU (wpS_modify (CW (.inr ⟨by omega,rfl,b2.dne up⟩)))
  ·dsimp only
   rw [if_pos (Ak _)];exact CW ⟨rfl,d⟩
 ·rcases q3 with ⟨x0,_,_⟩ | ⟨_,e,d⟩
  ·omega
  ·exact ⟨e,d⟩
 ·obtain ⟨rfl,d⟩:=q
  dsimp only;refine BU (wpS_mono (wpS_forRange (I:=fun _ c v=>v=u/\c=(none,())) (Q:=fun c v=>v=u/\c=(none,())) (fun x c v p1 p2 p3 => ?_) (fun _ _ p=>p) ⟨rfl,rfl⟩) fun c v p => ?_)
  ·obtain ⟨rfl,rfl⟩:=p3
   refine BU (wpS_get ?_);rw [if_pos (by rw [d.2.2.1]; exact Ak 1)];exact CW ⟨rfl,rfl⟩
  ·obtain ⟨rfl,rfl⟩:=p
   exact CW (h _ d.1 d.2.1 d.2.2.2)
end
def Tp (h:Heap)(nm:Value->Str)(v:Value):Prop:=∃ a o xs n t r,v = .ref a/\h.get? a=some o/\o.cls = .type "tuple" /\ o.data = .seq xs n/\xs.toList = .str (nm v) t :: r
theorem Tp.keep {m:Nat}(t:Tp h nm v)(ha:h.get? a=some (seqObj "list" its m))(k : ∀ b o,b ≠ a->h.get? b=some o->h'.get? b=some o):Tp h' nm v:=by
 obtain ⟨b,o,xs,n,t,r,e,ho,hc,hd,hx⟩:=t;refine ⟨b,o,xs,n,t,r,e,k b o ?_ ho,hc,hd,hx⟩
 rintro rfl
 rw [ho] at ha;obtain rfl:=AH ha;exact absurd (show CT "list" = CT "tuple" from hc) (by simp)
theorem aBg  : ∀ (vs:List Value),(∀ v ∈ vs,Tp h nm v)->∃ fs,PySem.W.KatTups h vs fs/\fs.length=vs.length/\∀ v ∈ fs,∃ x t,v = .str x t
 | [],_=>⟨[],trivial,rfl,fun v h=>nomatch h⟩
 | v :: vs,H=>by
  obtain ⟨fs,k,l,e⟩:=aBg vs fun u hu=>H u (Al _ hu);obtain ⟨a,o,xs,n,t,r,rfl,ho,hc,hd,hx⟩:=H v (Au ..);refine ⟨_ :: fs,PySem.W.KatTups.cons ho hc hd (f:=.str (nm (.ref a)) t) ?_ k,by simp [l],?_⟩
  ·rw [<- Bm,hx]; rfl
  ·intro u hu
   rcases AD.mp hu with rfl | hu
   ·exact ⟨_,_,rfl⟩
   ·exact e u hu
theorem nV : ∀ vs:List Value,vs.zip vs=vs.map fun v=>(v,v)
 | []=>rfl
 | v :: vs=>by rw [BX,nV vs,Ai]
theorem aB3 {x y:Str}(h:x.cps.toList=y.cps.toList):x=y:=by
 cases x; cases y
 simpa using h
section
variable {prog:Ax}{w:World}{A:Around}{E:Value->Shared->Prop}{s:Shared}{nm:Value->Str}{vs:List Value}
abbrev kf (nm:Value->Str):Value->Ky:=fun v=>(nm v).cps.toList
theorem kind {Q:SortKind->Shared->Prop}(h0:0 < vs.length)(T : ∀ v ∈ vs,Tp s.heap nm v)(h:Q (tuples' true) s):wpAny (model prog w) A (keyKind' vs.toArray) Q E s:=by
 obtain ⟨fs,k,l,e⟩:=aBg vs T;refine PySem.W.kat_kind (T:=.type "str") k (by omega) (fun v hv => ?_) (by decide) ?_
 ·obtain ⟨x,t,rfl⟩:=e v hv
  exact PySem.W.Looks.now
 ·have hb:(CT "str" != CT "tuple")=true:=by decide
  rw [hb]; exact h
theorem cmp (T : ∀ v ∈ vs,Tp s.heap nm v):Cmp prog w A s (tuples' true) (kf nm) (pairsOf vs):=by
 intro p q E Q hp hq hn h;have m : ∀ p ∈ (pairsOf vs).toList,p.1 ∈ vs:=fun p hp=>by rw [pairsOf_toList] at hp; exact (En hp).1
 obtain ⟨a,o,xs,n,t,r,ea,ho,hc,hd,hx⟩:=T _ (m p hp);obtain ⟨b,o',ys,n',t',r',eb,ho',hc',hd',hy⟩:=T _ (m q hq);have ne:nm p.1 ≠ nm q.1:=fun z=>hn (by show (nm p.1).cps.toList=_; rw [z]);rw [show keyLt' (tuples' true) p.1 q.1=keyLt' (tuples' true) (.ref a) (.ref b) by rw [ea,eb]];refine PySem.W.kat_lt ho hd ho' hd' ?_;rw [hx,hy,BX];refine PySem.W.kat_cons (wpAny_eqBool_str ?_);rw [decide_eq_false ne];exact PySem.W.kat_no (oneLt_str h)
theorem aE4 (hp:xs.Perm (pairsOf vs))(hu:Up f xs (pairsOf vs).size):(xs.map (·.2)).toList.Perm vs/\(xs.map (·.2)).toList.Pairwise fun u v=>f u < f v:=by
 have hl:=DQ.mp hp;rw [pairsOf_toList,nV] at hl;have same : ∀ p ∈ xs.toList,p.1=p.2:=fun p h=>by
  obtain ⟨v,_,rfl⟩:=AJ.mp (hl.mem_iff.mp h);rfl
 refine ⟨?_,?_⟩
 ·rw [Array.toList_map]
  refine (hl.map (·.2)).trans ?_;rw [Cg,show ((fun p:Keyed=>p.2) ∘ fun v:Value=>(v,v))=id from rfl,List.map_id]
 ·rw [Array.toList_map,Cy,Da]
  intro i j hi hj hij;rw [<- same _ (Dw hi),<- same _ (Dw hj)];have hi':i < xs.size:=by simpa using hi
  have hj':j < xs.size:=by simpa using hj
  have g:=hu i j hij (by rw [<- hp.size_eq]; exact hj');have e1:ka f xs i=f xs[i].1:=by unfold ka; rw [getElem?_pos xs i hi']; rfl
  have e2:ka f xs j=f xs[j].1:=by unfold ka; rw [getElem?_pos xs j hj']; rfl
  rw [e1,e2] at g
  simpa using g
theorem sort_tup {a:Addr}{n:Nat}{R:PySem.Fin->Shared->Prop}(ho:s.heap.get? a=some (seqObj "list" vs.toArray n))(T : ∀ v ∈ vs,Tp s.heap nm v)(D:vs.Pairwise fun u v=>nm u ≠ nm v)(h64:vs.length < 64)
  (h : ∀ out:List Value,out.Perm vs->(out.Pairwise fun u v=>kf nm u < kf nm v)->R (.done (.ret .none)) { s with heap:=sortedHeap s.heap a vs out.toArray }):wpAny (model prog w) A (AF.«list.sort» ⟨[.ref a],[]⟩) R E s:=by
 have fin : ∀ xs:Array Keyed,xs.Perm (pairsOf vs)->Up (kf nm) xs (pairsOf vs).size->R (.done (.ret .none)) { s with heap:=sortedHeap s.heap a vs (xs.map (·.2)) }:=fun xs hp hu=>by
  obtain ⟨q1,q2⟩:=aE4 hp hu;have e:=h _ q1 q2;rw [EM] at e;exact e
 rw [list_sort_plain]; have lt:a < s.heap.objs.size:=Aq ho;refine Ab (listItems_at ho rfl (Ab (listUpdate_at ho rfl ?_)));obtain ⟨e1,o1⟩ : ∃ e1,(s.heap.update a (DS fun _ => #[])).get? a=some (seqObj "list" #[] e1):=⟨_,get?_update_seq ho (fun _ => #[])⟩;refine Ab (seqEpoch_at o1 rfl (Ab (wpAny_newTuple (Ab (wpAny_newList (Br ?_))))));show wpAny (model prog w) A _ R E { s with heap:=((s.heap.update a (DS fun _ => #[])).push (seqObj "tuple" vs.toArray 0)).push (seqObj "list" #[] 0) };generalize hg:((s.heap.update a (DS fun _ => #[])).push (seqObj "tuple" vs.toArray 0)).push (seqObj "list" #[] 0)=g;have keep : ∀ b o,b ≠ a->s.heap.get? b=some o->g.get? b=some o:=fun b o nb hb=>by
  have l:=Aq hb;rw [<- hg,Ey _ _ _ (by rw [size_push',Heap.size_update]; exact Av (Cj l)),Ey _ _ _ (by rw [Heap.size_update]; exact Av l),Heap.get?_update_ne _ _ _ _ nb];exact hb
 have o6:g.get? a=some (seqObj "list" #[] e1):=by
  rw [<- hg,Ey _ _ _ (by rw [size_push',Heap.size_update]; exact Av (Cj lt)),Ey _ _ _ (by rw [Heap.size_update]; exact Av lt)];exact o1
 have T' : ∀ v ∈ vs,Tp g nm v:=fun v hv=>(T v hv).keep ho keep;have fin' : ∀ xs:Array Keyed,xs.Perm (pairsOf vs)->Up (kf nm) xs (pairsOf vs).size->R (.done (.ret .none)) { s with heap:=g.update a (DS fun _=>xs.map (·.2)) }:=fun xs hp hu=>by
  rw [<- hg]; exact fin xs hp hu
 dsimp only;have z:vs.toArray.size=vs.length:=by simp
 by_cases h2:vs.toArray.size < 2
 ·rw [if_pos h2,if_pos h2]
  refine Ab (Af ?_);rw [StateT.run_pure];refine Ab (Af ?_);dsimp only;refine Ab (seqEpoch_at o6 rfl (Ab (listUpdate_at o6 rfl ?_ (hsz2:=by rw [Array.size_map]; show (pairsOf vs).size<=_; rw [pairsOf_size,sizeLine_eq]; omega))));simp only [bne_self_eq_false,CY,if_false];refine Af (fin' (vs.toArray.zip vs.toArray) (Array.Perm.refl _) fun i j q1 q2 => ?_);rw [pairsOf_size] at q2; omega
 ·rw [if_neg h2,if_neg h2]
  refine Ab (kind (by omega) T' ?_);refine Ab (BV (runs (kd:=tuples' true) (f:=kf nm) (o:=pairsOf vs) (st:=SortSt.mk' (tuples' true) (vs.toArray.zip vs.toArray) #[] 7 none) (Q:=fun _ st=>(arrOf st).Perm (pairsOf vs)/\failedOf st=none/\Up (kf nm) (arrOf st) (pairsOf vs).size)
   (cmp T') ⟨Array.Perm.refl _,rfl,rfl,rfl,?_⟩ (by rw [pairsOf_size]; omega) (by rw [pairsOf_size]; exact h64) fun st x1 x2 x3=>⟨x1,x2,x3⟩) ?_ fun _ _ e=>e)
  ·show Df (kf nm) (pairsOf vs).toList
   rw [pairsOf_toList,nV];exact Cy.mpr (D.imp fun ne z=>ne (aB3 z))
  ·rintro ⟨⟨⟩,st⟩ s' ⟨rfl,hp,hf,hs⟩
   dsimp only;refine Ab (seqEpoch_at o6 rfl (Ab (listUpdate_at o6 rfl ?_ (hsz2:=by refine AX (Nat.le_of_eq ((Array.size_map ..).trans (hp.size_eq.trans (pairsOf_size _)))) ?_; rw [sizeLine_eq]; omega))));rw [hf];simp only [bne_self_eq_false,CY,if_false];exact Af (fin' _ hp hs)
end
end L2.TS
namespace L2
open PySem PySem.Spec PyProof.Rows
def nmH (H:Hp)(a:Addr):Str:=match H a with
 | some (.tup (.str x :: _))=>x
 | _=>⟨#[]⟩
def nmV (H:Hp):Value->Str
 | .ref a=>nmH H a
 | _=>⟨#[]⟩
theorem lR : ∀ as:List Addr,Vals (as.map V.ref) (as.map AC)
 | []=>.nil
 | _ :: as=>.cons rfl (lR as)
def adOf:Value->Addr
 | .ref a=>a
 | _=>0
def rSortT (K:Aa):List V->Hp->VK->Prop:=fun xs H Q=>∃ a as,xs=[.ref a]/\SqL K H a (as.map V.ref)/\as.length < 64/\(∀ q ∈ as,∃ x r,H q=some (.tup (.str x :: r)))/\(as.map (nmH H)).Nodup /\
 ∀ (p:Addr) (as':List Addr),as'.Perm as->(as'.Pairwise fun u v=>(nmH H u).cps.toList < (nmH H v).cps.toList)->H p=none->Q (.ref p) (upd H p (.lst (as'.map V.ref)))
def lay (H g:Hp):Hp:=fun b=>match g b with
 | some o=>some o
 | none=>H b
theorem qY (h:g b=some o):lay H g b=some o:=by unfold lay; rw [h]
theorem iB (h:g b=none):lay H g b=H b:=by unfold lay; rw [h]
section
variable {X:Cx}{pins:List (Addr × Obj)}{σ:St}{H g:Hp}{s:Shared}{h':Heap}{t':Nat}
theorem Inv.laidL (I:Inv X pins σ H s)(k : ∀ b u,s.heap.get? b=some u->h'.get? b=some u)(hp : ∀ a o,g a=some o->s.heap.objs.size<=a)(new : ∀ a o,g a=some o->ObjOk X.prog X.w (lay H g) h' a o) :
  Inv X pins σ (lay H g) { s with heap:=h',toks:=t' }:=by
 have sm : ∀ b o,H b=some o->lay H g b=some o:=fun b o e=>by
  cases q:g b with
  | none=>rw [iB q]; exact e
  | some u =>
   rw [I.hok.fresh (hp b u q)] at e;cases e
 refine I.un ⟨fun b u q _ _ _=>k b u q,fun b u q _ _ _=>⟨u.slots,k b u q⟩,fun b u q n _ => ?_,fun b u q _=>⟨u,k b u q⟩,fun b xs q=>sm b _ q,fun b u xs q=>sm b _ q,fun b ps q=>⟨#[],by rw [sm b _ q]; simp⟩⟩ fun b u e => ?_
 ·cases z:g b with
  | none=>rw [iB z]; exact n
  | some v=>exact absurd (Aq q) (Nat.not_lt.mpr (hp b v z))
 ·cases z:g b with
  | some v =>
   rw [qY z] at e;obtain rfl:=AH e;exact new b _ z
  | none =>
   rw [iB z] at e;exact (I.hok b u e).stay (fun c v _ q=>k c v q) (fun c q=>sm c _ q) fun c xs q=>sm c _ q
end
namespace TI
theorem zE {α β:Type}{as' as:List α}(p:as'.Perm as) : ∀ {zs:List β},as.length=zs.length->∃ zs',zs'.Perm zs/\(as'.zip zs').Perm (as.zip zs)/\as'.length=zs'.length:=by
 induction p with
 | nil=>exact fun {zs} h=>⟨zs,.refl _,.refl _,h⟩
 | cons x _ ih =>
  intro zs h
  match zs,h with
  | z :: t,h =>
   obtain ⟨zs',p1,p2,p3⟩:=ih (zs:=t) (by simpa using h);exact ⟨z :: zs',p1.cons z,by rw [BX,BX]; exact p2.cons _,by simp [p3]⟩
 | swap x y l =>
  intro zs h
  match zs,h with
  | z1 :: z2 :: t,h=>exact ⟨z2 :: z1 :: t,.swap ..,by rw [BX,BX,BX,BX]; exact .swap ..,by simpa using h⟩
 | trans _ _ i1 i2 =>
  intro zs h;obtain ⟨z2,a1,a2,a3⟩:=i2 h;obtain ⟨z1,b1,b2,b3⟩:=i1 a3;exact ⟨z1,b1.trans a1,b2.trans a2,b3⟩
theorem lk_mem {β:Type}{b:Addr}{z:β} : ∀ {l:List (Addr × β)},l.lookup b=some z->(b,z) ∈ l
  | [],h=>by cases h
  | (a,y) :: l,h=>by
    rw [CV] at h;split at h
    · rename_i e;cases h;rw [Ek e];exact Au ..
    · exact Al _ (lk_mem h)
theorem mem_lk {β:Type}{b:Addr}{z:β} : ∀ {l:List (Addr × β)},(l.map (·.1)).Nodup->(b,z) ∈ l->l.lookup b=some z
  | (a,y) :: l,nd,h=>by
    rw [Ai] at nd;have nd':=BJ.mp nd;rw [CV]
    rcases AD.mp h with e | hm
    · cases e;rw [beq_self_eq_true]
    · have ne:(b == a)=false:=by
        rw [beq_eq_false_iff_ne]
        rintro rfl
        exact nd'.1 (AJ.mpr ⟨_,hm,rfl⟩)
      rw [ne];exact mem_lk nd'.2 hm
theorem mH {α β:Type}{R:α->β->Prop} : ∀ {l:List α} {m:List β},Paired R l m->∀ {i:Nat} {a:α} {b:β},l[i]?=some a->m[i]?=some b->R a b
 | _,_,.nil,_,_,_,h,_=>by simp at h
 | _,_,.cons r t,0,_,_,h1,h2=>by
  simp at h1 h2;subst h1 h2;exact r
 | _,_,.cons r t,i+1,_,_,h1,h2=>mH t (i:=i) (by simpa using h1) (by simpa using h2)
def nmG (h:Heap):Value->Str
 | .ref a=>match h.get? a with
  | some o=>match o.data with
   | .seq xs _=>match xs.toList with
    | .str x _ :: _=>x
    | _=>⟨#[]⟩
   | _=>⟨#[]⟩
  | none=>⟨#[]⟩
 | _=>⟨#[]⟩
theorem wA (e:h.get? a=some { cls:=.type "tuple",data:=.seq #[.str x t,u] }):nmG h (.ref a)=x:=by
 unfold nmG;simp only [e]
theorem sorted_items {w:World}{r d:Addr}{ep:Nat}(hh:A.handled=none)(hv:s.heap.IsItemsView r d)(hm:s.heap.DictAt (bF P w) d vs ep)(rel:KV (zs.map fun z=>(AL z.1,z.2)) vs)(nd:(zs.map (·.1)).Nodup)(h64:zs.length < 64)(h : ∀ (h':Heap) (tk:Nat) (as as':List Addr) (zs':List (Str × V)) (out:List Value),(∀ b o,s.heap.get? b=some o->h'.get? b=some o)->as.length=zs.length->as.Pairwise (· < ·)->(∀ a ∈ as,s.heap.objs.size < a) ->
   (∀ a z,(a,z) ∈ as.zip zs->∃ t u,h'.get? a=some { cls:=.type "tuple",data:=.seq #[.str z.1 t,u] }/\RelV z.2 u)->zs'.Perm zs->(as'.zip zs').Perm (as.zip zs)->as'.length=zs'.length->out=as'.map AC->(zs'.Pairwise fun u v=>u.1.cps.toList < v.1.cps.toList) ->
   Q (.ref h'.objs.size) { s with heap:=sortedHeap (h'.push (seqObj "list" (as.map AC).toArray 0)) h'.objs.size (as.map AC) out.toArray,toks:=tk }) :
  wpAny (model P w) A (call (.builtin "sorted") [.ref r]) Q E s:=by
 have vl:vs.length=zs.length:=by rw [<- rel.length,Ag]
 refine Fi kind_sorted plain_sorted entry_sorted (args_sorted1 _) ?_;unfold AF.«sorted»;refine Ab (m:=checkCount "sorted" 1 1 _) (Af ?_);refine Ab (PySem.W.kdx_collect (A:=A.in1) (knd:=bF P w) (kvs:=vs) (ep:=ep) hh hv hm (by rw [vl]; exact bL (by omega)) fun h' tk as hk hl hG => ?_);have al:as.length=zs.length:=hl.trans vl;have fc : ∀ (j:Nat) a z,as[j]?=some a->zs[j]?=some z->∃ t u,h'.get? a=some { cls:=.type "tuple",data:=.seq #[.str z.1 t,u] }/\RelV z.2 u:=fun j a z ha hz=>by
  obtain ⟨key,k,x,e1,e2,e3⟩:=hG.pairs j a ha;have ez:(zs.map fun z=>((AL z.1:Key),z.2))[j]?=some (AL z.1,z.2):=by rw [As,hz]; rfl
  obtain ⟨ek,er⟩:=mH rel ez e1;have ek':(AL z.1:Key)=k:=ek;subst ek';obtain ⟨t,rfl⟩:=Dm (x:=z.1) (v:=key) e2;exact ⟨t,x,e3,er⟩
 have fz : ∀ a z,(a,z) ∈ as.zip zs->∃ t u,h'.get? a=some { cls:=.type "tuple",data:=.seq #[.str z.1 t,u] }/\RelV z.2 u:=fun a z m=>by
  obtain ⟨j,hj⟩:=EV m;obtain ⟨h1,h2⟩:=Fm.mp hj;exact fc j a z h1 h2
 refine Ab (wpAny_newList ?_ (by rw [Ag,al]; exact bL (by omega)));have oL:(h'.push (seqObj "list" (as.map AC).toArray 0)).get? h'.objs.size=some (seqObj "list" (as.map AC).toArray 0):=Ah _ rfl;have nmz:as.map (fun a=>nmG h' (.ref a))=zs.map (·.1):=by
  refine List.ext_getElem? fun j => ?_;rw [As,As]
  by_cases lt:j < as.length
  ·have lt':j < zs.length:=by omega
   rw [Ae lt,Ae lt'];obtain ⟨t,u,e,_⟩:=fc j as[j] zs[j] (Ae lt) (Ae lt');rw [Dj,Dj,wA e]
  ·rw [Bp (by omega),Bp (by omega)]
   rfl
 have T' : ∀ v ∈ as.map AC,TS.Tp (h'.push (seqObj "list" (as.map AC).toArray 0)) (nmG h') v:=fun v hv=>by
  obtain ⟨a,ha,rfl⟩:=AJ.mp hv;obtain ⟨j,hj⟩:=EV ha;have lt:j < zs.length:=by have:=(Ad.mp hj).1; omega
  obtain ⟨t,u,e,_⟩:=fc j a zs[j] hj (Ae lt);exact ⟨a,_,_,_,t,[u],rfl,Ac _ e,rfl,rfl,by rw [wA e]⟩
 have D:(as.map AC).Pairwise fun u v=>nmG h' u ≠ nmG h' v:=by
  rw [Cy];have:=nd;rw [<- nmz] at this;exact Cy.mp this
 refine Ab (Br (Bq slot_list_sort ⟨_,oL,rfl⟩ entry_list_sort (TS.sort_tup (nm:=nmG h') oL T' D (by rw [Ag,al]; exact h64) fun out x1 x2=>⟨_,rfl,Af ⟨_,rfl,?_⟩⟩) (args_list_sort _)));have er : ∀ v ∈ out,v = .ref (adOf v):=fun v hv=>by
  obtain ⟨b,_,rfl⟩:=AJ.mp (x1.mem_iff.mp hv);rfl
 have eo:out=(out.map adOf).map AC:=by
  rw [Cg]
  conv=>lhs; rw [<- List.map_id out]
  exact Eg er
 have pm:(out.map adOf).Perm as:=by
  have:=x1.map adOf;rw [Cg,show (adOf ∘ AC)=id from rfl,List.map_id] at this;exact this
 obtain ⟨zs',p1,p2,p3⟩:=zE pm al;refine h h' tk as (out.map adOf) zs' out hk al hG.rise (fun a ha=>hG.above a ha) fz p1 p2 p3 eo ?_;rw [eo] at x2;have x3:=Cy.mp x2;rw [Da] at x3 ⊢;intro i j hi hj hij;have hi':i < (out.map adOf).length:=by omega
 have hj':j < (out.map adOf).length:=by omega
 have nz : ∀ (i:Nat) (h1:i < (out.map adOf).length) (h2:i < zs'.length),nmG h' (.ref (out.map adOf)[i])=zs'[i].1:=fun i h1 h2=>by
  have m:((out.map adOf)[i],zs'[i]) ∈ (out.map adOf).zip zs':=by
   refine Ay (i:=i) ?_;rw [Fm];exact ⟨Ae h1,Ae h2⟩
  obtain ⟨t,u,e,_⟩:=fz _ _ (p2.mem_iff.mp m);exact wA e
 have z:=x3 i j hi' hj' hij;have z':(nmG h' (.ref (out.map adOf)[i])).cps.toList < (nmG h' (.ref (out.map adOf)[j])).cps.toList:=z;rw [nz i hi' hi,nz j hj' hj] at z';exact z'
end TI
end L2
namespace L2
open PySem PySem.Spec PyProof.Rows
abbrev txK (zs:List (Str × V)):List (Key × V):=zs.map fun z=>(AL z.1,z.2)
def rS (td:TE):TE:=fun σ H Q=>td σ H fun x H1=>∃ a zs,x = .ref a/\H1 a=some (.dK (txK zs))/\(zs.map (·.1)).Nodup/\zs.length < 64 /\
 ∀ (p:Addr) (as:List Addr) (zs':List (Str × V)) (H':Hp),Same H1 H'->zs'.Perm zs->(zs'.Pairwise fun u v=>u.1.cps.toList < v.1.cps.toList)->as.length=zs'.length ->
  (∀ a z,(a,z) ∈ as.zip zs'->H' a=some (.tup [.str z.1,z.2]))->H' p=some (.lst (as.map V.ref))->Q (.ref p) H'
theorem mG {X:Cx}{o:Expr}{td:TE}{p apos cpos pos:Pos}(hc:X.calm=true)(hg:Gl X "sorted")(hm:X.mg "sorted" = none)(ho:PE X o td)
  (hbase:Ed o "items" X.env (eval o X.env)=eval o X.env:=by rfl) (hline:(apos.endLine == cpos.line)=true:=by rfl)
  (hs3:AS [Expr.Call (.Attribute o "items" apos) [] [] cpos] X.env=[(false,eval (.Call (.Attribute o "items" apos) [] [] cpos) X.env)]:=by rfl) :
  PE X (.Call (.Name "sorted" p) [.Call (.Attribute o "items" apos) [] [] cpos] [] pos) (rS td):=by
 intro pins s σ H Q I h;refine Dk (iZ I hg hm boot_sorted (PyProof.Rows.callWith_builtin1 ?_ hs3 rfl));rw [hs3];show wpAny _ _ (spliced ((false,eval (.Call (.Attribute o "items" apos) [] [] cpos) X.env) :: backTo pos [])) _ _ s;refine El ?_;refine wpAny_Call_method0_late hbase hline (thn (ho pins s σ H _ I h) fun v s1 ⟨x,H1,I1,r1,a,zs,ex,hH,nd,h64,q⟩ => ?_);subst ex;cases r1;obtain ⟨z,lo,vs,rel,dd⟩:=tF I1.hok hH;obtain ⟨t1,t2,_⟩:=aBf I1 (.inl ⟨_,.inl hH⟩);refine ⟨"dict","dict.items",Fs,PySem.F.slot_dict_items,PySem.F.type_dict_items,t1,t2,Dy rfl (PySem.evalArgs_none ?_)⟩;refine call_meetsIn PySem.F.slot_dict_items t1 PySem.F.entry_dict_items (PySem.F.args_dict_items_1 _) (meets_dict_items (bF X.prog X.w) a lo) ⟨⟨vs,dd⟩,Calls.spliced_nil ?_⟩;have I2:Inv X pins σ H1 { s1 with heap:=s1.heap.push { cls:=.type "dict_items",data:=.fields #[.ref a] } }:=I1.kept (t':=s1.toks) fun b o e=>Ac _ e;obtain ⟨z2,lo2,vs2,rel2,dd2⟩:=tF I2.hok hH;obtain ⟨ep,hat⟩:=dd2.dictAt;refine TI.sorted_items (zs:=zs) (vs:=vs2) (ep:=ep) (I2.ok.hd hc) ⟨_,Ah _ rfl,rfl,rfl⟩ hat rel2 nd h64 fun h' tk as as' zs' out keep al up ab fz p1 p2 p3 eo srt => ?_;have zk:((as.zip zs).map (·.1)).Nodup:=by
  rw [List.map_fst_zip (by omega)];exact up.imp fun h e=>absurd (e ▸ h) (CB _)
 let g:Hp:=fun b=>((as.zip zs).lookup b).map fun z=>.tup [.str z.1,z.2]
 have gs : ∀ b o,g b=some o->∃ z,(b,z) ∈ as.zip zs/\o = .tup [.str z.1,z.2]:=fun b o e=>by
  obtain ⟨z,e1,e2⟩:=Bv.mp e;exact ⟨z,TI.lk_mem e1,e2.symm⟩
 have gm : ∀ b z,(b,z) ∈ as.zip zs->g b=some (.tup [.str z.1,z.2]):=fun b z m=>by
  show ((as.zip zs).lookup b).map _=_;rw [TI.mem_lk zk m];rfl
 have I3:Inv X pins σ (lay H1 g) { s1 with heap:=h',toks:=tk }:=I2.laidL (t':=tk) keep (fun b o e=>by
   obtain ⟨z,m,_⟩:=gs b o e;exact Nat.le_of_lt (ab b (En m).1)) fun b o e=>by
   obtain ⟨z,m,rfl⟩:=gs b o e;obtain ⟨t,u,e1,e2⟩:=fz b z m;exact ⟨⟨zLn2,_,e1,rfl⟩,[.str z.1 t,u],.cons ⟨_,rfl⟩ (.cons e2 .nil),_,e1,rfl,_,rfl⟩
 have oL:(h'.push (seqObj "list" (as.map AC).toArray 0)).get? h'.objs.size=some (seqObj "list" (as.map AC).toArray 0):=Ah _ rfl;obtain ⟨e,he⟩ : ∃ e,(sortedHeap (h'.push (seqObj "list" (as.map AC).toArray 0)) h'.objs.size (as.map AC) out.toArray).get? h'.objs.size=some (seqObj "list" out.toArray e):=sortedHeap_at oL;have sm:Same H1 (lay H1 g):=fun b o e=>by
  cases q:g b with
  | none=>rw [iB q]; exact e
  | some u =>
   obtain ⟨z,m,_⟩:=gs b u q;rw [I2.hok.fresh (Nat.le_of_lt (ab b (En m).1))] at e;cases e
 have nL:lay H1 g h'.objs.size=none:=I3.hok.fresh (Ak _);refine ⟨.ref h'.objs.size,_,I3.laid (a:=h'.objs.size) (o:=.lst (as'.map V.ref)) (t':=tk) (fun b o hb' => ?_) (Ak _) (qW (its:=out) (e:=e) (by rw [eo]; exact lR as') ?_ he),rfl,q _ as' zs' _ (sm.trans (Same.upd nL)) p1 srt p3 (fun b z m => ?_) aB⟩
 ·have lt:=Aq hb'
  rw [sortedHeap_old (Av lt) (by rw [BE]; exact Cj lt)];exact Ac _ hb'
 ·rw [Ag,p3,p1.length_eq]
  exact bL (by omega)
 ·have m':=p2.mem_iff.mp m
  exact (Same.upd nL) _ _ (by rw [qY (gm b z m')])
end L2
namespace DX
open PySem PySem.Spec PyProof.Rows
theorem nX:typeLookup (.type "tuple") (CM "keys")=pure none:=am_miss_of_fast (by decide +kernel)
section
variable {P:Ax}{w:World}{A:Around}{E:Value->Shared->Prop}{s:Shared}
theorem oW {k:Nat}{sl:Array (Option Value)}(ho:s.heap.get? a=some { cls:=.type "tuple",dict:=none,data:=.seq xs k,slots:=sl })(hh:A.handled=none)(h : ∀ h' tk,(∀ b ob,s.heap.get? b=some ob->h'.get? b=some ob)->Q none { s with heap:=h',toks:=tk }):wpAny (model P w) A (getAttr? (.ref a) "keys") Q E s:=by
 have ty:s.TypeIs (.ref a) "tuple" := ⟨_,ho,rfl⟩;unfold getAttr?;refine Ab (wpAny_mkText ?_);unfold getAttrBy?;refine Ab (Dz ?_);unfold getAttrBy;refine Br ?_;refine Ab (DV (T := "tuple") ⟨_,ho,rfl⟩ ?_);refine Ab (Et Fu.lookup ?_);dsimp only;show wpAny _ _ (getAttrByItsOwn _ _ _ _ _ _) _ _ _;unfold getAttrByItsOwn;refine Ab (Et (a:=none) rfl ?_);refine Ab (Dz (Br ?_));show wpAny _ _ (boundAndCalled _ _ _) _ _ _;unfold boundAndCalled;refine Ab (Et (Fu.bind _) ?_);dsimp only;refine call_meets Fu ⟨_,ho,rfl⟩ am_entry_tuple_getattribute (F.args_tuple_getattribute_2 _ _) (meets_getattribute_miss_tuple a xs k sl "keys" _ nX (by decide +kernel)) ⟨ho,hh,fun h' tk e ne => ?_⟩;show wpAny _ _ (getattributeRaised _ _ _ _ _ _ _) _ _ _;obtain ⟨t,u,he⟩:=ne.there;unfold getattributeRaised;refine Ab (Fc (T := "AttributeError") ⟨_,he,rfl⟩ sub_AttributeError ?_);rw [if_pos rfl];refine Ab (Et am_tuple_getattr_none ?_);unfold hookOrError;dsimp only;unfold attributeErrorLeaves;refine Ab (wpAny_throw ?_);show wpAny _ _ (isInstance _ _ >>= _) _ _ _;refine Ab (Fc (T := "AttributeError") ⟨_,he,rfl⟩ sub_AttributeError ?_);rw [if_pos rfl];exact Af (h h' tk ne.keeps)
end
section
variable {P:Ax}{w:World}{K:Type}[DecidableEq K]{knd:KeyKind P w K}{A:Around}{R:Result->Shared->Prop}
theorem tN (hh:A.in1.handled=none)(d it l:Addr)(its:Array Value)(ps:List (K × Value))(hdi:d ≠ it)(hdl:d ≠ l)(hil:it ≠ l)(hl:ps.length=its.size)(hz:ps.length<=Aw)(h0:Heap)(hL:h0.IsTuple l its)
  (hp : ∀ (i:Nat) kv,ps[i]?=some kv->∃ z key,its[i]?=some (.ref z)/\knd.is kv.1 key=true/\z ≠ d/\z ≠ it/\TupAt h0 z key kv.2) :
  ∀ (n i:Nat) (s:Shared),its.size - i=n->i<=its.size->s.heap.IsTupleIter it l i->(∀ b o,b ≠ d->b ≠ it->h0.get? b=some o->s.heap.get? b=some o)->s.heap.DictOf knd d ((ps.take i).foldl (fun acc kv=>stored acc kv.1 kv.2) [])->((ps.take i).foldl (fun acc kv=>stored acc kv.1 kv.2) []).length<=i ->
   (∀ (h':Heap) (tk:Nat),(∀ b o,b ≠ d->b ≠ it->h0.get? b=some o->h'.get? b=some o)->h'.DictOf knd d (ps.foldl (fun acc kv=>stored acc kv.1 kv.2) [])->R (.ok (.ret .none)) { s with heap:=h',toks:=tk }) ->
   DJ (model P w) A (.builtin "dict.update.loop" ⟨[.ref d,.ref it,rawInt i,.none],[]⟩) R s:=by
 intro n
 induction n with
 | zero =>
  intro i s hk hi st fr D len q;obtain rfl:i=its.size:=by omega
  refine Cr nE ?_;rw [CH fQ _];have hL':s.heap.IsTuple l its:=by
   obtain ⟨o,e,r⟩:=hL;exact ⟨o,fr l o (AM hdl) (AM hil) e,r⟩
  show wpAny _ A.in1 (pyNext (.ref it) >>= _) _ _ s;refine Ab (wpAny_pyNext_tuple_end hh st hL' (by simp) fun h' eb => ?_);rw [Ex (by omega)] at D;dsimp only;refine Ab (Et (a:=()) rfl ?_);refine Af (q h' s.toks (fun b o b1 b2 e=>eb b o b2 (fr b o b1 b2 e)) ?_);obtain ⟨o,es,ep,ho,r⟩:=D;exact ⟨o,es,ep,eb d o hdi ho,r⟩
 | succ n ih =>
  intro i s hk hi st fr D len q;have lt:i < its.size:=by omega
  have hL':s.heap.IsTuple l its:=by
   obtain ⟨o,e,r⟩:=hL;exact ⟨o,fr l o (AM hdl) (AM hil) e,r⟩
  obtain ⟨kv,hkv⟩ : ∃ kv,ps[i]?=some kv:=⟨_,Ae (by omega)⟩;obtain ⟨z,key,e1,e2,z1,z2,tz⟩:=hp i kv hkv;refine Cr nE ?_;rw [CH fQ _];show wpAny _ A.in1 (pyNext (.ref it) >>= _) _ _ s;refine Ab (wpAny_pyNext_tuple_item st hL' e1 fun h' st' sb => ?_);have fr1 : ∀ b o,b ≠ d->b ≠ it->h0.get? b=some o->h'.get? b=some o:=fun b o b1 b2 e=>(sb.2 b b2).trans (fr b o b1 b2 e);have D1:h'.DictOf knd d ((ps.take i).foldl (fun acc kv=>stored acc kv.1 kv.2) []):=by
   obtain ⟨o,es,ep,ho,r⟩:=D;exact ⟨o,es,ep,(sb.2 d hdi).trans ho,r⟩
  have tz1:TupAt h' z key kv.2:=by
   obtain ⟨o,m,ho,r⟩:=tz;exact ⟨o,m,fr1 z o z1 z2 ho,r⟩
  dsimp only;refine Ab (Br ?_);refine Ab (wpAny_tryCatch (lB tz1 ?_));dsimp only;refine Br (wpAny_dictSet_pairs e2 D1 (fun h2 D2 sb2 => ?_) (by omega));have et:ps.take (i+1)=ps.take i ++ [kv]:=by rw [CN,hkv]; rfl
  refine Af ⟨ED fQ _,?_⟩;have D3:h2.DictOf knd d ((ps.take (i+1)).foldl (fun acc kv=>stored acc kv.1 kv.2) []):=by
   rw [et,List.foldl_append];exact D2
  have len3:((ps.take (i+1)).foldl (fun acc kv=>stored acc kv.1 kv.2) []).length<=i+1:=by
   rw [et,List.foldl_append];have:=rT ((ps.take i).foldl (fun acc kv=>stored acc kv.1 kv.2) []) kv.1 kv.2;show (stored _ kv.1 kv.2).length<=i+1;omega
  refine ih (i+1) _ (by omega) lt ?_ (fun b o b1 b2 e=>(sb2.2 b b1).trans (fr1 b o b1 b2 e)) D3 len3 fun h3 tk f3 d3=>q h3 tk f3 d3;obtain ⟨o,e,r⟩:=st';exact ⟨o,(sb2.2 it (AM hdi)).trans e,r⟩
end
section
variable {P:Ax}{w:World}{K:Type}[DecidableEq K]{knd:KeyKind P w K}{A:Around}{E:Value->Shared->Prop}{s:Shared}
theorem call_dict_tup {l:Addr}{its:Array Value}{n:Nat}{sl:Array (Option Value)}{ps:List (K × Value)}{Q:Value->Shared->Prop}(hh:A.handled=none)(hl:s.heap.get? l=some { cls:=.type "tuple",dict:=none,data:=.seq its n,slots:=sl })(hz:ps.length<=Aw)(hlen:ps.length=its.size)
  (hp : ∀ (i:Nat) kv,ps[i]?=some kv->∃ z key,its[i]?=some (.ref z)/\knd.is kv.1 key=true/\TupAt s.heap z key kv.2)
  (h : ∀ (h':Heap) (tk:Nat),(∀ b o,s.heap.get? b=some o->h'.get? b=some o)->h'.DictOf knd s.heap.objs.size (ps.foldl (fun acc kv=>stored acc kv.1 kv.2) [])->Q (.ref s.heap.objs.size) { s with heap:=h',toks:=tk }) :
  wpAny (model P w) A (call (.type "dict") [.ref l]) Q E s:=by
 obtain ⟨c,tl,hmro⟩:=CJ.mro;have hmade:=CJ.made;have hsub:=CJ.sub;refine Ew (Fq ?_);show wpAny _ _ (callAny (.type "dict") _) _ _ _;refine Af ⟨DD _ (by decide +kernel),Cr F.entry_type_call ?_⟩;rw [Around.under_plain (weight_type_call_type "dict" [.ref l] []) rfl];have h1:=CJ.notType;have h2:=CJ.canCreate;have hct:=F.kt_typeCall_dict_1 (.ref l)
 repeat (any_goals (first | assumption | wp_step))
 refine Ck (kt_code_dict_new (.ref l) (E:=E) (Q₁:=fun obj s1=>obj = .ref s.heap.objs.size/\s1={ s with heap:=s.heap.push nuD }) ⟨rfl,rfl⟩) fun r s1 hr => ?_;cases r with
 | error e=>exact hr
 | ok fl =>
  cases fl with
  | ret obj =>
   obtain ⟨rfl,rfl⟩:=hr;have hS:(s.heap.push nuD).get? s.heap.objs.size=some nuD:=Ah _ rfl;have hT:Shared.TypeIs { s with heap:=s.heap.push nuD } (.ref s.heap.objs.size) "dict" := ⟨_,hS,rfl⟩;have hli:=CJ.init.lookup;have hbi:=CJ.init.bind (.ref s.heap.objs.size)
   repeat (any_goals (first | assumption | wp_step))
   refine Ck (Cv (R:=wants (fun r s2=>r = .none/\∃ h' tk,s2={ s with heap:=h',toks:=tk }/\h'.DictOf knd s.heap.objs.size (ps.foldl (fun acc kv=>stored acc kv.1 kv.2) [])/\(∀ b o,s.heap.get? b=some o->h'.get? b=some o)) E) CJ.init.plain F.entry_dict_init (CJ.init.check _ _ _ _ _ _ _ _ hT (F.args_dict_init_2 _ _) ?_)) fun r2 s2 hr2 => ?_
   ·have hl1:(s.heap.push nuD).get? l=some { cls:=.type "tuple",dict:=none,data:=.seq its n,slots:=sl }:=Ac _ hl
    have hlS:l < s.heap.objs.size:=Aq hl;have hz1:(s.heap.push nuD).objs.size=s.heap.objs.size+1:=BE ..;show wpAny _ _ (AF.Dict.selfAndRest "__init__" ⟨[.ref s.heap.objs.size,.ref l],[]⟩ >>= _) _ _ _;refine Ab ?_;unfold AF.Dict.selfAndRest AF.Dict.notOrdered;rw [if_pos (by decide +kernel)];refine Ab (Ab (DV (T := "dict") hT ?_));rw [if_neg (by decide +kernel)];refine Af ?_;refine Ab (Et (a:=s.heap.objs.size) rfl (Af ?_));show wpAny _ _ (AF.Dict.updateFrom "dict.__init__" s.heap.objs.size (.ref l) [] .none) _ _ _;unfold AF.Dict.updateFrom;refine Ab (DV (T := "tuple") ⟨_,hl1,rfl⟩ ?_);rw [if_pos (by decide +kernel)];refine Ab (oW hl1 (by simp [hh]) fun h3 tk3 k3 => ?_);rw [if_pos (show (none:Option Value).isNone=true from rfl)];refine Ab (Di ?_);have hl3:h3.get? l=some { cls:=.type "tuple",dict:=none,data:=.seq its n,slots:=sl }:=k3 _ _ hl1;have hL3:h3.IsTuple l its:=⟨_,hl3,rfl,n,rfl⟩;refine Ab (EB hL3 ?_);have hd3:h3.get? s.heap.objs.size=some nuD:=k3 _ _ hS;have dlt:=Aq hd3;have llt:=Aq hl3;have old : ∀ b o,s.heap.get? b=some o->(h3.push { cls:=.type "tuple_iterator",data:=.fields #[.ref l,.int 0 0] }).get? b=some o/\b ≠ s.heap.objs.size/\b ≠ h3.objs.size:=fun b o e=>by
     have e3:=k3 _ _ (Ac nuD e);exact ⟨Ac _ e3,Av (Aq e),Av (Aq e3)⟩
    refine Af ⟨ED fQ _,tN (knd:=knd) (by simp [hh]) s.heap.objs.size h3.objs.size l its ps (Av dlt) (Dq hlS) (Dq llt) hlen hz (h3.push { cls:=.type "tuple_iterator",data:=.fields #[.ref l,.int 0 0] }) ⟨_,(old l _ hl).1,rfl,n,rfl⟩ (fun i kv hkv => ?_) its.size 0 _ (by omega) (BM _) ⟨_,Ah _ rfl,rfl,rfl⟩ (fun b o _ _ e=>e) ?_ (Ak _) fun h' tk fr D=>⟨rfl,h',tk,rfl,D,fun b o e=>fr b o (old b o e).2.1 (old b o e).2.2 (old b o e).1⟩⟩
    ·obtain ⟨z,key,e1,e2,o,m,e3,e4⟩:=hp i kv hkv
     exact ⟨z,key,e1,e2,(old z o e3).2.1,(old z o e3).2.2,o,m,(old z o e3).1,e4⟩
    ·exact ⟨nuD,#[],0,Ac _ hd3,⟨rfl,rfl,rfl⟩,rfl,(fun e he=>by simp at he),.nil,DY⟩
   ·cases r2 with
    | error e=>exact hr2
    | ok f2 =>
     cases f2 with
     | ret r =>
      obtain ⟨rfl,h',tk,rfl,S',hk'⟩:=hr2
      repeat (any_goals (first | assumption | wp_step))
      exact h _ _ hk' S'
     | _=>exact hr2.elim
  | _=>exact hr.elim
end
end DX
namespace L2
open PySem PySem.Spec PyProof.Rows
section
variable {X:Cx}
def aEz:List V->Hp->VK->Prop:=fun xs H Q=>∃ (a:Addr) (us:List V) (kvs:List (Key × V)),xs=[.ref a]/\H a=some (.tup us)/\us.length=kvs.length/\(kvs.map (·.1)).Nodup /\
 (∀ (i:Nat) u kv,us[i]?=some u->kvs[i]?=some kv->∃ z,u = .ref z/\H z=some (.tup [kV kv.1,kv.2]))/\∀ p,H p=none->Q (.ref p) (upd H p (.dK kvs))
theorem jZ (hc:X.calm=true):eQ X (.type "dict") (aEz):=by
 intro pins s σ H xs us' Q I r h;obtain ⟨a,us,kvs,rfl,hH,hl,nd,hp,q⟩:=h;obtain ⟨u,rfl,rx⟩:=vals1 r;cases rx;obtain ⟨⟨z,nd0⟩,its,rv,ob,e0,e1,n,e2⟩:(us.length<=Aw/\NoD s.heap a)/\∃ its:List Value,Vals us its/\PyProof.Rows.IsTup s.heap a its.toArray:=I.hok a _ hH;obtain ⟨oc,od,odt,osl⟩:=ob;have e3:od=none:=nd0.at e0;have e1':oc = .type "tuple" := e1;have e2':odt = .seq its.toArray n:=e2;subst e3 e1' e2';have e:=e0;have vl:=rv.length;have at' : ∀ (i:Nat) kv,kvs[i]?=some kv->∃ z key v,its[i]?=some (.ref z)/\RelV (kV kv.1) key/\RelV kv.2 v/\DX.TupAt s.heap z key v:=fun i kv hkv=>by
  have hi:=(Ad.mp hkv).1;obtain ⟨u,hu⟩ : ∃ u,us[i]?=some u:=⟨_,Ae (by omega)⟩;obtain ⟨z,rfl,hz⟩:=hp i u kv hu hkv;obtain ⟨v,hv,ru⟩:=rv.get hu;cases ru;obtain ⟨_,ts,rt,o,ho,hc',m,hd⟩:_/\∃ ts,Vals [kV kv.1,kv.2] ts/\s.heap.IsTuple z ts.toArray:=I.hok z _ hz;obtain ⟨k1,v1,rfl,r1,r2⟩:=vals2 rt;exact ⟨z,k1,v1,hv,r1,r2,o,m,ho,hc',hd⟩
 obtain ⟨vs,kvr,vat⟩ : ∃ vs:List (Key × Value),KV kvs vs/\∀ (i:Nat) kv,vs[i]?=some kv->∃ z key,its.toArray[i]?=some (.ref z)/\(bF X.prog X.w).is kv.1 key=true/\DX.TupAt s.heap z key kv.2:=by
  have key : ∀ (kvs:List (Key × V)) (j:Nat),(∀ (i:Nat) kv,kvs[i]?=some kv->∃ z key v,its[j+i]?=some (.ref z)/\RelV (kV kv.1) key/\RelV kv.2 v/\DX.TupAt s.heap z key v)->∃ vs:List (Key × Value),KV kvs vs/\∀ (i:Nat) kv,vs[i]?=some kv->∃ z key,its.toArray[j+i]?=some (.ref z)/\(bF X.prog X.w).is kv.1 key=true/\DX.TupAt s.heap z key kv.2:=by
   intro kvs
   induction kvs with
   | nil=>exact fun j _=>⟨[],.nil,fun i kv h=>by simp at h⟩
   | cons kv r ih =>
    intro j h;obtain ⟨vs,a1,a2⟩:=ih (j+1) fun i kv hk=>by
     have:=h (i+1) kv (by simpa using hk);rwa [show j+(i+1)=j+1+i by omega] at this
    obtain ⟨z,key,v,b1,b2,b3,b4⟩:=h 0 kv rfl;refine ⟨(kv.1,v) :: vs,.cons ⟨rfl,b3⟩ a1,fun i kw hk => ?_⟩;cases i with
    | zero =>
     cases (show some (kv.1,v)=some kw from hk);exact ⟨z,key,by simpa using b1,sW b2,b4⟩
    | succ i =>
     have:=a2 i kw (by simpa using hk);rwa [show j+(i+1)=j+1+i by omega]
  obtain ⟨vs,a1,a2⟩:=key kvs 0 fun i kv hk=>by rw [Nat.zero_add]; exact at' i kv hk
  exact ⟨vs,a1,fun i kv hk=>by have:=a2 i kv hk; rwa [Nat.zero_add] at this⟩
 have kl:=kvr.length;refine DX.call_dict_tup (knd:=bF X.prog X.w) (I.ok.hd hc) e (ps:=vs) (by omega) (by rw [Aj]; omega) vat fun h' tk k3 D => ?_;have rel:=wK kvr (acc:=[]) (bcc:=[]) .nil;rw [rD kvs [] nd (fun _ _ _ h=>nomatch h),List.nil_append] at rel;exact ⟨.ref _,_,I.laid (a:=s.heap.objs.size) (o:=.dK kvs) (t':=tk) k3 (Ak _) ⟨by omega,beq_eq_false_iff_ne.mpr (AM (Av I.big)),_,rel,D⟩,rfl,q _ (I.hok.fresh (Ak _))⟩
end
def aGi (K:Aa)(ta:TE):TE:=fun σ H Q=>ta σ H fun v H1=>∃ a x y,v = .ref a/\SqT K H1 a [.str x,.str y]/\(∀ c ∈ x.cps.toList,c < 16 ^ 8)/\(∀ c ∈ y.cps.toList,c < 16 ^ 8)/\x.length<=20/\y.length<=20 /\
 ∀ z:Str,z.length<=500->Q (.str z) H1
theorem aEj (x y:Str):(PyData.tuple [.str x,.str y]).shown.length=(EX x).length+(EX y).length+4:=by
 have e:(PyData.tuple [.str x,.str y]).shown=tupleText [EX x,EX y]:=by
  simp only [PyData.shown,PyData.shownAll]
 rw [e];have j:=join_length_add [EX x,EX y] (by simp);unfold tupleText;have p:piled [EX x,EX y]=(EX x).length+2+((EX y).length+2):=by simp [piled]
 have c:(if ([EX x,EX y].length == 1)=true then (",)" : String) else ")") = ")" := rfl
 rw [c];have l1:(("(" : Str)).length=1:=by decide +kernel
 have l2:(((")" : String):Str)).length=1:=by decide +kernel
 rw [Str.length_append,Str.length_append];rw [l1];have l2':(CM ")").length=1:=l2
 rw [l2'];omega
theorem aCt {k:Nat}(hr:Room k X.A)(ha:PE X value ta):PE X (.FormattedValue value (-1) none pos) (aGi X.K ta):=by
 intro pins s σ H Q I h;refine FormattedValue_plain (thn (ha pins s σ H _ I h) fun u s1 ⟨v,H1,I1,rv,a,x,y,ev,sq,cx,cy,lx,ly,q⟩ => ?_);subst ev;cases rv;obtain ⟨its,r,⟨o,ho,hc,n,hd⟩,hz⟩:=I1.tuple sq;obtain ⟨u1,u2,rfl,⟨t1,rfl⟩,⟨t2,rfl⟩⟩:=vals2 r;have rd:Reads s1.heap (.ref a) (.tuple [.str x,.str y]) ([] ++ ([] ++ [])):=.tuple ho hc hd (.cons (.str x t1) (.cons (.str y t2) .nil));have b1:=StrLaws.reprText_len x cx;have b2:=StrLaws.reprText_len y cy;have sl:=aEj x y;have un:=hr.units;refine formatField_of_reads rd (by simp [PyData.showable,PyData.showableAll]) (fun _ h=>by simp at h) hr.gd (by simp only [PyData.depth,PyData.depthAll]; omega) (fun _ _ e=>e) (fun h' u tk k=>⟨.str _,H1,I1.kept (t':=tk) k,⟨_,rfl⟩,q _ (by omega)⟩) (by rw [sl]; exact AX (show _<=448 by omega) (by decide))
end L2
namespace K34
open PySem PySem.Spec PyProof.Rows L2 GM TM
abbrev sE0:Stmt:=inClass (top 5) 0
abbrev sE1:Stmt:=inClass (top 7) 0
abbrev sE2:Stmt:=inClass (top 6) 0
abbrev sE3:Stmt:=inClass (top 8) 0
abbrev sE4:Stmt:=inClass (top 9) 0
abbrev sE5:Stmt:=inClass (top 4) 0
abbrev sIDraw:Stmt:=inClass (top 33) 0
abbrev sODraw:Stmt:=inClass (top 33) 1
abbrev sIFill:Stmt:=inClass (top 34) 0
abbrev sOFill:Stmt:=inClass (top 34) 1
abbrev qD:Stmt:=inClass (top 35) 0
abbrev gP:Stmt:=inClass (top 35) 1
abbrev sIEmpty:Stmt:=inClass (top 36) 0
abbrev sOEmpty:Stmt:=inClass (top 36) 1
abbrev sIRinse:Stmt:=inClass (top 37) 0
abbrev sORinse:Stmt:=inClass (top 37) 1
structure Er1 (K:Aa)(mg:Str->Option Value)(cP c f:Addr)(nm:Str)(fs:List Str):Prop where
 e : ∀ x ∈ fs,ExF K c cP f x
 s:PySem.W.subIn K (.ref c) (.ref cP)=some true
 v:Ao K (.ref c) (.type "ValueError")=some true
 m:mg nm=some (.ref c)
structure ErB (K:Aa)(mg:Str->Option Value)(cP c0 c1 c2 c3 c4 c5 f0 f3 f4:Addr):Prop where
 ct:CtK K cP
 bi:BaseI K cP
 mP:mg "PhialError" = some (.ref cP)
 r0:Er1 K mg cP c0 f0 "Dry" ["place","phial"]
 m1:mg "Low" = some (.ref c1)
 m2:mg "Wet" = some (.ref c2)
 r3:Er1 K mg cP c3 f3 "Spilt" ["place","phial","over"]
 r4:Er1 K mg cP c4 f4 "Touch" ["place","phial","pair"]
 m5:mg "NoDeed" = some (.ref c5)
 i00:Ao K (.ref c0) (.ref c0)=some true
 i01:Ao K (.ref c0) (.ref c1)=some false
 i02:Ao K (.ref c0) (.ref c2)=some false
 i03:Ao K (.ref c0) (.ref c3)=some false
 i04:Ao K (.ref c0) (.ref c4)=some false
 i05:Ao K (.ref c0) (.ref c5)=some false
 i30:Ao K (.ref c3) (.ref c0)=some false
 i31:Ao K (.ref c3) (.ref c1)=some false
 i32:Ao K (.ref c3) (.ref c2)=some false
 i33:Ao K (.ref c3) (.ref c3)=some true
 i34:Ao K (.ref c3) (.ref c4)=some false
 i35:Ao K (.ref c3) (.ref c5)=some false
 i40:Ao K (.ref c4) (.ref c0)=some false
 i41:Ao K (.ref c4) (.ref c1)=some false
 i42:Ao K (.ref c4) (.ref c2)=some false
 i43:Ao K (.ref c4) (.ref c3)=some false
 i44:Ao K (.ref c4) (.ref c4)=some true
 i45:Ao K (.ref c4) (.ref c5)=some false
def yD (e c:Addr)(fl:List (Str × V))(H:Hp)(Q:VK):Prop:=∀ dx H',dx ≠ e->(∀ p o,p ≠ e->H p=some o->H' p=some o)->H' e=some (exN e c (some dx))->H' dx=some (xdE dx fl)->Q .non H'
def spI1 (c:Addr):Sp:=fun vs H Q _=>∃ (e:Addr) (n:Nat),vs=[.ref e,.int (n:Nat)]/\n < 1000/\H e=some (exN e c none)/\yD e c [("place",.int (n:Nat))] H Q
def spI2 (c:Addr):Sp:=fun vs H Q _=>∃ (e:Addr) (n p:Nat),vs=[.ref e,.int (n:Nat),.int (p:Nat)]/\n < 1000/\p < 1000/\H e=some (exN e c none)/\yD e c [("phial",.int (p:Nat)),("place",.int (n:Nat))] H Q
def spI3 (c:Addr):Sp:=fun vs H Q _=>∃ (e:Addr) (n p:Nat) (u:V),vs=[.ref e,.int (n:Nat),.int (p:Nat),u]/\n < 1000/\p < 1000/\H e=some (exN e c none)/\yD e c [("over",u),("phial",.int (p:Nat)),("place",.int (n:Nat))] H Q
def aB7 (K:Aa)(c:Addr):Sp:=fun vs H Q _=>∃ (e a:Addr) (n p:Nat) (x y:Str),vs=[.ref e,.int (n:Nat),.int (p:Nat),.ref a]/\n < 1000/\p < 1000/\SqT K H a [.str x,.str y]/\Wr x/\Wr y/\H e=some (exN e c none)/\yD e c [("pair",.ref a),("phial",.int (p:Nat)),("place",.int (n:Nat))] H Q
def BadE (c:Addr)(fl:List (Str × V))(H:Hp)(E:XK):Prop:=∀ dx H',Same H H'->H' dx=some (xdE dx fl)->E (.ref c) (some dx) H'
theorem BadE.mono (h:BadE c fl H E)(s:Same H H1):BadE c fl H1 E:=fun dx H' s' hd=>h dx H' (s.trans s') hd
theorem oV (he:H e=none)(h:BadE c fl H E):yD e c fl (upd H e (exN e c none)) (fun v H2=>v = .non/\∃ dd,H2 e=some (exN e c dd)/\E (.ref c) dd (rem H2 e)):=fun dx H' ne sm hE hd=>by
 refine ⟨rfl,some dx,hE,h dx _ (fun p o hp => ?_) (by rw [lY ne]; exact hd)⟩;have n1:p ≠ e:=fun z=>by rw [z,he] at hp; cases hp
 rw [lY n1];exact sm p o n1 (by rw [aI n1]; exact hp)
abbrev yC (c:Addr)(vs:List V)(sp:Sp)(H:Hp)(E:XK):Prop:=vs.length<=Aw/\∀ e,H e=none->sp (.ref e :: vs) (upd H e (exN e c none)) (fun v H2=>v = .non/\∃ dd,H2 e=some (exN e c dd)/\E (.ref c) dd (rem H2 e)) E0
theorem aEx {n p:Nat}(hn:n < 1000)(hp:p < 1000)(h:BadE c [("phial",.int (p:Nat)),("place",.int (n:Nat))] H E):yC c [.int (n:Nat),.int (p:Nat)] (spI2 c) H E :=
 ⟨zLn2,fun e he=>⟨e,n,p,rfl,hn,hp,aB,oV he h⟩⟩
theorem aEw {n p:Nat}(hn:n < 1000)(hp:p < 1000)(h:BadE c [("over",u),("phial",.int (p:Nat)),("place",.int (n:Nat))] H E):yC c [.int (n:Nat),.int (p:Nat),u] (spI3 c) H E :=
 ⟨zLn3,fun e he=>⟨e,n,p,u,rfl,hn,hp,aB,oV he h⟩⟩
theorem aCi {K:Aa}{c a:Addr}{n p:Nat}{x y:Str}{H:Hp}{E:XK}(hn:n < 1000)(hp:p < 1000)(sq:H a=some (.tup [.str x,.str y]))(wx:Wr x)(wy:Wr y)(h:BadE c [("pair",.ref a),("phial",.int (p:Nat)),("place",.int (n:Nat))] H E):yC c [.int (n:Nat),.int (p:Nat),.ref a] (aB7 K c) H E :=
 ⟨zLn3,fun e he=>⟨e,a,n,p,x,y,rfl,hn,hp,SqT.of ((Same.upd he) _ _ sq),wx,wy,aB,oV he h⟩⟩
theorem lE:Str.empty.length=0:=rfl
def fs3 (f1 f2 f3:Str)(u1 u2 u3:V):List (Str × V):=putF f3 u3 (putF f2 u2 (putF f1 u1 []))
def fs1 (f1:Str)(u1:V):List (Str × V):=putF f1 u1 []
def aB6 (C:Addr)(f1 f2 f3:Str):Sp:=fun vs H Q _=>∃ (p dx:Addr) (u1 u2 u3:V),vs=[.ref p,u1,u2,u3]/\H p=some (.ins C dx [])/\∀ H',(∀ b o,b ≠ p->H b=some o->H' b=some o)->H' p=some (.ins C dx (fs3 f1 f2 f3 u1 u2 u3))->Q .non H'
def spMk1 (C:Addr)(f1:Str):Sp:=fun vs H Q _=>∃ (p dx:Addr) (u1:V),vs=[.ref p,u1]/\H p=some (.ins C dx [])/\∀ H',(∀ b o,b ≠ p->H b=some o->H' b=some o)->H' p=some (.ins C dx (fs1 f1 u1))->Q .non H'
theorem qX (f:Str)(v:V) : ∀ fs:List (Str × V),(putF f v fs).length<=fs.length+1
  | []=>Ak _
  | (g,x) :: r=>by
    unfold putF;split
    · exact Dh _
    · exact Nat.succ_le_succ (qX f v r)
theorem aHf (n3:f1 ≠ f3)(n2:f1 ≠ f2):(fs3 f1 f2 f3 u1 u2 u3).lookup f1=some u1:=by
 unfold fs3;rw [bQ,if_neg n3,bQ,if_neg n2,bQ,if_pos rfl]
theorem aHe (n3:f2 ≠ f3):(fs3 f1 f2 f3 u1 u2 u3).lookup f2=some u2:=by
 unfold fs3;rw [bQ,if_neg n3,bQ,if_pos rfl]
theorem aHd :(fs3 f1 f2 f3 u1 u2 u3).lookup f3=some u3:=by
 unfold fs3;rw [bQ,if_pos rfl]
theorem aFt (n1:m ≠ f1)(n2:m ≠ f2)(n3:m ≠ f3):(fs3 f1 f2 f3 u1 u2 u3).lookup m=none:=by
 unfold fs3;rw [bQ,if_neg n3,bQ,if_neg n2,bQ,if_neg n1];rfl
structure DCl (K:Aa)(C:Addr)(fs:List Str):Prop where
 cl:Cls K C
 na : ∀ f ∈ fs,NoAttr K C f
section
variable {P:Ax}{w:World}{K:Aa}{mg:Str->Option Value}{base:Heap}{cP c0 c1 c2 c3 c4 c5 f0 f3 f4 C:Addr}
theorem cpsT (t:Nat):cps ((toString (t:Int):String):Str)=dg t:=PySem.W.KIN.signs_num t
theorem logT {t:Nat}(h:t < 10 ^ 60):((t:Int)).natAbs.log2 < 1920:=by
 rw [Int.natAbs_natCast]
 by_cases z:t=0
 ·subst z
  decide
 ·exact (Nat.log2_lt z).mpr (CC h (by decide +kernel))
theorem gI {n:Nat}(h:n < 1000):((toString (n:Int):String):Str).length<=60:=by
 rw [lenC,cpsT];exact aFz (CC h (by decide +kernel))
theorem lV (h:Wr x) : ∀ c ∈ x.cps.toList,c < 16 ^ 8:=fun c hc=>by
 exact DF (h.lt c hc).2 (by decide)
theorem scE0:FnScope ["self","place","phial"] ["self","place","phial"] (aH sE0):=fnScOk (by decide +kernel)
theorem aG3 (F:Fun K "__init__" "Dry.__init__" sE0 f fd)(R:ErB K mg cP c0 c1 c2 c3 c4 c5 f0 f3 f4):FnOk P w K mg base CX0 1 f fd ["self","place","phial"] (spI2 c0):=by
 refine F.ok scE0 (fun vs H Q E h => ?_) (fun cdv A outer s H vs Q E hr h => ?_)
 ·obtain ⟨_,_,_,rfl,_⟩:=h
  rfl
 ·obtain ⟨e,n,p,rfl,hn,hp,he,k⟩:=h
  refine ⟨_,aC (dJ (lA rfl R.mP R.bi (aA (pv 0) (aA (oP (cV aS (cV (jN (pv 1)) (cV aS (cV (jN (pv 2)) (cV aS uW)))))) aD))))
   (aC (uR (C:=c0) (P:=cP) (f:=f0) rfl (pv 0) (pv 1) rfl) (aE (mD (C:=c0) (P:=cP) (f:=f0) (pv 0) (pv 2) rfl))),?_⟩
  have hl:=gI hn;have l1:("row " : Str).length=4:=by decide +kernel
  have hl2:=gI hp;have l2:(": phial " : Str).length=8:=by decide +kernel
  have l3:(" holds nothing" : Str).length=14:=by decide +kernel
  refine ⟨_,rfl,_,rfl,?_,_,rfl,_,⟨logT (CC hn (by decide +kernel)),rfl⟩,_,rfl,?_,_,rfl,?_,_,rfl,_,⟨logT (CC hp (by decide +kernel)),rfl⟩,_,rfl,?_,_,rfl,?_,?_,e,c0,none,f0,_,rfl,he,(R.r0.e "place" (by simp)).i,?_⟩
  ·rw [lenA,lE]; exact bL (by omega)
  ·rw [lenA,lenA,lE]; exact bL (by omega)
  ·rw [lenA,lenA,lenA,lE]; exact bL (by omega)
  ·rw [lenA,lenA,lenA,lenA,lE]; exact bL (by omega)
  ·rw [lenA,lenA,lenA,lenA,lenA,lE]; exact bL (by omega)
  ·rw [lenA,lenA,lenA,lenA,lenA,lE]; exact bL (by omega)
  ·refine ⟨_,rfl,_,rfl,e,rfl,he,R.r0.e "place" (by simp),fun dx hd ne => ?_⟩
   refine ⟨_,rfl,_,rfl,e,dx,_,rfl,by rw [aI (AM ne),aB],aB,by show 1<=90; decide,R.r0.e "phial" (by simp),?_⟩;refine k dx _ ne (fun p o n1 hp => ?_) (by rw [aI (AM ne),aI (AM ne),aB]) aB;have n2:p ≠ dx:=fun z=>by rw [z,hd] at hp; cases hp
   rw [aI n2,aI n2,aI n1];exact hp
theorem scE3:FnScope ["self","place","phial","over"] ["self","place","phial","over"] (aH sE3):=fnScOk (by decide +kernel)
theorem aG2 (F:Fun K "__init__" "Spilt.__init__" sE3 f fd)(R:ErB K mg cP c0 c1 c2 c3 c4 c5 f0 f3 f4):FnOk P w K mg base CX0 1 f fd ["self","place","phial","over"] (spI3 c3):=by
 refine F.ok scE3 (fun vs H Q E h => ?_) (fun cdv A outer s H vs Q E hr h => ?_)
 ·obtain ⟨_,_,_,_,rfl,_⟩:=h
  rfl
 ·obtain ⟨e,n,p,u,rfl,hn,hp,he,k⟩:=h
  refine ⟨_,aC (dJ (lA rfl R.mP R.bi (aA (pv 0) (aA (oP (cV aS (cV (jN (pv 1)) (cV aS (cV (jN (pv 2)) (cV aS uW)))))) aD))))
   (aC (uR (C:=c3) (P:=cP) (f:=f3) rfl (pv 0) (pv 1) rfl) (aC (mD (C:=c3) (P:=cP) (f:=f3) (pv 0) (pv 2) rfl) (aE (mD (C:=c3) (P:=cP) (f:=f3) (pv 0) (pv 3) rfl)))),?_⟩
  have hl:=gI hn;have l1:("row " : Str).length=4:=by decide +kernel
  have hl2:=gI hp;have l2:(": phial " : Str).length=8:=by decide +kernel
  have l3:(" would hold more than its room" : Str).length=30:=by decide +kernel
  refine ⟨_,rfl,_,rfl,?_,_,rfl,_,⟨logT (CC hn (by decide +kernel)),rfl⟩,_,rfl,?_,_,rfl,?_,_,rfl,_,⟨logT (CC hp (by decide +kernel)),rfl⟩,_,rfl,?_,_,rfl,?_,?_,e,c3,none,f3,_,rfl,he,(R.r3.e "place" (by simp)).i,?_⟩
  ·rw [lenA,lE]; exact bL (by omega)
  ·rw [lenA,lenA,lE]; exact bL (by omega)
  ·rw [lenA,lenA,lenA,lE]; exact bL (by omega)
  ·rw [lenA,lenA,lenA,lenA,lE]; exact bL (by omega)
  ·rw [lenA,lenA,lenA,lenA,lenA,lE]; exact bL (by omega)
  ·rw [lenA,lenA,lenA,lenA,lenA,lE]; exact bL (by omega)
  ·refine ⟨_,rfl,_,rfl,e,rfl,he,R.r3.e "place" (by simp),fun dx hd ne => ?_⟩
   refine ⟨_,rfl,_,rfl,e,dx,_,rfl,by rw [aI (AM ne),aB],aB,by show 1<=90; decide,R.r3.e "phial" (by simp),?_⟩;refine ⟨_,rfl,_,rfl,e,dx,_,rfl,by rw [aI (AM ne),aI (AM ne),aB],aB,by show 2<=90; decide,R.r3.e "over" (by simp),?_⟩;refine k dx _ ne (fun p o n1 hp => ?_) (by rw [aI (AM ne),aI (AM ne),aI (AM ne),aB]) aB;have n2:p ≠ dx:=fun z=>by rw [z,hd] at hp; cases hp
   rw [aI n2,aI n2,aI n2,aI n1];exact hp
theorem scE4:FnScope ["self","place","phial","pair"] ["self","place","phial","pair"] (aH sE4):=fnScOk (by decide +kernel)
theorem aG1 (F:Fun K "__init__" "Touch.__init__" sE4 f fd)(R:ErB K mg cP c0 c1 c2 c3 c4 c5 f0 f3 f4):FnOk P w K mg base CX0 1 f fd ["self","place","phial","pair"] (aB7 K c4):=by
 refine F.ok scE4 (fun vs H Q E h => ?_) (fun cdv A outer s H vs Q E hr h => ?_)
 ·obtain ⟨_,_,_,_,_,_,rfl,_⟩:=h
  rfl
 ·obtain ⟨e,a,n,p,x,y,rfl,hn,hp,sq,wx,wy,he,k⟩:=h
  refine ⟨_,aC (dJ (lA rfl R.mP R.bi (aA (pv 0) (aA (oP (cV aS (cV (jN (pv 1)) (cV aS (cV (jN (pv 2)) (cV aS (cV (aCt hr (pv 3)) uW))))))) aD))))
   (aC (uR (C:=c4) (P:=cP) (f:=f4) rfl (pv 0) (pv 1) rfl) (aC (mD (C:=c4) (P:=cP) (f:=f4) (pv 0) (pv 2) rfl) (aE (mD (C:=c4) (P:=cP) (f:=f4) (pv 0) (pv 3) rfl)))),?_⟩
  have hl:=gI hn;have l1:("row " : Str).length=4:=by decide +kernel
  have hl2:=gI hp;have l2:(": in phial " : Str).length=11:=by decide +kernel
  have l3:(" two wares meet that must not: " : Str).length=31:=by decide +kernel
  refine ⟨_,rfl,_,rfl,?_,_,rfl,_,⟨logT (CC hn (by decide +kernel)),rfl⟩,_,rfl,?_,_,rfl,?_,_,rfl,_,⟨logT (CC hp (by decide +kernel)),rfl⟩,_,rfl,?_,_,rfl,?_,_,rfl,a,x,y,rfl,sq,lV wx,lV wy,(by have:=wx.l8; omega),(by have:=wy.l8; omega),fun z hz=>⟨z,rfl,?_,?_,e,c4,none,f4,_,rfl,he,(R.r4.e "place" (by simp)).i,?_⟩⟩
  ·rw [lenA,lE]; exact bL (by omega)
  ·rw [lenA,lenA,lE]; exact bL (by omega)
  ·rw [lenA,lenA,lenA,lE]; exact bL (by omega)
  ·rw [lenA,lenA,lenA,lenA,lE]; exact bL (by omega)
  ·rw [lenA,lenA,lenA,lenA,lenA,lE]; exact bL (by omega)
  ·rw [lenA,lenA,lenA,lenA,lenA,lenA,lE]; exact bL (by omega)
  ·rw [lenA,lenA,lenA,lenA,lenA,lenA,lE]; exact bL (by omega)
  ·refine ⟨_,rfl,_,rfl,e,rfl,he,R.r4.e "place" (by simp),fun dx hd ne => ?_⟩
   refine ⟨_,rfl,_,rfl,e,dx,_,rfl,by rw [aI (AM ne),aB],aB,by show 1<=90; decide,R.r4.e "phial" (by simp),?_⟩;refine ⟨_,rfl,_,rfl,e,dx,_,rfl,by rw [aI (AM ne),aI (AM ne),aB],aB,by show 2<=90; decide,R.r4.e "pair" (by simp),?_⟩;refine k dx _ ne (fun p o n1 hp => ?_) (by rw [aI (AM ne),aI (AM ne),aI (AM ne),aB]) aB;have n2:p ≠ dx:=fun z=>by rw [z,hd] at hp; cases hp
   rw [aI n2,aI n2,aI n2,aI n1];exact hp
theorem aCf:FnScope ["self","one","other","part"] ["self","one","other","part"] (aH qD):=fnScOk (by decide +kernel)
theorem zT (F:Fun K "__init__" "Pour.__init__" qD f fd)(D:DCl K C ["one","other","part"]):FnOk P w K mg base CX0 1 f fd ["self","one","other","part"] (aB6 C "one" "other" "part"):=by
 refine F.ok aCf (fun vs H Q E h => ?_) (fun cdv A outer s H vs Q E hr h => ?_)
 ·obtain ⟨_,_,_,_,_,rfl,_⟩:=h
  rfl
 ·obtain ⟨p,dx,u1,u2,u3,rfl,hp,k⟩:=h
  refine ⟨_,(aC (uQ (pv 0) (pv 1) rfl) (aC (uQ (pv 0) (pv 2) rfl) (aE (uQ (pv 0) (pv 3) rfl)))),?_⟩;refine cut3 ?_
  intros
  refine ⟨_,rfl,_,rfl,p,C,dx,[],rfl,hp,D.cl,D.na _ (by simp),(by show 0 < 1000; decide),?_⟩;refine ⟨_,rfl,_,rfl,p,C,dx,_,rfl,aB,D.cl,D.na _ (by simp),(by show 1 < 1000; decide),?_⟩;refine ⟨_,rfl,_,rfl,p,C,dx,_,rfl,aB,D.cl,D.na _ (by simp),(DF (qX ..) (by show 2 < 1000; decide)),k _ (fun b o nb hb=>by rw [aI nb,aI nb,aI nb]; exact hb) aB⟩
end
end K34
namespace SX
open PySem PySem.Spec PyProof.Rows
theorem dZ:Slot "set_iterator" "__next__" "set_iterator.__next__" := .of (owner := "set_iterator") (n := "__next__") (by rw [typeLookup_type,builtinLookup_eq_fast]; kernel_rfl) (by decide +kernel) (by decide +kernel) (by decide +kernel) (by first | exact .inl (by decide +kernel) | exact .inr (by decide +kernel)) (by rw [isSubtype_type]; kernel_rfl)
theorem iD:entryFor table "set_iterator.__next__" = some AF.«set_iterator.__next__» := entryFor_of_tree (by kernel_rfl)
theorem lN (a:Value):argsOk "set_iterator.__next__" ⟨[a],[]⟩:=by unfold argsOk; kernel_rfl
theorem qA:Slot "set_iterator" "__iter__" "set_iterator.__iter__" := .of (owner := "set_iterator") (n := "__iter__") (by rw [typeLookup_type,builtinLookup_eq_fast]; kernel_rfl) (by decide +kernel) (by decide +kernel) (by decide +kernel) (by first | exact .inl (by decide +kernel) | exact .inr (by decide +kernel)) (by rw [isSubtype_type]; kernel_rfl)
theorem nA:entryFor table "set.__iter__" = some AF.«frozenset.__iter__» := entryFor_alias (id' := "frozenset.__iter__") (by kernel_rfl) rfl (by decide +kernel) (by kernel_rfl)
def itO (f:Value)(i:Int)(n ep:Nat)(a:Addr):Obj:={ cls:=.type "set_iterator",dict:=none,data:=.fields #[f,.int i 0,.ref a,.int n 0,.int ep 0],slots := #[] }
theorem gL {α:Type} : ∀ {l:List α} {i:Nat} (h:i < l.length),(l[i] :: l.eraseIdx i).Perm l
 | [],_,h=>by simp at h
 | x :: l,0,h=>by simp
 | x :: l,i+1,h=>by
  have:=gL (l:=l) (i:=i) (by simpa using h);simp only [List.getElem_cons_succ,List.eraseIdx_cons_succ];exact (List.Perm.swap _ _ _).trans (this.cons x)
section
variable {P:Ax}{w:World}{A:Around}{E:Value->Shared->Prop}{s:Shared}
theorem tH {n:Nat}(hn:n ≠ 0)(h : ∀ i d',i < n->Q i { s with drawn:=d' }):wpAny (model P w) A (choose src n) Q E s :=
 fun _ _ _=>⟨hn,h _ _ (Nat.mod_lt _ (by omega))⟩
theorem nF {α:Type} : ∀ (n:Nat) (xs:List α) (s:Shared) (Q:List α->Shared->Prop),xs.length=n->(∀ ys d',ys.Perm xs->Q ys { s with drawn:=d' })->wpAny (model P w) A (drawOrder n xs) Q E s
 | 0,xs,s,Q,hl,h=>by
  obtain rfl:xs=[]:=BQ.mp hl;unfold drawOrder;exact Af (h [] s.drawn (.refl _))
 | n+1,[],s,Q,hl,h=>by cases hl
 | n+1,x :: xs,s,Q,hl,h=>by
  unfold drawOrder;refine Ab (tH (by simp) fun i d' hi => ?_);have e:(x :: xs)[i]?=some (x :: xs)[i]:=Ae hi;simp only [e];have el:((x :: xs).eraseIdx i).length=n:=by rw [List.length_eraseIdx_of_lt hi]; simpa using hl
  refine Ab (nF n _ _ _ el fun ys d2 pm=>Af ?_);exact h _ d2 ((pm.cons _).trans (gL hi))
theorem uZ {α:Type}(nx:Nat->Nat) : ∀ (n k:Nat) (l:List α) (o:Array α),l.length=n->(pickOrder.go nx n k l o).toList.Perm (o.toList ++ l)
 | 0,k,l,o,h=>by
  obtain rfl:l=[]:=BQ.mp h;unfold pickOrder.go;rw [BZ]
 | n+1,k,l,o,h=>by
  have lt:nx k % l.length < l.length:=Nat.mod_lt _ (by omega);unfold pickOrder.go;rw [Ae lt];dsimp only;refine (uZ nx n (k+1) _ _ (by rw [List.length_eraseIdx_of_lt lt]; omega)).trans ?_;rw [Array.toList_push,List.append_assoc];exact List.Perm.append_left _ (gL lt)
theorem uY {α:Type}(nx:Nat->Nat)(xs:Array α):(pickOrder nx xs).toList.Perm xs.toList:=by
 have:=uZ nx xs.size 0 xs.toList #[] (by simp)
 simpa [pickOrder] using this
theorem oM {ep:Nat}(ho:s.heap.get? a=some (setO es ep t))(hf:t.fits es.size=true)(h:Q (!byT w && (!t.plain && decide (es.size > 1))) s):wpAny (model P w) A (setDrawn a) Q E s:=by
 unfold setDrawn;refine Ab (Ea ho rfl hf ?_);unfold setsByText;refine Ab (Ab (Em (Af ?_)));exact Af h
theorem tY (hh:A.handled=none)(hQ : ∀ h',(∀ b o,s.heap.get? b=some o->h'.get? b=some o)->Q none { s with heap:=h' }) :
  wpAny (model P w) A.in1 (do raiseNew (<- newExc (.type "StopIteration") [])) (fun (fin:Fin) s'=>∃ v,fin = .done (.ret v)/\wpAny (model P w) A (pure (some v)) Q E s') (fun e s'=>wpAny (model P w) A (do if <- isInstance e (.type "StopIteration") then pure none else throw e) Q E s') s:=by
 refine Ab ?_;simp only [newExc,newTuple];refine Ab (AY ?_ (by size_fits));refine Ab (m:=firstArgMember _ _) (Et (a:=BP) (by first | rfl | (simp only [firstArgMember]; rfl)) ?_);refine AY ?_ (by size_fits);simp only [raiseNew];refine Ab (wpAny_handled ?_);rw [show A.in1.handled=none from hh];refine Ab (Af (wpAny_throw ?_));refine Ab (Fc (T := "StopIteration") (b:=true) ⟨_,Ah _ rfl,rfl⟩ isSubtype_stop ?_);exact Af (hQ _ fun b o e=>Ac _ (Ac _ e))
end
theorem xB:entryFor table "set_iterator.__iter__" = some AF.«dict_keyiterator.__iter__» := entryFor_alias (id' := "dict_keyiterator.__iter__") (by kernel_rfl) rfl (by decide +kernel) (by kernel_rfl)
theorem aAq (a:Value):argsOk "set_iterator.__iter__" ⟨[a],[]⟩:=by unfold argsOk; kernel_rfl
abbrev IP (ord:List Value)(i:Nat)(v:Value):Prop:=ord[i]?=some v
section
variable {P:Ax}{w:World}{A:Around}{E:Value->Shared->Prop}{s:Shared}{a I:Addr}{es:Array (Int × Value)}{ep:Nat}{t:BW}
theorem uI {i:Int}{n:Nat}(hI:s.heap.get? I=some (itO f i n ep a))(h:Q (.ref I) s):wpAny (model P w) A (pyIter (.ref I)) Q E s:=by
 refine wpAny_pyIter_slot ⟨_,hI,rfl⟩ qA (Bq qA ⟨_,hI,rfl⟩ xB ?_ (aAq _));show wpAny _ _ (ret (.ref I)) _ _ s;exact Af ⟨_,rfl,"set_iterator",_,⟨_,hI,rfl⟩,dZ.lookup,h⟩
theorem kY {i:Int}{n k:Nat}(hI:s.heap.get? I=some (itO f i n ep a))(hk:k < 5)(h : ∀ h',h'.get? I=some { cls:=.type "set_iterator",dict:=none,data:=.fields (#[f,.int i 0,.ref a,.int n 0,.int ep 0].setIfInBounds k x),slots := #[] }->Ci I s.heap h'->Q () { s with heap:=h' }) :
  wpAny (model P w) A (setField (.ref I) k x) Q E s:=Cq hI hk h
theorem lQ (hh:A.handled=none)(ne:a ≠ I)(hf:t.fits es.size=true)(ord:List Value)(sl:Nat->Nat)(hx : ∀ (A:Around) (E:Value->Shared->Prop) (i:Nat) (s:Shared) (Q:Option (Value × Nat)->Shared->Prop),i<=ord.length->s.heap.get? a=some (setO es ep t)->Q (ord[i]?.map fun v=>(v,sl (i+1))) s->wpAny (model P w) A (setNext a (sl i) i ep) Q E s) :
  Walks P w A I [I,a] [I] ord.length (IP ord) (fun i h=>h.get? I=some (itO (.int (sl i) 0) i es.size ep a)/\h.get? a=some (setO es ep t)) where
 sub:=fun b hb=>by simp at hb; simp [hb]
 frame:=fun i h h' st k=>⟨k I (by simp) _ st.1,k a (by simp) _ st.2⟩
 self:=fun i s Q E st hQ=>uI st.1 hQ
 item:=fun i s Q E hi st hQ=>by
  obtain ⟨hI,ho⟩:=st;unfold pyNext;refine Ab (Dz (Bs (name:=CM "__next__") ⟨_,hI,rfl⟩ dZ (Bq dZ ⟨_,hI,rfl⟩ iD ?_ (lN _))));show wpAny _ _ (fieldsOf (.ref I) >>= _) _ _ s;refine Ab (wpAny_fieldsOf hI rfl ?_);show wpAny _ _ (setEntries a >>= _) _ _ s;refine Ab (Es ho rfl hf ?_);dsimp only;rw [if_neg (by simp)];simp only [Cz];refine Ab (hx _ _ i s _ (Nat.le_of_lt hi) ho ?_);rw [Ae hi];dsimp only [Option.map];refine Ab (kY hI (by decide) fun h1 g1 b1 => ?_);refine Ab (Cq (k:=1) g1 (by simp) fun h2 g2 b2 => ?_);refine Af ⟨_,rfl,Af (hQ _ h2 s.toks (Ae hi) ⟨?_,?_⟩ fun b o hb e => ?_)⟩
  ·rw [g2]
   rfl
  ·rw [b2.2 a ne,b1.2 a ne]
   exact ho
  ·have hb':b ≠ I:=by simpa using hb
   show h2.get? b=some o;rw [b2.2 b hb',b1.2 b hb'];exact e
 done:=fun s Q E st hQ=>by
  obtain ⟨hI,ho⟩:=st;unfold pyNext;refine Ab (Dz (Bs (name:=CM "__next__") ⟨_,hI,rfl⟩ dZ (Bq dZ ⟨_,hI,rfl⟩ iD ?_ (lN _))));show wpAny _ _ (fieldsOf (.ref I) >>= _) _ _ s;refine Ab (wpAny_fieldsOf hI rfl ?_);show wpAny _ _ (setEntries a >>= _) _ _ s;refine Ab (Es ho rfl hf ?_);dsimp only;rw [if_neg (by simp)];simp only [Cz];refine Ab (hx _ _ ord.length s _ (Ak _) ho ?_);rw [Bp (Ak _)];dsimp only [Option.map];refine Ab (kY hI (by decide) fun h1 g1 b1 => ?_);refine tY hh fun h2 k2=>hQ h2 s.toks fun b o hb e=>k2 b o ?_;have hb':b ≠ I:=by simpa using hb
  show h1.get? b=some o;rw [b1.2 b hb'];exact e
theorem rO (hh:A.handled=none)(ne:a ≠ I)(nt:tp ≠ I)(hf:t.fits es.size=true)(pl:List Nat)(ord:List Value)(ol:ord.length=pl.length)(hp : ∀ (i p:Nat),pl[i]?=some p->∃ x v,es[p]?=some (x,v)/\ord[i]?=some v) :
  Walks P w A I [I,a,tp] [I] ord.length (IP ord) (fun i h=>h.get? I=some (itO (.ref tp) i es.size ep a)/\h.get? a=some (setO es ep t)/\h.get? tp=some { cls:=.type "tuple",dict:=none,data:=.seq (pl.map fun (p:Nat)=>rawInt p).toArray,slots := #[] }) where
 sub:=fun b hb=>by simp at hb; simp [hb]
 frame:=fun i h h' st k=>⟨k I (by simp) _ st.1,k a (by simp) _ st.2.1,k tp (by simp) _ st.2.2⟩
 self:=fun i s Q E st hQ=>uI st.1 hQ
 item:=fun i s Q E hi st hQ=>by
  obtain ⟨hI,ho,ht⟩:=st;obtain ⟨p,hpl⟩ : ∃ p,pl[i]?=some p:=⟨_,Ae (by omega)⟩;obtain ⟨x,v,he,hv⟩:=hp i p hpl;unfold pyNext;refine Ab (Dz (Bs (name:=CM "__next__") ⟨_,hI,rfl⟩ dZ (Bq dZ ⟨_,hI,rfl⟩ iD ?_ (lN _))));show wpAny _ _ (fieldsOf (.ref I) >>= _) _ _ s;refine Ab (wpAny_fieldsOf hI rfl ?_);show wpAny _ _ (setEntries a >>= _) _ _ s;refine Ab (Es ho rfl hf ?_);dsimp only;rw [if_neg (by simp)];refine Ab (CS ht rfl ?_);dsimp only;have hq:((pl.map fun (p:Nat)=>rawInt p).toArray)[(Int.toNat (i:Int))]?=some (.int p 0):=by
   rw [Cz,List.getElem?_toArray,As,hpl];rfl
  rw [hq];dsimp only;simp only [Cz];refine Ab ?_;unfold setNextDrawn;refine Ab (Ea ho rfl hf ?_);dsimp only;rw [if_neg (by simp),he];refine Af ?_;refine Ab (kY hI (by decide) fun h1 g1 b1 => ?_);refine Af ⟨_,rfl,Af (hQ _ h1 s.toks hv ⟨?_,?_,?_⟩ fun b o hb e => ?_)⟩
  ·rw [g1]
   rfl
  ·rw [b1.2 a ne]
   exact ho
  ·rw [b1.2 tp nt]
   exact ht
  ·have hb':b ≠ I:=by simpa using hb
   show h1.get? b=some o;rw [b1.2 b hb'];exact e
 done:=fun s Q E st hQ=>by
  obtain ⟨hI,ho,ht⟩:=st;unfold pyNext;refine Ab (Dz (Bs (name:=CM "__next__") ⟨_,hI,rfl⟩ dZ (Bq dZ ⟨_,hI,rfl⟩ iD ?_ (lN _))));show wpAny _ _ (fieldsOf (.ref I) >>= _) _ _ s;refine Ab (wpAny_fieldsOf hI rfl ?_);show wpAny _ _ (setEntries a >>= _) _ _ s;refine Ab (Es ho rfl hf ?_);dsimp only;rw [if_neg (by simp)];refine Ab (CS ht rfl ?_);dsimp only;have hq:((pl.map fun (p:Nat)=>rawInt p).toArray)[(Int.toNat (ord.length:Int))]?=none:=by
   rw [Cz,List.getElem?_toArray,As,Bp (by omega)];rfl
  rw [hq];dsimp only;refine Ab (kY hI (by decide) fun h0 g0 b0 => ?_);refine Ab (Cq (k:=2) g0 (by simp) fun h1 g1 b1 => ?_);refine tY hh fun h2 k2=>hQ h2 s.toks fun b o hb e=>k2 b o ?_;have hb':b ≠ I:=by simpa using hb
  show h1.get? b=some o;rw [b1.2 b hb',b0.2 b hb'];exact e
end
section
variable {P:Ax}{w:World}{A:Around}{E:Value->Shared->Prop}{s:Shared}{a I:Addr}{es:Array (Int × Value)}{ep:Nat}{t:BW}
theorem wB {sl i:Nat}(hb:byT w=true)(hf:t.fits es.size=true)(ho:s.heap.get? a=some (setO es ep t))(h:Q ((pickOrder (w.params.setOrder a ep) es)[i]?.map fun e=>(e.2,sl)) s):wpAny (model P w) A (setNext a sl i ep) Q E s:=by
 unfold setNext;refine Ab (Ea ho rfl hf ?_);dsimp only;unfold setsByText;refine Ab (Ab (Em (Af ?_)));show wpAny _ _ (if byT w=true then _ else _) _ _ s;rw [if_pos hb,if_neg (by simp)];refine Ab ?_;unfold setWalk;refine Ab (Ea ho rfl hf ?_);dsimp only;unfold setsByText;refine Ab (Ab (Em (Af ?_)));show wpAny _ _ (if byT w=true then _ else _) _ _ s;rw [if_pos hb];refine Ab (Em (Af ?_));exact Af h
theorem zZ {sl i:Nat}(hb:byT w=false)(hf:t.fits es.size=true)(hl:t.led=true)(h1:es.size<=1)(ho:s.heap.get? a=some (setO es ep t))(h:Q (match es[DP t.place sl]?,t.place[DP t.place sl]? with | some (_,x),some j=>some (x,j+1) | _,_=>none) s):wpAny (model P w) A (setNext a sl i ep) Q E s:=by
 unfold setNext;refine Ab (Ea ho rfl hf ?_);dsimp only;unfold setsByText;refine Ab (Ab (Em (Af ?_)));show wpAny _ _ (if byT w=true then _ else _) _ _ s;rw [if_neg (by rw [hb]; decide)];show wpAny _ _ (if (!t.plain && decide (es.size > 1))=true then _ else _) _ _ s;rw [if_neg (by rw [decide_eq_false (by omega)]; simp)];show wpAny _ _ (bind (if (!t.led && !es.isEmpty)=true then _ else _) _) _ _ s;rw [if_neg (by rw [hl]; simp)];refine Ab (Af ?_);exact Af h
theorem kH {P:Ax}{w:World}{es:List (Int × Value)}(el:ElemsOf (strKind P w) es) : ∀ {l:List (Int × Value)},(∀ e ∈ l,e ∈ es)->EE (l.map (·.2)) (l.map fun e=>kv e.2)
 | [],_=>.nil
 | e :: l,h=>by
  obtain ⟨t,ht⟩:=aBl el (h e (Au ..));have:=kH el (l:=l) fun x hx=>h x (Al _ hx);rw [Ai,Ai,ht];exact .cons _ _ this
theorem iQ {α:Type}(es:Array α){pl:List Nat}(pm:pl.Perm (Bc es.size)):(pl.filterMap fun p=>es[p]?).Perm es.toList:=by
 have:=pm.filterMap fun p=>es[p]?;rw [filterMap_getElem?_range] at this;exact this
theorem mE {α:Type}(es:Array α) : ∀ {pl:List Nat},(∀ p ∈ pl,p < es.size)->∀ (i p:Nat),pl[i]?=some p->∃ e,es[p]?=some e/\(pl.filterMap fun p=>es[p]?)[i]?=some e
 | [],_,i,p,h=>by simp at h
 | q :: pl,hlt,i,p,h=>by
  have hq:=hlt q (Au ..);have eq:es[q]?=some es[q]:=Fj hq;rw [CQ,eq];cases i with
  | zero =>
   simp at h;subst h;exact ⟨_,eq,rfl⟩
  | succ i =>
   simp only [List.getElem?_cons_succ] at h ⊢;exact mE es (fun p hp=>hlt p (Al _ hp)) i p h
theorem places_len {α:Type}(es:Array α) : ∀ {pl:List Nat},(∀ p ∈ pl,p < es.size)->(pl.filterMap fun p=>es[p]?).length=pl.length
 | [],_=>rfl
 | q :: pl,hlt=>by
  have eq:es[q]?=some (es[q]'(hlt q (Au ..))):=Fj _;rw [CQ,eq];simp only [AG];rw [places_len es fun p hp=>hlt p (Al _ hp)]
theorem aAe {ks:List Str}{Q:Value->Shared->Prop}(hh:A.handled=none)(S:SetS P w s.heap a ks)
  (h : ∀ I fp St ord h' d',Walks P w A I fp [I] ord.length (IP ord) St->St 0 h'->(∀ b o,s.heap.get? b=some o->h'.get? b=some o)->(∀ b ∈ fp,s.heap.objs.size<=b\/b=a)->s.heap.objs.size<=I->EE ord (ord.map kv)->(ord.map kv).Perm ks->Q (.ref I) { s with heap:=h',drawn:=d' }) :
  wpAny (model P w) A (pyIter (.ref a)) Q E s:=by
 obtain ⟨⟨es,ep,t,ho,el,hf,hl,hp,pm⟩,nd,lt⟩:=S;have la:a < s.heap.objs.size:=Aq ho;refine wpAny_pyIter_slot ⟨_,ho,rfl⟩ F.slot_set_iter (Bq F.slot_set_iter ⟨_,ho,rfl⟩ nA ?_ (F.args_set_iter_1 _));show wpAny _ _ (AF.Frozenset.sizeOf a >>= _) _ _ s;refine Ab (Ab (Es ho rfl hf (Af ?_)));refine Ab (oM ho hf ?_)
 by_cases hd:(!byT w && (!t.plain && decide (es.size > 1)))=true
 ·rw [if_pos hd]
  refine Ab (nF es.size (Bc es.size) s _ List.length_range fun pl d' pp => ?_);refine Ab (AY ?_ ?hz)
  case hz =>
   show ((pl.map fun (p:Nat)=>rawInt p).toArray).size<=Aw;rw [Aj,Ag,pp.length_eq,List.length_range];have:es.size=ks.length:=by rw [<- BB,<- Ag (f:=fun e=>kv e.2),pm.length_eq]
   exact ER (by omega)
  refine Ab (wpAny_setEpoch_of (o:=setO es ep t) (Ac _ ho) rfl hf ?_);refine Ab (AY (Af ⟨_,rfl,"set_iterator",_,⟨_,Ah _ rfl,rfl⟩,dZ.lookup,?_⟩));have hlt : ∀ p ∈ pl,p < es.size:=fun p hp=>Dd.mp (pp.mem_iff.mp hp);have sz:=fun (h:Heap) (o:Obj)=>BE h o;refine h _ _ _ ((pl.filterMap fun p=>es[p]?).map (·.2)) _ d' (rO hh (a:=a) (tp:=s.heap.objs.size) ?_ ?_ hf pl _ (by rw [Ag,places_len es hlt]) fun i p hi => ?_) ⟨Ah _ rfl,Ac _ (Ac _ ho),Ac _ (Ah _ rfl)⟩ (fun b o e=>Ac _ (Ac _ e)) (fun b hb => ?_) ?_ ?_ ?_
  ·rw [sz]
   exact Av (Cj la)
  ·rw [sz]
   exact Av (Co _)
  ·obtain ⟨e,h1,h2⟩:=mE es hlt i p hi
   exact ⟨e.1,e.2,h1,by rw [As,h2]; rfl⟩
  ·simp only [AD,Ee,or_false] at hb
   rcases hb with rfl | rfl | rfl
   ·left
    rw [sz];exact Dh _
   ·exact .inr rfl
   ·exact .inl (Ak _)
  ·rw [sz]
   exact Dh _
  ·rw [Cg]
   exact kH el fun e he=>(iQ es pp).mem_iff.mp he
  ·rw [Cg]
   exact ((iQ es pp).map _).trans pm
 ·rw [if_neg hd]
  refine Ab (Af ?_);refine Ab (wpAny_setEpoch_of ho rfl hf ?_);refine Ab (AY (Af ⟨_,rfl,"set_iterator",_,⟨_,Ah _ rfl,rfl⟩,dZ.lookup,?_⟩));have fpk : ∀ b ∈ [s.heap.objs.size,a],s.heap.objs.size<=b\/b=a:=fun b hb=>by
   simp only [AD,Ee,or_false] at hb
   rcases hb with rfl | rfl
   ·exact .inl (Ak _)
   ·exact .inr rfl
  cases hb:byT w with
  | true =>
   have pk:=uY (w.params.setOrder a ep) es;refine h _ _ _ ((pickOrder (w.params.setOrder a ep) es).toList.map (·.2)) _ s.drawn (lQ hh (a:=a) (Av la) hf _ (fun _=>0) fun A E i s Q _ ho h=>wB hb hf ho ?_) ⟨Ah _ rfl,Ac _ ho⟩ (fun b o e=>Ac _ e) fpk (Ak _) ?_ ?_
   ·rw [As,Bm,Option.map_map] at h
    exact h
   ·rw [Cg]
    exact kH el fun e he=>pk.mem_iff.mp he
   ·rw [Cg]
    exact (pk.map _).trans pm
  | false =>
   have s1:es.size<=1:=by
    rcases hp with hp | hp
    ·rw [hb,hp] at hd
     by_cases z:es.size > 1
     ·exact absurd (by rw [decide_eq_true z]; rfl) hd
     ·omega
    ·omega
   rw [hb] at hl;refine h _ _ _ (es.toList.map (·.2)) _ s.drawn (lQ hh (a:=a) (Av la) hf _ (fun i=>if i=0 then 0 else t.place.getD 0 0+1) fun A E i s Q hi ho h=>zZ hb hf hl s1 ho ?_) ⟨Ah _ rfl,Ac _ ho⟩ (fun b o e=>Ac _ e) fpk (Ak _) ?_ ?_
   ·have hpl:t.place.size=es.size:=by
     simp only [BW.fits,Cc,beq_iff_eq] at hf;exact hf.1
    rw [Ag,BB] at hi;generalize t.place=pl at *
    obtain ⟨pl⟩:=pl;obtain ⟨es⟩:=es
    match es,pl,hpl,i,hi with
    | [],[],_,0,_=>exact h
    | [e],[p],_,0,_=>exact h
    | [e],[p],_,1,_ =>
     have e1:DP #[p] (p+1)=1:=by simp [DP,DP.go]
     simp only [Nat.one_ne_zero,if_false];show Q (match (#[e]:Array _)[DP #[p] (p+1)]?,(#[p]:Array _)[DP #[p] (p+1)]? with | some (_,x),some j=>some (x,j+1) | _,_=>none) s;rw [e1];exact h
    | _ :: _ :: _,_,_,_,_=>simp at s1
   ·rw [Cg]
    exact kH el fun e he=>he
   ·rw [Cg]
    exact pm
end
section
variable {P:Ax}{w:World}{A:Around}{E:Value->Shared->Prop}{s:Shared}{a:Addr}{ks:List Str}
theorem SetS.type (S:SetS P w s.heap a ks):s.TypeIs (.ref a) "set" := by
 obtain ⟨⟨es,ep,t,ho,_⟩,_,_⟩:=S;exact ⟨_,ho,rfl⟩
theorem aAf (hT:s.TypeIs (.ref a) "set")(h:Q false s):wpAny (model P w) A (AF.List.listLengthHint (.ref a)) Q E s:=by
 unfold AF.List.listLengthHint;refine Ab (wpAny_specialOf hT PySem.F.slot_set_len.lookup ?_);generalize hid:("set.__len__" : String)=id0
 wp_delta
 rw [show splitId id0=some ("set","__len__") from by subst hid; decide +kernel];subst hid;refine Ab (Fc (T := "set") (b:=true) hT (by rw [isSubtype_type]; kernel_rfl) ?_);refine wpAny_ite_split (fun z=>absurd z (by decide)) (fun _ => ?_);refine wpAny_ite_split (fun _ => ?_) (fun z=>absurd (by decide +kernel) z);exact Ab (DV hT (Af h))
theorem tD {c:Nat}(hh:A.handled=none)(S:SetS P w s.heap a ks)(ne:L ≠ a)(res:Value)(hL:s.heap.get? L=some { cls:=.type "list",data:=.seq #[] c })(hR : ∀ h' d' tk acc c' ks',(∀ b o,b ≠ L->s.heap.get? b=some o->h'.get? b=some o)->h'.get? L=some { cls:=.type "list",dict:=none,data:=.seq acc c',slots := #[] }->EE acc.toList ks'->ks'.Perm ks->R (.ok (.ret res)) { s with heap:=h',drawn:=d',toks:=tk }) :
  wpAny (model P w) A.in1 (EA (.ref L) (.ref a) res) (fun fin s'=>match fin with | .done f=>R (.ok f) s' | .again c'=>c'.quiet=true/\DJ (model P w) A c' R s') (fun e s'=>R (.error e) s') s:=by
 have lL:=Aq hL;have lt:=S.lt;unfold EA;refine Ab (DV (T := "set") S.type ?_);have h1:AF.List.listSameRef (.ref L) (.ref a)=false:=by simp [AF.List.listSameRef,ne]
 have h2:(CT "set" == CT "list")=false:=by decide
 have h3:(CT "set" == CT "tuple")=false:=by decide
 simp only [h1,h2,h3,Bool.or_false,CY,if_false];refine Ab (aAe (A:=A.in1) hh S fun I fp St ord h0 d' W st keep hfp hI hs pm => ?_);have hLf:L ∉ fp:=fun z=>by
  rcases hfp L z with z | z
  ·exact absurd lL (Nat.not_lt.mpr z)
  ·exact ne z
 have on:ord.length<=Aw:=by
  have:=pm.length_eq;rw [Ag] at this;exact ER (by omega)
 have hT0:({ s with heap:=h0,drawn:=d' }:Shared).TypeIs (.ref a) "set" := (S.at (h':=h0) fun o e=>keep _ o e).type (s:={ s with heap:=h0,drawn:=d' });have key : ∀ (h:Heap) (c1 tk:Nat),St 0 h->(∀ b o,b ≠ L->s.heap.get? b=some o->h.get? b=some o)->h.get? L=some { cls:=.type "list",data:=.seq #[] c1 } ->
   DJ (model P w) A (.builtin "list.extend.loop" ⟨[.ref L,.ref I,res],[]⟩) R { s with heap:=h,drawn:=d',toks:=tk }:=by
  intro h c1 tk hst hk hL1;refine codeAny_extend_loopS W.toS on L hLf res ord.length 0 _ #[] c1 rfl (BM _) hst hL1 (ItemsOf.nil _) fun s' acc c' hm hL' hacc => ?_;rw [Moved.eq_with hm];have ea:acc.toList=ord:=List.ext_getElem? fun i=>by
   rw [Bm];cases q:acc[i]? with
   | none =>
    have:acc.size<=i:=Array.getElem?_eq_none_iff.mp q;rw [Bp (by rw [<- hacc.1]; exact this)]
   | some v=>exact (hacc.2 i v q).symm
  refine hR s'.heap d' s'.toks acc c' _ (fun b o hb e=>hm.heap b o (fun z => ?_) (hk b o hb e)) hL' (by rw [ea]; exact hs) pm
  rcases AD.mp z with z | z
  ·exact hb z
  ·exact absurd (Aq e) (by rw [AE.mp z]; exact Nat.not_lt.mpr hI)
 have hL1:=keep _ _ hL;refine Ab (Br (aAf hT0 ?_));refine wpAny_ite_split (fun _ => ?_) (fun _=>Af ⟨ED PySem.F.plain_extend_loop _,key _ c s.toks st (fun b o _ e=>keep b o e) hL1⟩);refine Ab (Di ?_);refine Ab ?_;show wpAny _ _ (updateSeq L (·.push .none) >>= fun _=>updateSeq L (·.pop)) _ _ _;refine Ab (wpAny_updateSeq hL1 rfl ?_);have hL2:=BK (DS (·.push BP)) hL1 rfl;refine wpAny_updateSeq (hz:=by seq_fits) hL2 rfl ?_;have hL3:=BK (DS (·.pop)) hL2 rfl;refine Af ⟨ED PySem.F.plain_extend_loop _,key _ _ s.toks ?_ (fun b o hb e => ?_) hL3⟩
 ·refine W.frame 0 _ _ st fun b hb o e => ?_
  have hbL:b ≠ L:=fun h=>hLf (h ▸ hb);exact (AW _ _ (AM hbL)).trans ((AW _ _ (AM hbL)).trans e)
 ·exact (AW _ _ (AM hb)).trans ((AW _ _ (AM hb)).trans (keep b o e))
theorem pF (hh:A.handled=none)(S:SetS P w s.heap a ks)(h : ∀ h' d' tk acc ks',(∀ b o,s.heap.get? b=some o->h'.get? b=some o)->EE acc ks'->ks'.Perm ks->R acc { s with heap:=h',drawn:=d',toks:=tk }):wpAny (model P w) A (collect (.ref a)) R E s:=by
 obtain ⟨⟨es,ep,t,ho,_⟩,_,_⟩:=id S;have la:=Aq ho;unfold collect;refine Ab (wpAny_runValue (Cr entry_proto_collect' ?_));rw [CH PySem.F.plain_proto_collect _];show wpAny _ A.in1 (newList [] >>= fun l=>again (.builtin "list.__iadd__" ⟨[l,.ref a],[]⟩)) _ _ s;refine Ab (AY ?_);refine Af ⟨ED PySem.F.plain_list_iadd _,Cr entry_list_iadd' ?_⟩;rw [CH PySem.F.plain_list_iadd _];have hL:(s.heap.push { cls:=.type "list",data:=.seq ([]:List Value).toArray }).get? s.heap.objs.size=some { cls:=.type "list",data:=.seq #[] }:=Ah _ rfl;show wpAny _ A.in1 (EA (.ref s.heap.objs.size) (.ref a) (.ref s.heap.objs.size)) _ _ _;have key:=tD (P:=P) (w:=w) (A:=A) (s:={ s with heap:=s.heap.push { cls:=.type "list",data:=.seq ([]:List Value).toArray } }) (ks:=ks)
  (R:=fun (q:Result) (s':Shared)=>∃ h' d' tk acc c' ks',q = .ok (.ret (.ref s.heap.objs.size))/\s'={ s with heap:=h',drawn:=d',toks:=tk }/\(∀ b o,s.heap.get? b=some o->h'.get? b=some o)/\h'.get? s.heap.objs.size=some { cls:=.type "list",dict:=none,data:=.seq acc c',slots := #[] }/\EE acc.toList ks'/\ks'.Perm ks)
  hh (S.at fun o e=>Ac _ e) (Dq la) (.ref s.heap.objs.size) hL fun h' d' tk acc c' ks' k k2 k3 k4=>⟨h',d',tk,acc,c',ks',rfl,rfl,fun b o e=>k b o (Av (Aq e)) (Ac _ e),k2,k3,k4⟩
 refine BV key (fun fin s' x => ?_) fun e s' x => ?_
 ·cases fin with
  | done f =>
   obtain ⟨h',d',tk,acc,c',ks',e,rfl,k,k2,k3,k4⟩:=x;cases e;show wpAny _ A (load s.heap.objs.size >>= _) _ _ _;exact Ab (wpAny_load k2 (Af (h h' d' tk acc.toList ks' k k3 k4)))
  | again c1 =>
   refine ⟨x.1,Ck x.2 fun q s2 y => ?_⟩;obtain ⟨h',d',tk,acc,c',ks',rfl,rfl,k,k2,k3,k4⟩:=y;show wpAny _ A (load s.heap.objs.size >>= _) _ _ _;exact Ab (wpAny_load k2 (Af (h h' d' tk acc.toList ks' k k3 k4)))
 ·obtain ⟨_,_,_,_,_,_,e',_⟩:=x
  cases e'
theorem sorted_set (hh:A.handled=none)(S:SetS P w s.heap a ks)(h : ∀ (h':Heap) d' (tk:Nat) (acc:List Value) (ks':List Str),(∀ b o,s.heap.get? b=some o->h'.get? b=some o)->EE acc ks'->ks'.Perm ks ->
   wpAny (model P w) A.in1 (call (.builtin "list.sort") [.ref h'.objs.size]) (fun _ s'=>Q (.ref h'.objs.size) s') E { s with heap:=h'.push (seqObj "list" acc.toArray 0),drawn:=d',toks:=tk }) :
  wpAny (model P w) A (call (.builtin "sorted") [.ref a]) Q E s:=by
 have lt:=S.lt;refine Fi kind_sorted plain_sorted entry_sorted (args_sorted1 _) ?_;unfold AF.«sorted»;refine Ab (m:=checkCount "sorted" 1 1 _) (Af ?_);refine Ab (pF (A:=A.in1) hh S fun h' d' tk acc ks' keep hs pm => ?_);have hl:acc.length<=Aw:=by
  rw [EE.length hs,pm.length_eq];exact ER lt
 refine Ab (wpAny_newList ?_ hl);refine Ab (Br (BV (h h' d' tk acc ks' keep hs pm) (fun _ s' x => ?_) fun _ _ e=>e));exact Af ⟨_,rfl,x⟩
end
end SX
namespace L2
open PySem PySem.Spec PyProof.Rows
abbrev SetT (X:Cx)(a:Addr)(ks:List Str):HO:=.ext fun h=>SX.SetS X.prog X.w h a ks
section
variable {X:Cx}
theorem Inv.drawn {σ:St}(I:Inv X pins σ H s)(d':Drawn):Inv X pins σ H { s with drawn:=d' } :=
 ⟨I.ok,I.os,I.bare,I.base,I.loc,I.cell,I.free,I.freeC,I.pin,I.hok,I.len⟩
def aGs (X:Cx):List V->Hp->VK->Prop:=fun xs H Q=>∃ a,∃ ss:List Str,xs=[.ref a]/\SqL X.K H a (ss.map V.str)/\ss.length < 1000/\∀ p,H p=none->Q (.ref p) (upd H p (SetT X p (SX.ddl ss)))
theorem xT (hc:X.calm=true):eQ X (.type "set") (aGs X):=by
 intro pins s σ H xs us Q I r h;obtain ⟨a,ss,rfl,hq,h1,q⟩:=h;obtain ⟨u,rfl,rx⟩:=vals1 r;cases rx;obtain ⟨its,r',pl,hz⟩:=I.list hq;have hl:=r'.length;rw [Ag] at hl;refine SX.call_set_strs (I.ok.hd hc) pl.isList (by simpa using gC r') (by rw [Aj]; unfold EC; omega) fun h' tk S k => ?_;obtain ⟨⟨es,ep,t,ho,_⟩,_,_⟩:=id S;exact ⟨.ref s.heap.objs.size,_,I.laid (a:=s.heap.objs.size) (o:=SetT X s.heap.objs.size (SX.ddl ss)) (t':=tk) k (Ak _) ⟨S,⟨_,ho⟩,fun h1 h2 p k=>p.at k⟩,rfl,q _ (I.hok.fresh (Ak _))⟩
def zA (X:Cx):List V->Hp->VK->Prop:=fun xs H Q=>∃ a,∃ ks:List Str,xs=[.ref a]/\H a=some (SetT X a ks)/\ks.length < 64/\∀ (p:Addr) (ss':List Str),ss'.Perm ks->sortedS ss'=true->H p=none->Q (.ref p) (upd H p (.lst (ss'.map V.str)))
theorem gY (hc:X.calm=true):eQ X (.builtin "sorted") (zA X):=by
 intro pins s σ H xs us Q I r h;obtain ⟨a,ks,rfl,hH,h64,q⟩:=h;obtain ⟨u,rfl,rx⟩:=vals1 r;cases rx;obtain ⟨S,_,_⟩:=I.hok a _ hH;refine SX.sorted_set (I.ok.hd hc) S fun h' d' tk acc ks' keep hS pm => ?_;have hlen:=pm.length_eq;have hal:=EE.length hS;have hoL:(h'.push (seqObj "list" acc.toArray 0)).get? h'.objs.size=some (seqObj "list" acc.toArray 0):=Ah _ rfl;refine Bq slot_list_sort ⟨_,hoL,rfl⟩ entry_list_sort (list_sort_treeK strKind_oneLt hoL hS.keysOf (fun v₁ v₂ rest e=>keyKind_strs (by rw [<- e]; exact hS)) (by omega) fun st' hp hs=>⟨_,rfl,?_⟩) (args_list_sort _);obtain ⟨ss',a1,a2,a3⟩:=sorted_out_str hS hp hs;obtain ⟨e,he⟩ : ∃ e,(sortedHeap (h'.push (seqObj "list" acc.toArray 0)) h'.objs.size acc ((arrOf st').map (·.2))).get? h'.objs.size=some (seqObj "list" ((arrOf st').map (·.2)) e):=sortedHeap_at hoL;have I1:=(I.drawn d').kept (t':=tk) keep;refine ⟨.ref h'.objs.size,_,I1.laid (a:=h'.objs.size) (o:=.lst (ss'.map V.str)) (t':=tk) (fun b o hb' => ?_) (Ak _) (qW (its:=((arrOf st').map (·.2)).toList) (e:=e) (eD a1) ?_ (by rw [EM]; exact he)),rfl,q _ ss' (a2.trans pm) a3 (I1.hok.fresh (Ak _))⟩
 ·have lt:=Aq hb'
  rw [sortedHeap_old (Av lt) (by rw [BE]; exact Cj lt)];exact Ac _ hb'
 ·rw [Ag,a2.length_eq]
  exact bL (by omega)
end
end L2
namespace SX
open PySem PySem.Spec PyProof.Rows
section
variable {P:Ax}{w:World}{A:Around}{E:Value->Shared->Prop}{s:Shared}
theorem call_set_tup {l:Addr}(hh:A.handled=none)(hl:s.heap.IsTuple l its)(hi:EE its.toList ss)(hb:its.size+1 < EC)(h : ∀ (h':Heap) (tk:Nat),SetS P w h' s.heap.objs.size (ddl ss)->(∀ b o,s.heap.get? b=some o->h'.get? b=some o)->Q (.ref s.heap.objs.size) { s with heap:=h',toks:=tk }) :
  wpAny (model P w) A (call (.type "set") [.ref l]) Q E s:=by
 obtain ⟨c,tl,hmro⟩:=Ca.mro;have hmade:=Ca.made;have hsub:=Ca.sub;refine Ew (Fq ?_);show wpAny _ _ (callAny (.type "set") _) _ _ _;refine Af ⟨DD _ (by decide +kernel),Cr F.entry_type_call ?_⟩;rw [Around.under_plain (weight_type_call_type "set" [.ref l] []) rfl];have h1:=Ca.notType;have h2:=Ca.canCreate;have hct:=F.typeCall_set_1 (.ref l)
 repeat (any_goals (first | assumption | wp_step))
 refine Ck (wC (.ref l) (E:=E) (Q1:=fun obj s1=>obj = .ref s.heap.objs.size/\s1={ s with heap:=s.heap.push (eI w) }) ⟨rfl,rfl⟩) fun r s1 hr => ?_;cases r with
 | error e=>exact hr
 | ok fl =>
  cases fl with
  | ret obj =>
   obtain ⟨rfl,rfl⟩:=hr;have hS:(s.heap.push (eI w)).get? s.heap.objs.size=some (eI w):=Ah _ rfl;have hT:Shared.TypeIs { s with heap:=s.heap.push (eI w) } (.ref s.heap.objs.size) "set" := ⟨_,hS,rfl⟩;have hli:=Ca.init.lookup;have hbi:=Ca.init.bind (.ref s.heap.objs.size)
   repeat (any_goals (first | assumption | wp_step))
   refine Ck (Cv (R:=wants (fun r s2=>r = .none/\∃ h' tk,s2={ s with heap:=h',toks:=tk }/\SetS P w h' s.heap.objs.size (ddl ss)/\(∀ b o,s.heap.get? b=some o->h'.get? b=some o)) E) Ca.init.plain F.entry_set_init (check_set_init_1 hT ?_)) fun r2 s2 hr2 => ?_
   ·obtain ⟨ol,hol,hcl,nl,hdl⟩:=hl
    obtain ⟨ocls,odict,odata,oslots⟩:=ol;simp only at hcl hdl;subst hcl; subst hdl;have hol':(s.heap.push (eI w)).get? l=some { cls:=.type "tuple",dict:=odict,data:=.seq its nl,slots:=oslots }:=Ac _ hol;have hsls:=F.sub_tuple_set;have hslf:=F.sub_tuple_frozenset;have hne:(CT "tuple" == CT "dict")=false:=by decide
    have hl1:(s.heap.push (eI w)).IsTuple l its:=⟨_,hol',rfl,nl,rfl⟩;unfold AF.«set.__init__» noKeywords AF.Frozenset.updateFrom;generalize hPI:pyIter=PI
    wp_walk
    subst hPI;refine EB hl1 ?_;refine Ab (wpAny_runValue ?_);have hlS:l < s.heap.objs.size:=Aq hol;have hh3:A.in1.in1.in1.handled=none:=by simp [hh]
    have hz:(s.heap.push (eI w)).objs.size=s.heap.objs.size+1:=BE ..;have hneI:l ≠ (s.heap.push (eI w)).objs.size:=by
     rw [hz];exact Av (Cj hlS)
    have haf:s.heap.objs.size ∉ [(s.heap.push (eI w)).objs.size,l]:=by
     simp only [AD,Ee,or_false,not_or];rw [hz];exact ⟨Av (Co _),Dq hlS⟩
    have hlen:ss.length=its.size:=by rw [<- BB]; exact (EE.length hi).symm
    refine pP ((Walks.tuple hh3 _ l hneI its).toS) s.heap.objs.size haf ss hlen (fun i v hv=>oB hi i v (by rw [Bm]; exact hv)) hb (its.size - 0) 0 _ (by omega) (BM _) ⟨⟨_,Ah _ rfl,rfl,rfl⟩,(hl1.push _)⟩ ((qR s.heap).at fun o e=>Ac _ e) fun s' hm S' => ?_;obtain ⟨h',g',d',tk',os'⟩:=s';have eg:g'=s.gens:=hm.gens;have ed:d'=s.drawn:=hm.drawn;have eo:os'=s.os:=hm.os;subst eg; subst ed; subst eo;show wpAny _ _ _ _ _ _;refine Af ?_;show wpAny _ _ (ret BP) _ _ _;refine Af ⟨rfl,h',tk',rfl,S',fun b o e => ?_⟩;have hb0:=Aq e;refine hm.heap b o ?_ (Ac _ (Ac _ e));simp only [AD,Ee,or_false,not_or];rw [hz];exact ⟨Av hb0,Av (Cj hb0)⟩
   ·cases r2 with
    | error e=>exact hr2
    | ok f2 =>
     cases f2 with
     | ret r =>
      obtain ⟨rfl,h',tk,rfl,S',hk'⟩:=hr2
      repeat (any_goals (first | assumption | wp_step))
      exact h _ _ S' hk'
     | _=>exact hr2.elim
  | _=>exact hr.elim
end
end SX
namespace L2
open PySem PySem.Spec PyProof.Rows
section
variable {X:Cx}
def aGr (X:Cx):List V->Hp->VK->Prop:=fun xs H Q=>∃ a,∃ ss:List Str,xs=[.ref a]/\SqT X.K H a (ss.map V.str)/\ss.length < 1000/\∀ p,H p=none->Q (.ref p) (upd H p (SetT X p (SX.ddl ss)))
theorem xS (hc:X.calm=true):eQ X (.type "set") (aGr X):=by
 intro pins s σ H xs us Q I r h;obtain ⟨a,ss,rfl,hq,h1,q⟩:=h;obtain ⟨u,rfl,rx⟩:=vals1 r;cases rx;obtain ⟨its,r',pl,hz⟩:=I.tuple hq;have hl:=r'.length;rw [Ag] at hl;refine SX.call_set_tup (I.ok.hd hc) pl (by simpa using gC r') (by rw [Aj]; unfold EC; omega) fun h' tk S k => ?_;obtain ⟨⟨es,ep,t,ho,_⟩,_,_⟩:=id S;exact ⟨.ref s.heap.objs.size,_,I.laid (a:=s.heap.objs.size) (o:=SetT X s.heap.objs.size (SX.ddl ss)) (t':=tk) k (Ak _) ⟨S,⟨_,ho⟩,fun h1 h2 p k=>p.at k⟩,rfl,q _ (I.hok.fresh (Ak _))⟩
end
end L2
namespace K34
open PySem PySem.Spec PyProof.Rows L2 GM TM
theorem mC :PSs X ss (fun _ _ _=>False):=fun _ _ _ _ _ _ h=>h.elim
theorem jB {n j:Nat}(h:j < n):ixN n (j:Int)=some j:=by
 unfold ixN;rw [if_pos (by omega),if_pos (by omega),Cz]
def pW:Sp:=fun vs H Q _=>∃ (ph:Addr) (i:Nat) (h n:V) (us:List V),vs=[.ref ph,.int (i:Nat),h,n]/\H ph=some (.lst us)/\i < us.length/\us.length<=20/\∀ l z H',Same H H'->H l=none->H' z=some (.tup [h,n])->H' l=some (.lst (us.set i (.ref z)))->Q (.ref l) H'
inductive DeedO (CP:Addr):Str->List V->Addr->List (Str × V)->Prop where
 | pour (u1 u2 u3):DeedO CP "pour" [u1,u2,u3] CP (fs3 "one" "other" "part" u1 u2 u3)
abbrev kws:List Str:=["pour"]
def kW (K:Aa)(CP:Addr):Sp:=fun vs H Q E=>∃ b nb v n,vs=[.ref b,v,.int (n:Nat)]/\BnV H b nb/\RowV K H nb v true/\(∃ a x us,v = .ref a/\H a=some (.tup (.str x :: us))/\x ∈ kws) /\
 (∀ a x us p dx C fs H',v = .ref a->H a=some (.tup (.str x :: us))->Same H H'->H p=none->H' p=some (.ins C dx fs)->DeedO CP x us C fs->Q (.ref p) H')
structure MkD (P:Ax)(w:World)(K:Aa)(mg:Str->Option Value)(base:Heap)(C:Addr)(nm:Str)(ps:List Str)(sp:Sp):Prop where
 ex : ∃ f fd,Mk K C f/\FnOk P w K mg base CX0 4 f fd ps sp/\Binds K fd ps []/\mg nm=some (.ref C)
theorem RowV.word {K:Aa}{H:Hp}{nb:Nat}{v:V}(h:RowV K H nb v true) : ∃ a,v = .ref a/\((∃ u1 u2 u3,H a=some (.tup [.str "draw",u1,u2,u3]))\/(∃ u1 u2 u3,H a=some (.tup [.str "fill",u1,u2,u3]))\/(∃ u1 u2 u3,H a=some (.tup [.str "pour",u1,u2,u3]))\/(∃ u1,H a=some (.tup [.str "empty",u1]))\/∃ u1,H a=some (.tup [.str "rinse",u1])):=by
 cases h with
 | @big a x us ks βs _ ha hf ek n1 n2 =>
  refine ⟨a,rfl,?_⟩;have ul:=ek.1;have three : ∀ {l:List V},l.length=3->∃ u1 u2 u3,l=[u1,u2,u3]:=fun {l} e=>by
   match l,e with
   | [a,b,c],_=>exact ⟨a,b,c,rfl⟩
  have one : ∀ {l:List V},l.length=1->∃ u1,l=[u1]:=fun {l} e=>by
   match l,e with
   | [a],_=>exact ⟨a,rfl⟩
  unfold frm at hf;split at hf
  ·rename_i e
   cases hf;obtain ⟨u1,u2,u3,rfl⟩:=three ul;exact .inl ⟨u1,u2,u3,by rw [e] at ha; exact ha⟩
  split at hf
  ·rename_i e
   cases hf;obtain ⟨u1,u2,u3,rfl⟩:=three ul;exact .inr (.inl ⟨u1,u2,u3,by rw [e] at ha; exact ha⟩)
  split at hf
  ·rename_i e
   cases hf;obtain ⟨u1,u2,u3,rfl⟩:=three ul;exact .inr (.inr (.inl ⟨u1,u2,u3,by rw [e] at ha; exact ha⟩))
  split at hf
  ·rename_i e
   cases hf;obtain ⟨u1,rfl⟩:=one ul;exact .inr (.inr (.inr (.inl ⟨u1,by rw [e] at ha; exact ha⟩)))
  split at hf
  ·rename_i e
   cases hf;obtain ⟨u1,rfl⟩:=one ul;exact .inr (.inr (.inr (.inr ⟨u1,by rw [e] at ha; exact ha⟩)))
  ·cases hf
theorem sm0 {p:Addr}(h:Same H H1)(n:H1 p=none):H p=none:=by
 cases e:H p with
 | none=>rfl
 | some o=>rw [h _ _ e] at n; cases n
theorem wG {p dx C:Addr}(np:H p=none)(nd:H dx=none)(kp : ∀ b o,b ≠ p->upd (upd H dx (.own p)) p (.ins C dx []) b=some o->H' b=some o):Same H H':=fun b o e =>
 kp b o (bE e np) (by rw [aI (bE e np),aI (bE e nd)]; exact e)
section
variable {P:Ax}{w:World}{K:Aa}{mg:Str->Option Value}{base:Heap}{cP c0 c1 c2 c3 c4 c5 f0 f3 f4 CP:Addr}
theorem yX:FnScope ["bench","row","place"] ["bench","row","place"] (aH sDeedAt):=fnScOk (by decide +kernel)
theorem vY {f:Addr}{fd:Bf}(F:Fun K "deed_at" "deed_at" sDeedAt f fd)(cR:Cal P w K mg base CX0 5 "is_row" ["bench","row"] (oI K))
  (D3:MkD P w K mg base CP "Pour" ["self","one","other","part"] (aB6 CP "one" "other" "part")):FnOk P w K mg base (CXg P w) 6 f fd ["bench","row","place"] (kW K CP):=by
 refine F.okF yX (fun vs H Q E h => ?_) (fun cdv A outer s H vs Q E hr h => ?_)
 ·obtain ⟨_,_,_,_,rfl,_⟩:=h
  rfl
 ·obtain ⟨b,nb,v,n,rfl,bn,rv,kk,kG'⟩:=h
  obtain ⟨f3,g3,M3,F3,b3,m3⟩:=D3.ex;refine ⟨_,(aC (bA (eA (bY (aJ cR hr rfl aT (aA (pv 0) (aA (pv 1) aD)))))
    mC
    aP)
   (aC (bA (aQ cJ (pit 1 0) aS (aU _))
    mC
    aP)
   (aC (bA (aQ cJ (pit 1 0) aS (aU _))
    mC
    aP)
   (aC (bA (aQ cJ (pit 1 0) aS (aU _))
    (aE (aM (aCr M3 F3 hr rfl m3 b3 .nil aT (aA (pit 1 1) (aA (pit 1 2) (aA (pit 1 3) aD))))))
    aP)
   mC)))),?_⟩
  refine cut5 ?_
  intros
  refine ⟨_,rfl,_,rfl,b,nb,v,true,rfl,bn,rv,fun H1 s1=>⟨_,rfl,iteF ?_⟩⟩;obtain ⟨a,rfl,hw⟩:=rv.word;obtain ⟨a2,x2,us2,e2,h2,k2⟩:=kk;cases e2;have nok : ∀ {y:Str} {vs:List V},H a=some (.tup (.str y :: vs))->y ∈ kws:=fun {y vs} h=>by
   rw [h2] at h;cases h;exact k2
  rcases hw with ⟨u1,u2,u3,ha⟩ | ⟨u1,u2,u3,ha⟩ | ⟨u1,u2,u3,ha⟩ | ⟨u1,ha⟩ | ⟨u1,ha⟩
  ·exact absurd (nok ha) (by decide +kernel)
  ·exact absurd (nok ha) (by decide +kernel)
  ·have sq:=SqT.of (K:=K) (s1 _ _ ha)
   refine ⟨a,_,_,rfl,sq,rfl,rfl,_,rfl,iteF ⟨a,_,_,rfl,sq,rfl,rfl,_,rfl,iteF ⟨a,_,_,rfl,sq,rfl,rfl,_,rfl,iteT ⟨a,_,_,rfl,sq,rfl,a,_,_,rfl,sq,rfl,a,_,_,rfl,sq,rfl,fun x dx nx ndx ne=>⟨x,dx,u1,u2,u3,rfl,aB,fun H' kp hx=>⟨rfl,?_⟩⟩⟩⟩⟩⟩;exact kG' a _ _ x dx _ _ H' rfl ha (s1.trans (wG nx ndx kp)) (sm0 s1 nx) hx (.pour u1 u2 u3)
  ·exact absurd (nok ha) (by decide +kernel)
  ·exact absurd (nok ha) (by decide +kernel)
theorem aAx:FnScope ["phials","phial","holds","names","behind"] ["phials","phial","holds","names"] (aH sWithPh):=fnScOk (by decide +kernel)
theorem aC2 (F:Fun K "with_phial" "with_phial" sWithPh f fd)(T:Txt mg):FnOk P w K mg base CX0 1 f fd ["phials","phial","holds","names"] pW:=by
 refine F.ok aAx (fun vs H Q E h => ?_) (fun cdv A outer s H vs Q E hr h => ?_)
 ·obtain ⟨_,_,_,_,_,rfl,_⟩:=h
  rfl
 ·obtain ⟨ph,i,h,n,us,rfl,hp,il,u20,k⟩:=h
  refine ⟨_,(aC (aL (i:=4) aAx.nd rfl (Or.inl rfl) (aX bV rfl T.list' eG (aA (pv 0) aD)))
   (aC (gQ (aW (aA (pv 2) (aA (pv 3) aD))) (mF (pv 4) (pv 1) set_list))
   (aE (aM (pv 4))))),?_⟩
  refine cut3 ?_
  intros
  refine ⟨_,rfl,ph,_,rfl,.inl (SqL.of hp),fun l nl => ?_⟩;have sl:=Same.upd (o:=.lst us) nl;refine ⟨_,rfl,_,rfl,zLn2,fun z nz => ?_⟩;have sz:=Same.upd (o:=.tup [h,n]) nz;have lz:l ≠ z:=fun e=>by rw [<- e,aB] at nz; cases nz
  refine ⟨_,rfl,_,rfl,l,us,(i:Int),i,rfl,rfl,sz _ _ aB,jB il,?_⟩;refine ⟨_,rfl,k l z _ (fun b o e => ?_) nl ?_ aB⟩
  ·rw [aI (bE e nl)]
   exact (sl.trans sz) _ _ e
  ·rw [aI lz.symm]
   exact aB
end
end K34
namespace HT
open PySem PySem.Spec PyProof.Rows
section
variable {prog:Ax}{w:World}{A:Around}{E:Value->Shared->Prop}{s:Shared}
end
end HT
namespace L2
open PySem PySem.Spec PyProof.Rows
section
variable {X:Cx}
def rRepTA (K:Aa):R2:=fun x y H Q=>∃ a k xs,x = .ref a/\y = .int k/\SqT K H a xs/\xs ≠ []/\1<=k/\k<=1000/\xs.length<=1000/\(k=1->Q (.ref a) H)/\(2<=k->∀ p,H p=none->Q (.ref p) (upd H p (.tup (CL k.toNat xs).flatten)))
def rCatTB (K:Aa):R2:=fun x y H Q=>∃ a b xs ys,x = .ref a/\y = .ref b/\SqT K H a xs/\H b=some (.tup ys)/\ys ≠ []/\xs.length+ys.length<=Aw/\∀ p H',Same H H'->H' p=some (.tup (xs ++ ys))->Q (.ref p) H'
end
end L2
namespace K34
open PySem PySem.Spec PyProof.Rows L2 GM TM
abbrev PF:Type:=(Str->Int) × List Str
def PhA (H:Hp)(M:Int)(v:V)(d:PF):Prop:=∃ (a m n:Addr) (us:List V) (ys:List (Str × Int × Int)),v = .ref a/\H a=some (.tup [.ref m,.ref n])/\H m=some (.tup us)/\PrL H us ys/\IsMx M d.1 ys/\H n=some (.tup (d.2.map V.str))
theorem PhA.keep {M:Int}(s:Same H H')(h:PhA H M v d):PhA H' M v d:=by
 obtain ⟨a,m,n,us,ys,e,h1,h2,h3,h4,h5⟩:=h;exact ⟨a,m,n,us,ys,e,s _ _ h1,s _ _ h2,h3.keep s.tk,h4,s _ _ h5⟩
structure StV (H:Hp)(l:Addr)(M:Int)(S:List PF):Prop where
 ex : ∃ vs,H l=some (.lst vs)/\vs.length=S.length/\∀ (i:Nat) v d,vs[i]?=some v->S[i]?=some d->PhA H M v d
theorem StV.keep {l:Addr}{M:Int}(s:Same H H')(h:StV H l M S):StV H' l M S:=by
 obtain ⟨vs,h1,h2,h3⟩:=h;exact ⟨vs,s _ _ h1,h2,fun i v d hv hd=>(h3 i v d hv hd).keep s⟩
theorem StV.get {l:Addr}{M:Int}{i:Nat}(h:StV H l M S)(hd:S[i]?=some d) : ∃ vs v,H l=some (.lst vs)/\vs.length=S.length/\vs[i]?=some v/\PhA H M v d:=by
 obtain ⟨vs,h1,h2,h3⟩:=h;obtain ⟨v,hv⟩ : ∃ v,vs[i]?=some v:=⟨_,Ae (by rw [h2]; exact (Ad.mp hd).1)⟩;exact ⟨vs,v,h1,h2,hv,h3 i v d hv hd⟩
theorem StV.put {l l' z:Addr}{M:Int}{i:Nat}(h:StV H l M S)(hl:H l=some (.lst vs))(s:Same H H')(hl':H' l'=some (.lst (vs.set i (.ref z))))(hz:PhA H' M (.ref z) d):StV H' l' M (S.set i d):=by
 obtain ⟨vs',h1,h2,h3⟩:=h;rw [hl] at h1;cases h1;refine ⟨_,hl',by rw [Cn,Cn]; exact h2,fun j v e hv he => ?_⟩
 by_cases ij:i=j
 ·subst ij
  have lt:i < vs.length:=by
   have:=(Ad.mp hv).1;rw [Cn] at this;exact this
  rw [BY lt] at hv;rw [BY (by omega)] at he;cases hv;cases he;exact hz
 ·rw [BR ij] at hv he
  exact (h3 j v e hv he).keep s
def tot (ws:List Str)(f:Str->Int):Int:=(ws.map f).sum
structure Wss (ws:List Str):Prop where
 nd:ws.Nodup
 l:ws.length<=6
 w : ∀ x ∈ ws,Wr x
structure Okf (ws:List Str)(d:PF):Prop where
 nn : ∀ y,0<=d.1 y
 nin : ∀ y ∈ d.2,y ∈ ws
 srt:d.2.Pairwise ltS
 inw : ∀ y,d.1 y ≠ 0->y ∈ ws
structure NmU (a b c:List Str):Prop where
 srt:c.Pairwise ltS
 mem : ∀ y,y ∈ c ↔ y ∈ a\/y ∈ b
theorem eX {c:List Str}(h:c.Pairwise ltS):c.Nodup:=h.imp fun {a b} h=>aDi h
theorem aDg {c c':List Str}(h:c.Pairwise ltS)(h':c'.Pairwise ltS)(m : ∀ y,y ∈ c ↔ y ∈ c'):c=c':=by
 have p:c.Perm c':=(List.perm_ext_iff_of_nodup (eX h) (eX h')).mpr m;exact p.eq_of_pairwise (le:=leS) (fun x y _ _ h1 h2=>TM.ext (EJ h1 h2)) (h.imp fun h=>List.le_of_lt h) (h'.imp fun h=>List.le_of_lt h)
theorem NmU.uniq {a b c c':List Str}(h:NmU a b c)(h':NmU a b c'):c=c':=aDg h.srt h'.srt fun y=>(h.mem y).trans (h'.mem y).symm
theorem aBd (p:ss.Perm (SX.ddl (a ++ b)))(so:sortedS ss=true):NmU a b ss:=by
 have nd:ss.Nodup:=p.nodup_iff.mpr (SX.ddl_nodup _);refine ⟨?_,fun y=>by rw [p.mem_iff,SX.ddl_mem,Bi]⟩;refine (List.pairwise_and_iff.mpr ⟨iL so,nd⟩).imp fun {x y} h => ?_;exact Bl fun z=>h.2 (TM.ext (EJ h.1 (List.not_lt.mp z)))
theorem iF {M:Int}{f:Str->Int}(nd:ws.Nodup)(mx:IsMx M f ys)(h : ∀ y,f y ≠ 0->y ∈ ws):sumN M ys=tot ws f:=by
 rw [<- kA nd fun x hx=>h x.1 ((mx.mem x.1).mp (Cd hx))];unfold tot;exact congrArg List.sum (Eg fun y _=>mx.nw y)
theorem wF {ws:List Str}{M:Int}{f:Str->Int}{ys:List (Str × Int × Int)}(mx:IsMx M f ys)(h : ∀ y,f y ≠ 0->y ∈ ws):ys.length<=ws.length:=by
 have:=mx.nd.length_le_of_subset (l₂:=ws) fun y hy=>h y ((mx.mem y).mp hy);rwa [Ag] at this
def BadO (c:Addr)(n i:Nat)(M N:Int)(rb:Int × Int)(H:Hp)(E:XK):Prop:=∀ a t b dx H',Same H H'->H' a=some (.tup [.int t,.int b])->Fr (M*rb.2) t b (N*rb.2 - rb.1*M)->H' dx=some (xdE dx [("over",.ref a),("phial",.int (i:Nat)),("place",.int (n:Nat))])->E (.ref c) (some dx) H'
theorem BadO.mono {n i:Nat}{M N:Int}{rb:Int × Int}(s:Same H H1)(h:BadO c n i M N rb H E):BadO c n i M N rb H1 E:=fun a t b dx H' s'=>h a t b dx H' (s.trans s')
structure MoreIn (K:Aa)(H:Hp)(b r q l cm nm:Addr)(rs us:List V)(ps:List (Str × Str))(rbs:List (Int × Int))(ws:List Str)(M:Int)(S:List PF)(i:Nat)(d:PF)(rb:Int × Int)(cus:List V)(cs:List (Str × Int × Int))(xs:List Str):Prop where
 bn:Bn H b r q rs us ps
 rm:RmL H rs rbs
 ww:Wss ws
 st:StV H l M S
 sl:S.length=rs.length
 ok : ∀ d ∈ S,Okf ws d
 di:S[i]?=some d
 rbi:rbs[i]?=some rb
 hc:H cm=some (.tup cus)
 pc:PrL H cus cs
 oc:Over M cs
 cw : ∀ x ∈ cs,x.1 ∈ ws
 cl:cs.length<=6
 hn:H nm=some (.tup (xs.map V.str))
 xw : ∀ x ∈ xs,x ∈ ws
 xl:xs.length<=20
 m0:0 < M
 bm:Bt 2900 M
 bs:Bt 2900 (tot ws (fun y=>d.1 y+NW M cs y))
def uB (K:Aa)(c3 c4:Addr):Sp:=fun vs H Q E=>∃ b r q l cm nm rs us ps rbs ws M S i d rb cus cs xs n,vs=[.ref b,.ref l,.int (i:Nat),.ref cm,.ref nm,.int (n:Nat)]/\n < 1000/\MoreIn K H b r q l cm nm rs us ps rbs ws M S i d rb cus cs xs /\
 (rb.1*M < tot ws (fun y=>d.1 y+NW M cs y)*rb.2->BadO c3 n i M (tot ws (fun y=>d.1 y+NW M cs y)) rb H E) /\
 (¬ rb.1*M < tot ws (fun y=>d.1 y+NW M cs y)*rb.2->∀ nm',NmU d.2 xs nm'->(∀ pa,pairOf us ps nm' = .ref pa->BadE c4 [("pair",.ref pa),("phial",.int (i:Nat)),("place",.int (n:Nat))] H E) /\
  (pairOf us ps nm' = .non->∀ l' H',Same H H'->H l'=none->StV H' l' M (S.set i (fun y=>d.1 y+NW M cs y,nm'))->Q (.ref l') H'))
theorem fU  : ∀ {us:List V} {ps:List (Str × Str)} {xs:List Str},PsT H us ps->pairOf us ps xs = .non\/∃ pa p,pairOf us ps xs = .ref pa/\p ∈ ps/\H pa=some (.tup [.str p.1,.str p.2])
 | [],ps,xs,_=>.inl gJ
 | u :: us,[],xs,h=>.inl rfl
 | u :: us,p :: ps,xs,h=>by
  unfold pairOf;split
  ·obtain ⟨q,e,hq⟩:=h.2 0 u p rfl rfl
   exact .inr ⟨q,p,e,Au ..,hq⟩
  ·rcases fU (us:=us) (ps:=ps) (xs:=xs) ⟨by have:=h.1; simpa using this,fun i u p hu hp=>h.2 (i+1) u p (by simpa using hu) (by simpa using hp)⟩ with e | ⟨pa,p',e1,e2,e3⟩
   ·exact .inl e
   ·exact .inr ⟨pa,p',e1,Al _ e2,e3⟩
theorem aBq:Cb "set" = some (.type "set"):=by decide +kernel
theorem catT {K:Aa}{H:Hp}{a b:Addr}{xs ys:List Str}{Q:VK}(ha:H a=some (.tup (xs.map V.str)))(hb:H b=some (.tup (ys.map V.str)))(hz:xs.length+ys.length<=100)(h : ∀ p H',Same H H'->SqT K H' p ((xs ++ ys).map V.str)->Q (.ref p) H'):uO K (.ref a) (.ref b) H Q:=by
 by_cases e:xs=[]
 ·subst e
  exact .inl ⟨a,b,_,rfl,rfl,SqT.of ha,SqT.of hb,h b H (Same.refl _) (SqT.of hb)⟩
 ·refine .inr ⟨a,b,_,_,rfl,rfl,SqT.of ha,SqT.of hb,(fun z=>e (List.map_eq_nil_iff.mp z)),by rw [Ag,Ag]; exact bL (by omega),fun z => ?_,fun z p np => ?_⟩
  ·have:ys=[]:=List.map_eq_nil_iff.mp z
   subst this;exact h a H (Same.refl _) (by rw [BZ]; exact SqT.of ha)
  ·exact h p _ (Same.upd np) (by rw [Bo]; exact SqT.of aB)
theorem wX {t b:Int}(h:Rm t b):Fr b t b t:=⟨⟨by have:=h.1; omega,h.2,h.3⟩,by rw [BO]⟩
theorem Tw.flip {K:Aa}{H:Hp}{p q:Addr}{t1 b1 t2 b2:Int}(h:Tw K H p q t1 b1 t2 b2):Tw K H q p t2 b2 t1 b1:=⟨h.sq,h.sp,h.a2,h.a1,h.st2,h.sb2,h.st1,h.sb1⟩
theorem iG (g h:Str->Int) : ∀ ws:List Str,tot ws (fun y=>g y+h y)=tot ws g+tot ws h
 | []=>rfl
 | y :: r=>by
  have ih:=iG g h r;unfold tot at ih ⊢;rw [Ai,Ai,Ai,AI,AI,AI,ih];omega
section
variable {P:Ax}{w:World}{K:Aa}{mg:Str->Option Value}{base:Heap}{cP c0 c1 c2 c3 c4 c5 f0 f3 f4:Addr}
abbrev aHk:List Str:=["bench","phials","phial","comes","names","place","holds","much","room","names_behind","pair"]
theorem jL:FnScope aHk ["bench","phials","phial","comes","names","place"] (aH sWithMore):=fnScOk (by decide +kernel)
theorem aC6 {f:Addr}{fd g3 g4:Bf}(F:Fun K "with_more" "with_more" sWithMore f fd)(T:Txt mg)(R:ErB K mg cP c0 c1 c2 c3 c4 c5 f0 f3 f4)
  (F3:FnOk P w K mg base CX0 1 f3 g3 ["self","place","phial","over"] (spI3 c3)) (b3:Binds K g3 ["self","place","phial","over"] []) (F4:FnOk P w K mg base CX0 1 f4 g4 ["self","place","phial","pair"] (aB7 K c4)) (b4:Binds K g4 ["self","place","phial","pair"] [])
  (cT:Cal P w K mg base CX0 5 "together" ["one","other"] (aB4 K)) (cW:Cal P w K mg base CX0 5 "whole" ["one"] (kJ K)) (cL:Cal P w K mg base CX0 5 "less" ["one","other"] (gO K)) (cM:Cal P w K mg base CX0 5 "minus" ["one","other"] (kQ K)) (cP':Cal P w K mg base CX0 5 "pair_in" ["bench","names"] (kN K)) (cH:Cal P w K mg base CX0 5 "with_phial" ["phials","phial","holds","names"] pW) :
  FnOk P w K mg base (CXg P w) 6 f fd ["bench","phials","phial","comes","names","place"] (uB K c3 c4):=by
 refine F.okF jL (fun vs H Q E h => ?_) (fun cdv A outer s H vs Q E hr h => ?_)
 ·obtain ⟨_,_,_,_,_,_,_,_,_,_,_,_,_,_,_,_,_,_,_,_,rfl,_⟩:=h
  rfl
 ·obtain ⟨b,r,q,l,cm,nm,rs,us,ps,rbs,ws,M,S,i,d,rb,cus,cs,xs,n,rfl,hn,m,kS,kG⟩:=h
  refine ⟨_,(aC (aL (i:=6) jL.nd rfl (Or.inl rfl) (aJ cT hr rfl aT (aA (bU eJ (bU bG (pv 1) (pv 2) (fun _ _=>rfl)) aG (fun _ _=>rfl)) (aA (pv 3) aD))))
   (aC (aL (i:=7) jL.nd rfl (Or.inl rfl) (aJ cW hr rfl aT (aA (pv 6) aD)))
   (aC (aL (i:=8) jL.nd rfl (Or.inl rfl) (bU eJ (pit 0 0) (pv 2) (fun _ _=>rfl)))
   (aC (bA (bY (aJ cL hr rfl aT (aA (pv 8) (aA (pv 7) aD))))
    (aE (iP (k:=1) rfl xe_f rfl (hr.mono (by decide)) rfl R.r3.m (R.r3.e "place" (by simp)).i F3 b3 (aA (pv 5) (aA (pv 2) (aA (aJ cM hr rfl aT (aA (pv 7) (aA (pv 8) aD))) aD)))))
    aP)
   (aC (aL (i:=9) jL.nd rfl (Or.inl rfl) (aX bH rfl T.tup' cZ (aA (aR (gY rfl) rfl T.sorted' boot_sorted (aA (aX (xS rfl) rfl T.set' aBq (aA (aK qQ (bU eJ (bU bG (pv 1) (pv 2) (fun _ _=>rfl)) aG (fun _ _=>rfl)) (pv 4)) aD)) aD)) aD)))
   (aC (aL (i:=10) jL.nd rfl (Or.inl rfl) (aJ cP' hr rfl aT (aA (pv 0) (aA (pv 9) aD))))
   (aC (bA (aQ oQ (pv 10) dP (aU _))
    (aE (iP (k:=1) rfl xe_f rfl (hr.mono (by decide)) rfl R.r4.m (R.r4.e "place" (by simp)).i F4 b4 (aA (pv 5) (aA (pv 2) (aA (pv 10) aD)))))
    aP)
   (aE (aM (aJ cH hr rfl aT (aA (pv 1) (aA (pv 2) (aA (pv 6) (aA (pv 9) aD)))))))))))))),?_⟩
  refine cut8 ?_
  intros
  obtain ⟨vs,v,hl,vl,hv,a,mm,nn,ms,ys,rfl,ha,hm,pr,mx,hnn⟩:=m.st.get m.di;have okd:=m.ok d (Ay m.di);have M0:=m.m0;have oy:Over M ys:=mx.over;have tS:sumN M ys=tot ws d.1:=iF m.ww.nd mx okd.inw;have cS:sumN M cs=tot ws (NW M cs):=(kA m.ww.nd m.cw).symm;have tA:tot ws (fun y=>d.1 y+NW M cs y)=sumN M ys+sumN M cs:=by rw [iG,tS,cS]
  have nY:=cQ M0 oy;have nC:=cQ M0 m.oc;have yl:=wF mx okd.inw;have wl:=m.ww.l;have bT:=m.bs;rw [tA] at bT;refine ⟨_,rfl,_,rfl,l,_,(i:Int),.ref a,rfl,rfl,SqL.of hl,bK hv,a,_,0,.ref mm,rfl,rfl,SqT.of ha,rfl,_,rfl,mm,cm,ms,cus,ys,cs,M,rfl,SqT.of hm,pr,SqT.of m.hc,m.pc,by have:=m.cl; omega,oy,m.oc,M0,m.bm.mono (by decide),by rw [oA]; exact bT.mono (by decide),fun hd zs zy H1 s1 hhd pz mz => ?_⟩;have mz':IsMx M (fun y=>d.1 y+NW M cs y) zy:=mz.congr fun y=>by rw [mx.nw]
  have okz : ∀ y,d.1 y+NW M cs y ≠ 0->y ∈ ws:=fun y hy=>by
   by_cases e:d.1 y=0
   ·have:NW M cs y ≠ 0:=by omega
    by_cases z:y ∈ cs.map (·.1)
    ·obtain ⟨x,hx,rfl⟩:=AJ.mp z
     exact m.cw x hx
    ·exact absurd (eP z) this
   ·exact okd.inw y e
  have zS:sumN M zy=tot ws (fun y=>d.1 y+NW M cs y):=iF m.ww.nd mz' okz;have oz:Over M zy:=mz'.over;have nZ:=cQ M0 oz;have bZ:=m.bs;rw [<- zS] at bZ kS kG;refine ⟨_,rfl,hd,zs,zy,M,rfl,SqT.of hhd,pz,oz,M0,m.bm.mono (by decide),fun j=>(bZ.le (cQ M0 (oz.take j)) (fI M0 j oz)).mono (by decide),fun mu t b' H2 s2 hmu fr => ?_⟩;have s02:=s1.trans s2;obtain ⟨t_le,b_le⟩:=dM M0 fr;have bb:=fr.am.b1;have bt:Bt 4000 t:=(bZ.le fr.am.t0 t_le).mono (by decide);have bb':Bt 4000 b':=(m.bm.le (by omega) b_le).mono (by decide);obtain ⟨rv,hrv⟩ : ∃ rv,rs[i]?=some rv:=⟨_,Ae (by rw [<- m.sl]; exact (Ad.mp m.di).1)⟩;obtain ⟨rb',hrb',ra,rfl,hra,rmm⟩:=m.rm.get hrv;rw [m.rbi] at hrb';cases hrb';have bn2:=m.bn.keep s02;have i16:i < 16:=by
   have h1:=(Ad.mp hrv).1;have h2:=m.bn.l16;omega
  have tw:Tw K H2 ra mu rb.1 rb.2 t b':=⟨SqT.of (s02 _ _ hra),hmu,⟨by have:=rmm.t1; omega,rmm.b1,rmm.g⟩,fr.am,rmm.st.mono (by decide),rmm.sb.mono (by decide),bt,bb'⟩;have frr:Fr rb.2 rb.1 rb.2 rb.1:=wX rmm;refine ⟨b,_,_,rfl,SqT.of bn2.hp,rfl,_,rfl,r,_,(i:Int),.ref ra,rfl,rfl,SqT.of bn2.hr,bK hrv,?_⟩;refine ⟨_,rfl,_,rfl,ra,mu,rb.1,rb.2,t,b',rfl,tw,_,rfl,?_⟩;rw [wY M0 fr];refine ite2 (fun c => ?_) (fun c => ?_)
  ·have c':rb.1*M < sumN M zy*rb.2:=of_decide_eq_true c
   obtain ⟨le,fo⟩:=fY (M1:=M) (M2:=rb.2) M0 (by have:=rmm.b1; omega) fr frr (by omega);refine ⟨_,rfl,_,rfl,_,rfl,_,rfl,mu,ra,t,b',rb.1,rb.2,rfl,tw.flip,le,fun po H3 s3 hpo => ?_⟩;exact aEw hn (by omega) fun dx H' s' hd=>kS c' po _ _ dx H' ((s02.trans s3).trans s') (s' _ _ hpo) fo hd
  ·have c' : ¬ rb.1*M < sumN M zy*rb.2:=of_decide_eq_false (by simpa using c)
   refine ⟨_,rfl,_,rfl,l,_,(i:Int),.ref a,rfl,rfl,SqL.of (s02 _ _ hl),bK hv,a,_,1,.ref nn,rfl,rfl,SqT.of (s02 _ _ ha),rfl,_,rfl,?_⟩;have nl:d.2.length<=6:=AX ((eX okd.srt).length_le_of_subset okd.nin) wl;refine catT (s02 _ _ hnn) (s02 _ _ m.hn) (by have:=m.xl; omega) fun pc H3 s3 hpc => ?_;have ll:(d.2 ++ xs).length<=30:=by rw [AB]; have:=m.xl; omega
   refine ⟨pc,_,rfl,hpc,by omega,fun p2 np2=>⟨p2,_,rfl,aB,DF (SX.ddl_len _) (by omega),fun p3 nm' pm so np3=>⟨p3,_,rfl,.inl ⟨SqL.of aB,fun p4 np4 => ?_⟩⟩⟩⟩;have u:=aBd pm so;have s4:=Same.upd (o:=.tup (nm'.map V.str)) np4;have s3':=((Same.upd np2).trans (Same.upd (o:=.lst (nm'.map V.str)) np3)).trans s4;have s04:=(s02.trans s3).trans s3';have bn4:=m.bn.keep s04;refine ⟨_,rfl,_,rfl,b,r,q,rs,us,ps,p4,nm',rfl,bn4,SqT.of aB,?_⟩;obtain ⟨kT,kO⟩:=kG c' nm' u
   rcases fU (xs:=nm') m.bn.pt with e | ⟨pa,p,e,pmem,hpa⟩
   ·rw [e]
    refine ⟨_,rfl,rfl,_,rfl,iteF ?_⟩;have s14:=(s2.trans s3).trans s3';have il:=(Ad.mp hv).1;have l16:=m.bn.l16;have sl:=m.sl;refine ⟨_,rfl,_,rfl,_,rfl,_,rfl,l,i,.ref hd,.ref p4,vs,rfl,s04 _ _ hl,il,by omega,fun l' z H5 s5 nl' hz hl' => ?_⟩;exact kO e l' H5 (s04.trans s5) (sm0 s04 nl') (m.st.put hl (s04.trans s5) hl' ⟨z,hd,p4,zs,zy,rfl,hz,(s14.trans s5) _ _ hhd,pz.keep (s14.trans s5).tk,mz',s5 _ _ aB⟩)
   ·rw [e]
    refine ⟨_,rfl,rfl,_,rfl,iteT ?_⟩;have g:=m.bn.g.ok p pmem;exact ⟨_,rfl,_,rfl,_,rfl,aCi hn (by omega) (s04 _ _ hpa) g.1 g.2.1 ((kT pa e).mono s04)⟩
end
structure BS (H:Hp)(b r q:Addr)(rs us:List V)(ps:List (Str × Str))(rbs:List (Int × Int))(ws:List Str):Prop where
 bn:Bn H b r q rs us ps
 rm:RmL H rs rbs
 ww:Wss ws
theorem BS.keep {b r q:Addr}(s:Same H H')(h:BS H b r q rs us ps rbs ws):BS H' b r q rs us ps rbs ws:=⟨h.bn.keep s,h.rm.keep s.tk,h.ww⟩
structure Sok (ws:List Str)(rbs:List (Int × Int))(M:Int)(S:List PF)(β:Nat):Prop where
 m0:0 < M
 bm:Bt β M
 sl:S.length=rbs.length
 ok : ∀ d ∈ S,Okf ws d
 fit : ∀ (i:Nat) d rb,S[i]?=some d->rbs[i]?=some rb->tot ws d.1*rb.2<=rb.1*M
def scl (b:Int)(S:List PF):List PF:=S.map fun d=>(fun y=>d.1 y*b,d.2)
theorem fE {b:Int}{i:Nat}(h:S[i]?=some d):(scl b S)[i]?=some (fun y=>d.1 y*b,d.2):=by
 unfold scl;rw [As,h];rfl
theorem eS (f:Str->Int)(b:Int) : ∀ ws:List Str,tot ws (fun y=>f y*b)=tot ws f*b
 | []=>by simp [tot]
 | y :: r=>by
  have ih:=eS f b r;unfold tot at ih ⊢;rw [Ai,Ai,AI,AI,ih,Int.add_mul]
theorem iC {M1 M2 t b n1 n2:Int}(h:Fr M1 t b n1)(h1:0 < M1)(e:n1*M2=n2*M1):Fr M2 t b n2:=by
 refine ⟨h.am,BC (show M1 ≠ 0 by omega) ?_⟩;have:=h.e
 calc t*M2*M1=t*M1*M2:=by rw [AR]
  _=n1*b*M2:=by rw [this]
  _=n1*M2*b:=by rw [AR]
  _=n2*M1*b:=by rw [e]
  _=n2*b*M1:=by rw [AR]
theorem IsMx.scale {M1 M2:Int}{f1 f2:Str->Int}(h:IsMx M1 f1 ys)(h1:0 < M1)(h2:0 < M2)(e : ∀ y,f1 y*M2=f2 y*M1):IsMx M2 f2 ys:=by
 refine ⟨h.pw,h.nd,fun y => ?_,fun p hp=>iC (h.fr p hp) h1 (e _)⟩;rw [h.mem];have q:=e y;constructor
 ·intro n z
  rw [z,BN] at q
  rcases Fd.mp q with w | w
  ·exact n w
  ·omega
 ·intro n z
  rw [z,BN] at q
  rcases Fd.mp q.symm with w | w
  ·exact n w
  ·omega
theorem StV.scale {l:Addr}{M b:Int}(h:StV H l M S)(M0:0 < M)(b0:0 < b):StV H l (M*b) (scl b S):=by
 obtain ⟨vs,h1,h2,h3⟩:=h;refine ⟨vs,h1,by unfold scl; rw [Ag]; exact h2,fun i v d hv hd => ?_⟩;unfold scl at hd;rw [As] at hd;obtain ⟨e,he,rfl⟩:=Bv.mp hd;obtain ⟨a,m,n,us,ys,e1,e2,e3,e4,e5,e6⟩:=h3 i v e hv he;exact ⟨a,m,n,us,ys,e1,e2,e3,e4,e5.scale M0 (Cf M0 b0) fun y=>by rw [BO M b,<- BF],e6⟩
theorem Okf.scale {b:Int}(h:Okf ws d)(b0:0 < b):Okf ws (fun y=>d.1 y*b,d.2) :=
 ⟨fun y=>BA (h.nn y) (Int.le_of_lt b0),h.nin,h.srt,fun y hy=>h.inw y fun e=>hy (by show d.1 y*b=0; rw [e,BN])⟩
theorem Sok.scale {M b:Int}{β γ:Nat}(h:Sok ws rbs M S β)(b0:0 < b)(bb:Bt γ b):Sok ws rbs (M*b) (scl b S) (β+γ):=by
 refine ⟨Cf h.m0 b0,h.bm.mul bb,by unfold scl; rw [Ag]; exact h.sl,fun d hd => ?_,fun i d rb hd hr => ?_⟩
 ·unfold scl at hd
  obtain ⟨e,he,rfl⟩:=AJ.mp hd;exact (h.ok e he).scale b0
 ·unfold scl at hd
  rw [As] at hd;obtain ⟨e,he,rfl⟩:=Bv.mp hd;have f:=EH (h.fit i e rb he hr) (Int.le_of_lt b0);show tot ws (fun y=>e.1 y*b)*rb.2<=rb.1*(M*b);rw [eS,AR,<- BF];exact f
def oneW (x:Str)(n:Int):Str->Int:=fun y=>if x=y then n else 0
def IntoR (c3 c4:Addr)(us:List V)(ps:List (Str × Str))(ws:List Str)(M:Int)(S:List PF)(i:Nat)(d:PF)(rb:Int × Int)(add:Str->Int)(xs:List Str)(n:Nat)(H:Hp)(Q:VK)(E:XK):Prop :=
 (rb.1*M < tot ws (fun y=>d.1 y+add y)*rb.2->BadO c3 n i M (tot ws (fun y=>d.1 y+add y)) rb H E) /\
 (¬ rb.1*M < tot ws (fun y=>d.1 y+add y)*rb.2->∀ nm',NmU d.2 xs nm'->(∀ pa,pairOf us ps nm' = .ref pa->BadE c4 [("pair",.ref pa),("phial",.int (i:Nat)),("place",.int (n:Nat))] H E) /\
  (pairOf us ps nm' = .non->∀ l' H',Same H H'->H l'=none->StV H' l' M (S.set i (fun y=>d.1 y+add y,nm'))->Q (.ref l') H'))
theorem IntoR.mono {M:Int}{i:Nat}{rb:Int × Int}{add:Str->Int}{n:Nat}(s:Same H H1)(h:IntoR c3 c4 us ps ws M S i d rb add xs n H Q E):IntoR c3 c4 us ps ws M S i d rb add xs n H1 Q E :=
 ⟨fun c=>(h.1 c).mono s,fun c nm' u=>⟨fun pa e=>((h.2 c nm' u).1 pa e).mono s,fun e l' H' s' nl=>(h.2 c nm' u).2 e l' H' (s.trans s') (sm0 s nl)⟩⟩
theorem tU {n:Int} : ∀ {ws:List Str},ws.Nodup->x ∈ ws->tot ws (oneW x n)=n
 | [],_,h=>by cases h
 | y :: r,nd,h=>by
  have nd':=BJ.mp nd;have z : ∀ {r:List Str},x ∉ r->tot r (oneW x n)=0:=fun {r}=>by
   induction r with
   | nil=>intro _; rfl
   | cons u q ih =>
    intro h;have ih':=ih fun m=>h (Al _ m);unfold tot at ih' ⊢;rw [Ai,AI,ih'];unfold oneW;rw [if_neg fun e=>h (by rw [e]; exact Au ..)];rfl
  by_cases e:x=y
  ·subst e
   have zr:=z nd'.1;unfold tot at zr ⊢;rw [Ai,AI,zr];unfold oneW;rw [if_pos rfl,Int.add_zero]
  ·have ih:=tU (n:=n) nd'.2 ((AD.mp h).resolve_left e)
   unfold tot at ih ⊢;rw [Ai,AI,ih];unfold oneW;rw [if_neg e,Int.zero_add]
theorem Sok.small {M:Int}{β:Nat}{i:Nat}{rb:Int × Int}(h:Sok ws rbs M S β)(hd:S[i]?=some d)(hr:rbs[i]?=some rb)(rm:Rm rb.1 rb.2):0<=tot ws d.1/\Bt (100+β) (tot ws d.1):=by
 have n0 : ∀ r:List Str,0<=tot r d.1:=fun r=>by
  induction r with
  | nil=>exact Du _
  | cons y r ih =>
   have:=(h.ok d (Ay hd)).nn y;unfold tot at ih ⊢;rw [Ai,AI];omega
 have f:=h.fit i d rb hd hr;have b1:=rm.b1;have m:=CI b1 (n0 ws);rw [Int.mul_one] at m;exact ⟨n0 ws,(rm.st.mul h.bm).le (n0 ws) (by omega)⟩
structure OnIn (H:Hp)(b r q l:Addr)(rs us:List V)(ps:List (Str × Str))(rbs:List (Int × Int))(ws:List Str)(M:Int)(S:List PF)(β:Nat):Prop where
 bs:BS H b r q rs us ps rbs ws
 st:StV H l M S
 so:Sok ws rbs M S β
 b24:β<=2400
theorem OnIn.keep {b r q l:Addr}{M:Int}{β:Nat}(s:Same H H')(h:OnIn H b r q l rs us ps rbs ws M S β):OnIn H' b r q l rs us ps rbs ws M S β:=⟨h.bs.keep s,h.st.keep s,h.so,h.b24⟩
structure RwA (t b:Int):Prop where
 am:Amt t b
 bt:Bt 200 t
 bb:Bt 200 b
theorem RmL.at (h:RmL H rs rbs){i:Nat}{rb:Int × Int}(hr:rbs[i]?=some rb):Rm rb.1 rb.2:=by
 obtain ⟨v,hv⟩ : ∃ v,rs[i]?=some v:=⟨_,Ae (by rw [h.1]; exact (Ad.mp hr).1)⟩;obtain ⟨_,_,_,rm⟩:=h.2 i v rb hv hr;exact rm
theorem qU {M:Int}:IsMx M (fun _=>0) []:=⟨.nil,.nil,fun y=>by simp,fun p h=>nomatch h⟩
theorem gK {M:Int}{f:Str->Int}(mx:IsMx M f ys):ys=[] ↔ ∀ y,f y=0:=by
 constructor
 ·rintro rfl y
  exact Bl fun h=>nomatch (mx.mem y).mpr h
 ·intro h
  cases ys with
  | nil=>rfl
  | cons x r=>exact absurd (h x.1) ((mx.mem x.1).mp (by simp))
section
variable {P:Ax}{w:World}{K:Aa}{mg:Str->Option Value}{base:Heap}{cP c0 c1 c2 c3 c4 c5 f0 f3 f4 C:Addr}
abbrev Non:List Str:=["self","bench","phials","place"]
end
end K34
namespace L2
open PySem PySem.Spec PyProof.Rows
def aEb (m:Str)(Cs:List (Addr × Sp))(E:XK)(ta:TE)(t:TA):TE:=fun σ H Q=>ta σ H fun x H1=>∃ C sp a dx fs,(C,sp) ∈ Cs/\x = .ref a/\H1 a=some (.ins C dx fs)/\fs.lookup m=none/\t σ H1 fun ys H2=>sp (x :: ys) H2 Q E
theorem aE3 {k:Nat}(hC : ∀ c ∈ Cs,Cls X.K c.1/\MCal X.prog X.w X.K X.mg X.base CX k c.1 m ps c.2)(hr:Room k X.A)(hx:gZ CX X E)(he:PE X o ta)(ha:PA X (e :: es) t)(hst:AS (e :: es) X.env=(false,eval e X.env) :: AS es X.env:=by rfl)(hpl:(backTo pos (AS es X.env)).any (·.1)=false:=by rfl)(ht:eval (.Call (.Attribute o m apos) (e :: es) [] pos) X.env=(do
   let ov <- eval o X.env
   standAt apos.atName
   let (f,first) <- holding [ov] (getMethod ov m pl)
   callWith pos f first (backTo pos (AS (e :: es) X.env)) (backToKw pos (keywordEach [] X.env))):=by rfl) :
  PE X (.Call (.Attribute o m apos) (e :: es) [] pos) (aEb m Cs E ta t):=by
 intro pins s σ H Q I h;refine PySem.W.methodCall_KW (pl:=pl) (thn (he pins s σ H _ I h) fun u s1 ⟨x,H1,I1,rx,C,sp,a,dx,fs,hm,ex,ea,l,q⟩ => ?_) ht;subst ex;obtain rfl:u=AC a:=rx;obtain ⟨c,M⟩:=hC _ hm;obtain ⟨f,fd,hm',b,F⟩:=M;refine sY I1 ea c hm' l ?_;refine Eh (first:=[.ref a]) (h₀:=X.base) I.ok.mod.kin hm'.kp (thn (ha pos pins s1 σ H1 _ I1 q) fun us s2 ⟨vs,H2,I2,r,q2⟩=>⟨I2.kIn,?_⟩) hst hpl;exact aA0 (us:=.ref a :: us) (vs:=.ref a :: vs) (dvs:=[]) F hr b .nil hx I2 (.cons rfl r) (by rw [BZ]; exact q2)
end L2
namespace K34
open PySem PySem.Spec PyProof.Rows L2 GM TM
inductive Rw where
 | draw (i:Nat) (x:Str) (t b:Int)
 | fill (i:Nat) (x:Str) (t b:Int)
 | pour (i j:Nat) (t b:Int)
 | empty (i:Nat)
 | rinse (i:Nat)
def RwV (H:Hp)(a:Addr):Rw->Prop
 | .draw i x t b=>∃ q,H a=some (.tup [.str "draw",.int ((i:Nat):Int),.str x,.ref q])/\H q=some (.tup [.int t,.int b])
 | .fill i x t b=>∃ q,H a=some (.tup [.str "fill",.int ((i:Nat):Int),.str x,.ref q])/\H q=some (.tup [.int t,.int b])
 | .pour i j t b=>∃ q,H a=some (.tup [.str "pour",.int ((i:Nat):Int),.int ((j:Nat):Int),.ref q])/\H q=some (.tup [.int t,.int b])
 | .empty i=>H a=some (.tup [.str "empty",.int ((i:Nat):Int)])
 | .rinse i=>H a=some (.tup [.str "rinse",.int ((i:Nat):Int)])
theorem RwV.keep {r:Rw}(s:Same H H')(h:RwV H a r):RwV H' a r:=by
 cases r with
 | draw i x t b=>obtain ⟨q,h1,h2⟩:=h; exact ⟨q,s _ _ h1,s _ _ h2⟩
 | fill i x t b=>obtain ⟨q,h1,h2⟩:=h; exact ⟨q,s _ _ h1,s _ _ h2⟩
 | pour i j t b=>obtain ⟨q,h1,h2⟩:=h; exact ⟨q,s _ _ h1,s _ _ h2⟩
 | empty i=>exact s _ _ h
 | rinse i=>exact s _ _ h
def GoodR (nb:Nat)(ws:List Str):Rw->Prop
 | .draw i x t b=>i < nb/\x ∈ ws/\RwA t b/\1<=t
 | .fill i x t b=>i < nb/\x ∈ ws/\RwA t b
 | .pour i j t b=>i < nb/\j < nb/\i ≠ j/\RwA t b/\1<=t/\t<=b
 | .empty i=>i < nb
 | .rinse i=>i < nb
theorem ph_k {K:Aa}{H:Hp}{nb i:Nat}(h:i < nb):KindV K H nb "phial" (.int ((i:Nat):Int)) true:=by
 have:=KindV.ph (K:=K) (H:=H) (nb:=nb) (n:=((i:Nat):Int));rwa [show (decide ((0:Int)<=((i:Nat):Int)) && decide (((i:Nat):Int) < ((nb:Nat):Int)))=true by rw [decide_eq_true (by omega),decide_eq_true (by omega)]; rfl] at this
theorem wa_k {K:Aa}{H:Hp}{nb:Nat}{x:Str}(h:Wr x):KindV K H nb "ware" (.str x) true:=by
 have:=KindV.wa (K:=K) (H:=H) (nb:=nb) (x:=x) (by have:=h.l8; omega);rwa [decide_eq_true h] at this
theorem amG {K:Aa}{H:Hp}{q:Addr}{t b:Int}(h:RwA t b)(hq:H q=some (.tup [.int t,.int b])):AmG K H q t b:=⟨SqT.of hq,h.am.t0,h.am.b1,h.am.g⟩
theorem aDs {K:Aa}{H:Hp}{nb:Nat}{k1 k2 k3:Str}{u1 u2 u3:V}(h1:KindV K H nb k1 u1 true)(h2:KindV K H nb k2 u2 true)(h3:KindV K H nb k3 u3 true):aD1 K H nb [k1,k2,k3] [u1,u2,u3] [true,true,true]:=by
 refine ⟨rfl,rfl,fun i k u β hk hu hβ => ?_⟩
 match i,hk,hu,hβ with
 | 0,hk,hu,hβ=>cases hk; cases hu; cases hβ; exact h1
 | 1,hk,hu,hβ=>cases hk; cases hu; cases hβ; exact h2
 | 2,hk,hu,hβ=>cases hk; cases hu; cases hβ; exact h3
 | i+3,hk,_,_=>simp at hk
theorem aFy {K:Aa}{H:Hp}{nb:Nat}{k1:Str}{u1:V}(h1:KindV K H nb k1 u1 true):aD1 K H nb [k1] [u1] [true]:=by
 refine ⟨rfl,rfl,fun i k u β hk hu hβ => ?_⟩
 match i,hk,hu,hβ with
 | 0,hk,hu,hβ=>cases hk; cases hu; cases hβ; exact h1
 | i+1,hk,_,_=>simp at hk
theorem RwV.row {K:Aa}{H:Hp}{a:Addr}{r:Rw}{nb:Nat}{ws:List Str}(h:RwV H a r)(g:GoodR nb ws r)(ww:Wss ws):RowV K H nb (.ref a) true:=by
 have ne : ∀ {t b:Int},1<=t->(!decide ([t,b]=[0,1]))=true:=fun {t b} h=>by
  rw [decide_eq_false (fun e=>by injection e with e _; omega)];rfl
 cases r with
 | draw i x t b =>
  obtain ⟨q,h1,h2⟩:=h;obtain ⟨g1,g2,g3,g4⟩:=g;have m:=KindV.mu (nb:=nb) (amG (K:=K) g3 h2);rw [ne g4] at m;exact .big (ks:=["phial","ware","amount"]) h1 (by decide +kernel) (aDs (ph_k g1) (wa_k (ww.w x g2)) m) (fun e=>by cases e) (fun _=>.inl ⟨by decide +kernel,rfl⟩)
 | fill i x t b =>
  obtain ⟨q,h1,h2⟩:=h;obtain ⟨g1,g2,g3⟩:=g;exact .big (ks:=["phial","ware","level"]) h1 (by decide +kernel) (aDs (ph_k g1) (wa_k (ww.w x g2)) (.lv (amG g3 h2))) (fun e=>by cases e) (fun _=>.inl ⟨by decide +kernel,rfl⟩)
 | pour i j t b =>
  obtain ⟨q,h1,h2⟩:=h;obtain ⟨g1,g2,g3,g4,g5,g6⟩:=g;have m:=KindV.pa (nb:=nb) (amG (K:=K) g4 h2);rw [ne g5,decide_eq_false (by omega : ¬ b < t)] at m;refine .big (ks:=["phial","phial","part"]) h1 (by decide +kernel) (aDs (ph_k g1) (ph_k g2) m) (fun e=>by cases e) (fun _=>.inr ⟨by decide +kernel,_,_,_,rfl,?_⟩);rw [decide_eq_false (fun e=>g3 (by injection e with e; omega))];rfl
 | empty i=>exact .big (ks:=["phial"]) h (by decide +kernel) (aFy (ph_k g)) (fun e=>by cases e) (fun _=>.inl ⟨by decide +kernel,rfl⟩)
 | rinse i=>exact .big (ks:=["phial"]) h (by decide +kernel) (aFy (ph_k g)) (fun e=>by cases e) (fun _=>.inl ⟨by decide +kernel,rfl⟩)
theorem aF9 (hd:H d=some (.dK kvs))(s:Same (upd H d (.frz ob (.dK kvs))) H2):Same H (upd H2 d (.dK kvs)):=fun b o e=>by
 by_cases n:b=d
 ·subst n
  rw [hd] at e;rw [aB];exact e
 ·rw [aI n]
  exact s b o (by rw [aI n]; exact e)
theorem aBe {ks:List Str}{kvs:List (Key × V)}{i:Nat}{kv:Key × V}(h:kvs.map (·.1)=ks.map AL)(hk:kvs[i]?=some kv) : ∃ y,ks[i]?=some y/\kv.1=AL y:=by
 have e:=congrArg (fun l=>l[i]?) h;simp only [As,hk,Dj] at e;cases q:ks[i]? with
 | none=>rw [q] at e; cases e
 | some y=>rw [q] at e; exact ⟨y,rfl,AH e⟩
def yO (K:Aa):Sp:=fun vs H Q _=>∃ d kvs ks M xs,vs=[.ref d]/\H d=some (.dK kvs)/\DA H M xs kvs ks/\0 < M/\Bt 2900 M/\Over M xs/\Bt 2900 (sumN M xs)/\∀ f t b H',Same H H'->H' f=some (.tup [.int t,.int b])->Fr M t b (sumN M xs)->Q (.ref f) H'
theorem kE (f:Str->Int)(nn : ∀ y,0<=f y) : ∀ (ks:List Str) (i:Nat),((ks.take i).map f).sum<=(ks.map f).sum/\0<=((ks.take i).map f).sum
 | [],i=>by simp
 | y :: r,0=>by
  have h:=kE f nn r r.length;rw [Bw] at h;have:=nn y;simp only [List.take_zero,List.map_nil,List.sum_nil,Ai,AI];exact ⟨by omega,Du _⟩
 | y :: r,i+1=>by
  have h:=kE f nn r i;have:=nn y;rw [List.take_succ_cons,Ai,Ai,AI,AI];exact ⟨by omega,by omega⟩
theorem aD0 {M:Int}(hM:0 < M)(h:Over M xs)(y:Str):0<=NW M xs y:=by
 have:=(pK hM h xs.length y).1;rwa [Bw] at this
section
variable {P:Ax}{w:World}{K:Aa}{mg:Str->Option Value}{base:Heap}
theorem yR:FnScope ["_law_held","_law_found","_law_ware"] ["_law_held"] (aH sSum):=fnScOk (by decide +kernel)
theorem aE8 {f:Addr}{fd:Bf}(F:Fun K "_law_sum" "_law_sum" sSum f fd)(cA:Cal P w K mg base CX0 2 "_law_add" ["_law_one","_law_other"] (yQ K)):FnOk P w K mg base CX0 3 f fd ["_law_held"] (yO K):=by
 refine F.ok yR (fun vs H Q E h => ?_) (fun cdv A outer s H vs Q E hr h => ?_)
 ·obtain ⟨_,_,_,_,_,rfl,_⟩:=h
  rfl
 ·obtain ⟨d,kvs,ks,M,xs,rfl,hd,da,M0,bM,ov,bS,k⟩:=h
  refine ⟨_,(aC (aL (i:=1) yR.nd rfl (Or.inl rfl) (aW (aA aG (aA aG aD))))
   (aC (uP (dI AU rfl (vB (pv 0)) (aV (i:=2) yR.nd rfl (Or.inl rfl))
    (aE (aL (i:=1) yR.nd rfl (Or.inl rfl) (aJ cA hr rfl aT (aA (pv 1) (aA (iR (jH hr) (pv 0) (pv 2) (fun _ _=>rfl)) aD)))))))
   (aE (aM (pv 1))))),?_⟩
  refine cut3 ?_
  intros
  refine ⟨zLn2,fun z nz => ?_⟩;have s1:=Same.upd (o:=.tup [.int 0,.int 1]) nz;have hz:upd H z (.tup [.int 0,.int 1]) z=some (.tup [.int 0,.int 1]):=aB;generalize upd H z (.tup [.int 0,.int 1])=H1 at s1 hz ⊢;have hd1:=s1 _ _ hd;have da1:=da.keep s1.tk;have tkd:Tk H1 (upd H1 d (.frz (default:Obj) (.dK kvs))):=Tk.dk hd1;refine ⟨_,rfl,d,kvs,rfl,hd1,fun ob => ?_⟩;have tk:Tk H1 (upd H1 d (.frz ob (.dK kvs))):=Tk.dk hd1;have kl:ks.length=kvs.length:=by have:=congrArg List.length da.1.keys; simpa using this.symm
  have nw:=fun y=>aD0 M0 ov y;have tot':(ks.map (NW M xs)).sum=sumN M xs:=kA da.1.nd fun x hx=>(da.2.1 x.1).mpr (Cd hx);refine mW (fun i σ H'=>∃ (v2:Option V) (p:Addr) (t b:Int),σ=[some (.ref d),some (.ref p),v2]/\Same (upd H1 d (.frz ob (.dK kvs))) H'/\H' p=some (.tup [.int t,.int b])/\Fr M t b ((ks.take i).map (NW M xs)).sum) ⟨none,z,0,1,rfl,Same.refl _,tk _ _ hz,Fr.zero⟩ ?_ ?_ ?_
  ·rintro i σ H' _ ⟨_,_,_,_,rfl,sm,_⟩
   exact sm _ _ aB
  ·rintro i kv σ H2 D' hN hkv ⟨v2,p,t,b,rfl,s2,hp,fr⟩
   obtain ⟨y,hy,ek⟩:=aBe da.1.keys hkv;rw [ek];obtain ⟨q,t2,b2,e1,e2,e3⟩:=da1.2.2 y (Ay hy);have dg:DGet H2 d (.str y) (some (.ref q)):=.inl ⟨kvs,.inr y,.inr ⟨ob,s2 _ _ aB⟩,rfl,e1.symm⟩;have st:=kE (NW M xs) nw ks i;have sy:0<=NW M xs y/\NW M xs y<=sumN M xs:=by
    have:=pK M0 ov xs.length y;rwa [Bw] at this
   have f1:=dM M0 fr;have f2:=dM M0 e3;have tw:Tw K H2 p q t b t2 b2:=⟨SqT.of hp,SqT.of (s2 _ _ (tk _ _ e2)),fr.am,e3.am,(bS.le fr.am.t0 (by omega)).mono (by decide),(bM.le (by have:=fr.am.b1; omega) f1.2).mono (by decide),(bS.le e3.am.t0 (by omega)).mono (by decide),(bM.le (by have:=e3.am.b1; omega) f2.2).mono (by decide)⟩;refine ⟨_,rfl,_,rfl,_,rfl,d,_,rfl,dg,p,q,t,b,t2,b2,rfl,tw,fun r H3 s3 h3 => ?_⟩;refine hN _ _ ⟨_,r,_,_,rfl,s2.trans s3,h3,?_⟩;have e:((ks.take (i+1)).map (NW M xs)).sum=((ks.take i).map (NW M xs)).sum+NW M xs y:=by
    rw [CN,hy,Bo,EZ];simp
   rw [e];exact fr.plus e3
  ·rintro σ H2 ⟨v2,p,t,b,rfl,s2,hp,fr⟩
   refine ⟨d,ob,kvs,s2 _ _ aB,(fun o u z=>by have z':H d=some (.frz o u):=z; rw [hd] at z'; cases z'),?_⟩;have pd:p ≠ d:=fun e=>by rw [e,s2 _ _ aB] at hp; cases hp
   rw [<- kl,Bw,tot'] at fr;exact ⟨_,rfl,k p t b _ (s1.trans (aF9 hd1 s2)) (by rw [aI pd]; exact hp) fr⟩
end
theorem xX:Cb "dict" = some (.type "dict"):=by decide +kernel
theorem nW (nd:(kvs.map (·.1)).Nodup){kv:Key × V}(h:kv ∈ kvs):valV kvs kv.1=some kv.2:=by
 induction kvs with
 | nil=>cases h
 | cons x r ih =>
  rw [Ai] at nd;have nd':=BJ.mp nd;unfold valV
  rcases AD.mp h with e | hm
  ·subst e
   simp
  ·have ne : ¬ x.1=kv.1:=fun e=>nd'.1 (e ▸ Cd hm)
   have:=ih nd'.2 hm;unfold valV at this;rw [Dl,decide_eq_false ne];exact this
theorem aA4 (h:PrL H us ys) : ∃ kvs:List (Key × V),us.length=kvs.length/\kvs.map (·.1)=(ys.map (·.1)).map AL/\(∀ (i:Nat) u kv,us[i]?=some u->kvs[i]?=some kv->∃ z,u = .ref z/\H z=some (.tup [kV kv.1,kv.2])) /\
  ∀ y ∈ ys,∃ q,(AL y.1,V.ref q) ∈ kvs/\H q=some (.tup [.int y.2.1,.int y.2.2]):=by
 induction h with
 | nil=>exact ⟨[],rfl,rfl,fun i u kv h=>by simp at h,fun y h=>nomatch h⟩
 | @cons v x vs xs p _ ih =>
  obtain ⟨kvs,h1,h2,h3,h4⟩:=ih;obtain ⟨a,q,rfl,ha,hq⟩:=p;refine ⟨(AL x.1,.ref q) :: kvs,by rw [AG,AG,h1],by rw [Ai,Ai,Ai,h2],fun i u kv hu hk => ?_,fun y hy => ?_⟩
  ·cases i with
   | zero=>cases hu; cases hk; exact ⟨a,rfl,ha⟩
   | succ i=>exact h3 i u kv (by simpa using hu) (by simpa using hk)
  ·rcases AD.mp hy with rfl | hy
   ·exact ⟨q,Au ..,hq⟩
   ·obtain ⟨q',m,e⟩:=h4 y hy
    exact ⟨q',Al _ m,e⟩
theorem qT {M t b N:Int}(hM:0 < M)(h:Fr M t b N):nOf M (x,t,b)=N:=by
 have b0:b ≠ 0:=by have:=h.am.b1; omega
 show t*(M / b)=N;obtain ⟨k,hk⟩:=h.dvd;have e:=h.e;rw [hk,Int.mul_ediv_cancel_left _ b0];rw [hk] at e;refine BC b0 ?_;rw [<- e,BO b k,BF]
theorem rJ {H:Hp}{M:Int}{cs:List (Str × Int × Int)}{kvs:List (Key × V)} : ∀ {ks:List Str},(∀ y ∈ ks,∃ (p:Addr) (t b:Int),valV kvs (AL y)=some (.ref p)/\H p=some (.tup [.int t,.int b])/\Fr M t b (NW M cs y)) ->
  ∃ es:List (Str × Int × Int),es.map (·.1)=ks/\∀ e ∈ es,∃ q,valV kvs (AL e.1)=some (.ref q)/\H q=some (.tup [.int e.2.1,.int e.2.2])/\Fr M e.2.1 e.2.2 (NW M cs e.1)
 | [],_=>⟨[],rfl,fun e h=>nomatch h⟩
 | y :: r,h=>by
  obtain ⟨es,h1,h2⟩:=rJ (ks:=r) fun z hz=>h z (Al _ hz);obtain ⟨p,t,b,e1,e2,e3⟩:=h y (Au ..);refine ⟨(y,t,b) :: es,by rw [Ai,h1],fun e he => ?_⟩
  rcases AD.mp he with rfl | he
  ·exact ⟨p,e1,e2,e3⟩
  ·exact h2 e he
theorem fV {M:Int}(hM:0 < M){f:Str->Int} : ∀ {es:List (Str × Int × Int)},(es.map (·.1)).Nodup->(∀ e ∈ es,Fr M e.2.1 e.2.2 (f e.1))->∀ y,NW M es y=if y ∈ es.map (·.1) then f y else 0
 | [],_,_,y=>by rw [if_neg (by simp)]; exact eP (by simp)
 | e :: r,nd,h,y=>by
  rw [Ai] at nd;have nd':=BJ.mp nd;have ih:=fV hM nd'.2 (fun z hz=>h z (Al _ hz)) y;rw [lP,ih];have n:=qT (x:=e.1) hM (h e (Au ..));have n':nOf M e=f e.1:=n
  by_cases c:e.1=y
  ·subst c
   rw [if_pos rfl,if_neg nd'.1,if_pos (by simp),n',Int.add_zero]
  ·rw [if_neg c,Int.zero_add]
   by_cases c2:y ∈ r.map (·.1)
   ·rw [if_pos c2,if_pos (by rw [Ai]; exact Al _ c2)]
   ·rw [if_neg c2,if_neg (by rw [Ai]; exact fun z=>(AD.mp z).elim (fun z=>c z.symm) c2)]
theorem aD8 : ∀ {kvs:List (Key × V)} {ks:List Str},kvs.map (·.1)=ks.map AL->∃ zs:List (Str × V),kvs=txK zs/\zs.map (·.1)=ks
 | [],[],_=>⟨[],rfl,rfl⟩
 | [],_ :: _,h=>by simp at h
 | _ :: _,[],h=>by simp at h
 | kv :: r,k :: ks,h=>by
  rw [Ai,Ai] at h;injection h with h1 h2;obtain ⟨zs,e1,e2⟩:=aD8 h2;refine ⟨(k,kv.2) :: zs,?_,by rw [Ai,e2]⟩;rw [e1];show kv :: txK zs=(AL k,kv.2) :: txK zs;rw [<- h1]
theorem rA {M:Int} : ∀ {as:List Addr} {zs:List (Str × V)},as.length=zs.length->(∀ a z,(a,z) ∈ as.zip zs->H a=some (.tup [.str z.1,z.2]))->(∀ z ∈ zs,∃ q t b,z.2 = .ref q/\H q=some (.tup [.int t,.int b])/\Fr M t b (NW M X z.1)) ->
  ∃ ys:List (Str × Int × Int),PrL H (as.map V.ref) ys/\ys.map (·.1)=zs.map (·.1)/\∀ y ∈ ys,Fr M y.2.1 y.2.2 (NW M X y.1)
 | [],[],_,_,_=>⟨[],.nil,rfl,fun y h=>nomatch h⟩
 | [],_ :: _,h,_,_=>by simp at h
 | _ :: _,[],h,_,_=>by simp at h
 | a :: as,z :: zs,h,h1,h2=>by
  obtain ⟨ys,e1,e2,e3⟩:=rA (as:=as) (zs:=zs) (by simpa using h) (fun a' z' m=>h1 a' z' (by rw [BX]; exact Al _ m)) fun z' m=>h2 z' (Al _ m);obtain ⟨q,t,b,f1,f2,f3⟩:=h2 z (Au ..);have f4:=h1 a z (by rw [BX]; exact Au ..);rw [f1] at f4;refine ⟨(z.1,t,b) :: ys,.cons ⟨a,q,rfl,f4,f2⟩ e1,by rw [Ai,Ai,e2],fun y hy => ?_⟩
  rcases AD.mp hy with rfl | hy
  ·exact f3
  ·exact e3 y hy
structure LawIn (K:Aa)(H:Hp)(b r q l dm nm:Addr)(rs us:List V)(ps:List (Str × Str))(rbs:List (Int × Int))(ws:List Str)(M:Int)(S:List PF)(i:Nat)(d:PF)(rb:Int × Int)(kvm:List (Key × V))(ksm:List Str)(cs:List (Str × Int × Int))(xs:List Str):Prop where
 bs:BS H b r q rs us ps rbs ws
 st:StV H l M S
 sl:S.length=rs.length
 ok : ∀ d ∈ S,Okf ws d
 di:S[i]?=some d
 rbi:rbs[i]?=some rb
 hm:H dm=some (.dK kvm)
 da:DA H M cs kvm ksm
 oc:Over M cs
 cw : ∀ x ∈ cs,x.1 ∈ ws
 cp : ∀ y ∈ ksm,0 < NW M cs y
 hn:SqL K H nm (xs.map V.str)\/SqT K H nm (xs.map V.str)
 xw : ∀ x ∈ xs,x ∈ ws
 xl:xs.length<=20
 m0:0 < M
 bm:Bt 2900 M
 bS:Bt 2900 (tot ws (fun y=>d.1 y+NW M cs y))
def IntoL (us:List V)(ps:List (Str × Str))(ws:List Str)(M:Int)(S:List PF)(i:Nat)(d:PF)(rb:Int × Int)(add:Str->Int)(xs:List Str)(H:Hp)(Q:VK):Prop :=
 (rb.1*M < tot ws (fun y=>d.1 y+add y)*rb.2->∀ z t3 a t b H',Same H H'->H' z=some (.tup [.ref t3,.non])->H' t3=some (.tup [.str "spilt",.int ((i:Nat):Int),.ref a])->H' a=some (.tup [.int t,.int b])->Fr (M*rb.2) t b (tot ws (fun y=>d.1 y+add y)*rb.2 - rb.1*M)->Q (.ref z) H') /\
 (¬ rb.1*M < tot ws (fun y=>d.1 y+add y)*rb.2->∀ nm',NmU d.2 xs nm'->(∀ pa,pairOf us ps nm' = .ref pa->∀ z t3 H',Same H H'->H' z=some (.tup [.ref t3,.non])->H' t3=some (.tup [.str "touch",.int ((i:Nat):Int),.ref pa])->Q (.ref z) H') /\
  (pairOf us ps nm' = .non->∀ z l' H',Same H H'->H l'=none->H' z=some (.tup [.non,.ref l'])->StV H' l' M (S.set i (fun y=>d.1 y+add y,nm'))->Q (.ref z) H'))
def pZ (K:Aa):Sp:=fun vs H Q _=>∃ b r q l dm nm rs us ps rbs ws M S i d rb kvm ksm cs xs,vs=[.ref b,.ref l,.int ((i:Nat):Int),.ref dm,.ref nm]/\LawIn K H b r q l dm nm rs us ps rbs ws M S i d rb kvm ksm cs xs/\IntoL us ps ws M S i d rb (NW M cs) xs H Q
section
variable {P:Ax}{w:World}{K:Aa}{mg:Str->Option Value}{base:Heap}
abbrev aHl:List Str:=["_law_bench_here","_law_state","_law_phial","_law_more","_law_names_here","_law_held","_law_ware","_law_lies","_law_named","_law_pair","_law_found"]
theorem iM:FnScope aHl ["_law_bench_here","_law_state","_law_phial","_law_more","_law_names_here"] (aH sInto):=fnScOk (by decide +kernel)
theorem aDb {f:Addr}{fd:Bf}(F:Fun K "_law_into" "_law_into" sInto f fd)(T:Txt mg)(cA:Cal P w K mg base CX0 3 "_law_add" ["_law_one","_law_other"] (yQ K))(cS:Cal P w K mg base CX0 3 "_law_sum" ["_law_held"] (yO K))(cU:Cal P w K mg base CX0 3 "_law_under" ["_law_one","_law_other"] (gO K))(cT:Cal P w K mg base CX0 3 "_law_take" ["_law_one","_law_other"] (lU K)):FnOk P w K mg base CX0 4 f fd ["_law_bench_here","_law_state","_law_phial","_law_more","_law_names_here"] (pZ K):=by
 refine F.ok iM (fun vs H Q E h => ?_) (fun cdv A outer s H vs Q E hr h => ?_)
 ·obtain ⟨_,_,_,_,_,_,_,_,_,_,_,_,_,_,_,_,_,_,_,_,rfl,_⟩:=h
  rfl
 ·obtain ⟨b,r,q,l,dm,nm,rs,us,ps,rbs,ws,M,S,i,d,rb,kvm,ksm,cs,xs,rfl,m,kS,kG⟩:=h
  refine ⟨_,(aC (aL (i:=5) iM.nd rfl (Or.inl rfl) (aX (jZ rfl) rfl T.dict' xX (aA (bU eJ (bU bG (pv 1) (pv 2) (fun _ _=>rfl)) aG (fun _ _=>rfl)) aD)))
   (aC (uP (dI AU rfl (vB (pv 3)) (aV (i:=6) iM.nd rfl (Or.inl rfl))
    (aE (oN (jH hr) (pv 5) (pv 6) (aJ cA hr rfl aT (aA (qK (jH hr) (pv 5) (pv 6) (aW (aA aG (aA aG aD))) ⟨rfl,rfl,rfl,rfl⟩) (aA (iR (jH hr) (pv 3) (pv 6) (fun _ _=>rfl)) aD))) rfl))))
   (aC (aL (i:=7) iM.nd rfl (Or.inl rfl) (aJ cS hr rfl aT (aA (pv 5) aD)))
   (aC (bA (bY (aJ cU hr rfl aT (aA (bU eJ (pit 0 0) (pv 2) (fun _ _=>rfl)) (aA (pv 7) aD))))
    (aE (aM (aW (aA (aW (aA aS (aA (pv 2) (aA (aJ cT hr rfl aT (aA (pv 7) (aA (bU eJ (pit 0 0) (pv 2) (fun _ _=>rfl)) aD))) aD)))) (aA dP aD)))))
    aP)
   (aC (aL (i:=8) iM.nd rfl (Or.inl rfl) (aX bH rfl T.tup' cZ (aA (aR (gY rfl) rfl T.sorted' boot_sorted (aA (aX (xT rfl) rfl T.set' aBq (aA (aK aBb (aX bV rfl T.list' eG (aA (bU eJ (bU bG (pv 1) (pv 2) (fun _ _=>rfl)) aG (fun _ _=>rfl)) aD)) (aX bV rfl T.list' eG (aA (pv 4) aD))) aD)) aD)) aD)))
   (aC (dI AU rfl (gR (pit 0 1)) (aV (i:=9) iM.nd rfl (Or.inl rfl))
    (aE (bA (PW.pt (mB (aQ eT (pit 9 0) (pv 8) rfl) (iO (aQ eT (pit 9 1) (pv 8) rfl))))
     (aE (aM (aW (aA (aW (aA aS (aA (pv 2) (aA (pv 9) aD)))) (aA dP aD)))))
     aP)))
   (aC (aL (i:=10) iM.nd rfl (Or.inl rfl) (aX bV rfl T.list' eG (aA (pv 1) aD)))
   (aC (gQ (aW (aA (aX bH rfl T.tup' cZ (aA (mG rfl rfl T.sorted' (pv 5)) aD)) (aA (pv 8) aD))) (mF (pv 10) (pv 2) set_list))
   (aE (aM (aW (aA dP (aA (pv 10) aD))))))))))))),?_⟩
  refine cut9 ?_
  intros
  obtain ⟨vs,v,hl,vl,hv,a,mm,nn,ms,ys,rfl,ha,hmm,pr,mx,hnn⟩:=m.st.get m.di;have okd:=m.ok d (Ay m.di);have M0:=m.m0;have bn:=m.bs.bn;obtain ⟨kv0,k1,k2,k3,k4⟩:=aA4 pr;have nd0:(kv0.map (·.1)).Nodup:=by
   rw [k2];exact Cy.mpr (mx.nd.imp fun h e=>h (AL.inj e))
  refine ⟨_,rfl,_,rfl,l,_,(i:Int),.ref a,rfl,rfl,SqL.of hl,bK hv,a,_,0,.ref mm,rfl,rfl,SqT.of ha,rfl,mm,ms,kv0,rfl,hmm,k1,nd0,k3,fun p np => ?_⟩;have s1:=Same.upd (o:=.dK kv0) np;have hp1:upd H p (.dK kv0) p=some (.dK kv0):=aB;have pm:p ≠ dm:=fun e=>by rw [e,m.hm] at np; cases np
  generalize upd H p (.dK kv0)=H1 at s1 hp1 ⊢;have da1:DA H1 M ys kv0 (ys.map (·.1)):=⟨⟨k2,mx.nd⟩,fun y=>Iff.rfl,fun y hy=>by
   obtain ⟨x,hx,rfl⟩:=AJ.mp hy;obtain ⟨q',mq,hq'⟩:=k4 x hx;refine ⟨q',_,_,nW nd0 mq,s1 _ _ hq',?_⟩;rw [mx.nw];exact mx.fr x hx⟩
  obtain ⟨es,ee,ef⟩:=rJ m.da.2.2;have oe:Over M es:=fun e he=>by
   obtain ⟨_,_,_,fr⟩:=ef e he;exact ⟨fr.am,fr.dvd⟩
  have oy:Over M ys:=mx.over;have oye:Over M (ys ++ es):=fun e he=>(Bi.mp he).elim (oy e) (oe e);have nwe : ∀ y,NW M es y=NW M cs y:=fun y=>by
   rw [fV M0 (f:=NW M cs) (by rw [ee]; exact m.da.1.nd) (fun e he=>by obtain ⟨_,_,_,fr⟩:=ef e he; exact fr),ee]
   by_cases c:y ∈ ksm
   ·rw [if_pos c]
   ·rw [if_neg c,eP fun z=>c ((m.da.2.1 y).mpr z)]
  have nwT : ∀ y,NW M (ys ++ es) y=d.1 y+NW M cs y:=fun y=>by rw [jG,mx.nw,nwe]
  have ew : ∀ e ∈ es,e.1 ∈ ws:=fun e he=>by
   have:e.1 ∈ ksm:=by rw [<- ee]; exact Cd he
   obtain ⟨x,hx,e'⟩:=AJ.mp ((m.da.2.1 e.1).mp this);rw [<- e'];exact m.cw x hx
  have yw : ∀ e ∈ ys,e.1 ∈ ws:=fun e he=>okd.inw e.1 ((mx.mem e.1).mp (Cd he));have sT:sumN M (ys ++ es)=tot ws (fun y=>d.1 y+NW M cs y):=by
   rw [<- kA m.bs.ww.nd (xs:=ys ++ es) (fun x hx=>(Bi.mp hx).elim (yw x) (ew x))];unfold tot;exact congrArg List.sum (Eg fun y _=>nwT y)
  have bT:=m.bS;rw [<- sT] at bT kS kG;have el:es.length=ksm.length:=by rw [<- ee,Ag]
  have kl:kvm.length=ksm.length:=m.da.1.len;have hm1:=s1 _ _ m.hm;have l6 : ∀ zs:List (Str × Int × Int),(zs.map (·.1)).Nodup->(∀ z ∈ zs,z.1 ∈ ws)->zs.length<=6:=fun zs n w=>by
   have:=n.length_le_of_subset (l₂:=ws) fun y hy=>by
    obtain ⟨x,hx,rfl⟩:=AJ.mp hy;exact w x hx
   rw [Ag] at this;exact AX this m.bs.ww.l
  have yl:=l6 ys mx.nd yw;have esl:=l6 es (by rw [ee]; exact m.da.1.nd) ew;refine ⟨_,rfl,dm,kvm,rfl,hm1,fun ob => ?_⟩;have tk:Tk H1 (upd H1 dm (.frz ob (.dK kvm))):=Tk.dk hm1;refine mW (fun j σ H'=>∃ (v6:Option V) (kvs:List (Key × V)) (ks:List Str),σ=[some (.ref b),some (.ref l),some (.int ((i:Nat):Int)),some (.ref dm),some (.ref nm),some (.ref p),v6,none,none,none,none]/\(∀ c o,c ≠ p->upd H1 dm (.frz ob (.dK kvm)) c=some o->H' c=some o)/\H' p=some (.dK kvs)/\DA H' M ((ys ++ es).take (ys.length+j)) kvs ks/\ks.length<=ys.length+j) ⟨none,kv0,_,rfl,fun c o _ h=>h,by rw [aI pm]; exact hp1,by rw [Nat.add_zero,List.take_left]; exact da1.keep tk,by rw [Ag]; exact Ak _⟩ ?_ ?_ ?_
  ·rintro j σ H' _ ⟨_,_,_,rfl,sm,_⟩
   exact sm _ _ (AM pm) aB
  ·rintro j kv σ H2 D' hN hkv ⟨v6,kvs,ks,rfl,s2,hp2,da,kl2⟩
   obtain ⟨y,hy,ek⟩:=aBe m.da.1.keys hkv;rw [ek];have jl:=(Ad.mp hkv).1;obtain ⟨e,he⟩ : ∃ e,es[j]?=some e:=⟨_,Ae (by have:=(Ad.mp hy).1; omega)⟩;have ey:e.1=y:=by
    have h1:(es.map (·.1))[j]?=some e.1:=by rw [As,he]; rfl
    rw [ee,hy] at h1;exact (AH h1).symm
   have hx:(ys ++ es)[ys.length+j]?=some e:=by rw [Cu (by omega),Nat.add_sub_cancel_left]; exact he
   obtain ⟨q',e1,e2,e3⟩:=ef e (Ay he);rw [ey] at e1;refine ⟨_,rfl,p,rfl,.inl ⟨kvs,.inl hp2⟩,_,rfl,zLn2,fun z1 nz1=>⟨_,DGet.k (k:=AL y) ((Same.upd nz1) _ _ hp2),?_⟩⟩;have w1:=Same.upd (o:=.tup [.int 0,.int 1]) nz1;have hz1:upd H2 z1 (.tup [.int 0,.int 1]) z1=some (.tup [.int 0,.int 1]):=aB;have hp3:=w1 _ _ hp2;have da3:=da.keep w1.tk;have dm3:upd H2 z1 (.tup [.int 0,.int 1]) dm=some (.frz ob (.dK kvm)):=w1 _ _ (s2 _ _ (AM pm) aB);have q3:upd H2 z1 (.tup [.int 0,.int 1]) q'=some (.tup [.int e.2.1,.int e.2.2]):=by
    have qp:q' ≠ p:=fun z=>by rw [z,np] at e2; cases e2
    exact w1 _ _ (s2 _ _ qp (tk _ _ (s1 _ _ e2)))
   generalize upd H2 z1 (.tup [.int 0,.int 1])=H3 at w1 hz1 hp3 da3 dm3 q3 ⊢;obtain ⟨g,t,b',eg,hg,fr⟩ : ∃ (g:Addr) (t b':Int),(valV kvs (AL y)).getD (.ref z1) = .ref g/\SqT K H3 g [.int t,.int b']/\Fr M t b' (NW M ((ys ++ es).take (ys.length+j)) y):=by
    by_cases hyk:y ∈ ks
    ·obtain ⟨p',t,b',f1,f2,f3⟩:=da3.2.2 _ hyk
     exact ⟨p',t,b',by rw [f1]; rfl,SqT.of f2,f3⟩
    ·have:valV kvs (AL y)=none:=by
      cases e:valV kvs (AL y) with
      | none=>rfl
      | some v=>exact absurd ((da.1.get y).mp (by rw [e]; rfl)) hyk
     refine ⟨z1,0,1,by rw [this]; rfl,SqT.of hz1,?_⟩;rw [eP (fun z=>hyk ((da.2.1 _).mpr z))];exact Fr.zero
   rw [eg];have nwl:=pK M0 oye (ys.length+j) y;have fs:=dM M0 fr;have fse:=dM M0 e3;have nwe':NW M cs e.1<=sumN M (ys ++ es):=by
    have h1:=pK M0 oye (ys ++ es).length e.1;rw [Bw,jG,nwe] at h1;have h2:=aD0 M0 oy e.1;omega
   have tw:Tw K H3 g q' t b' e.2.1 e.2.2:=⟨hg,SqT.of q3,fr.am,e3.am,(bT.le fr.am.t0 (by omega)).mono (by decide),(m.bm.le (by have:=fr.am.b1; omega) fs.2).mono (by decide),(bT.le e3.am.t0 (by omega)).mono (by decide),(m.bm.le (by have:=e3.am.b1; omega) fse.2).mono (by decide)⟩;have dg:DGet H3 dm (.str y) (some (.ref q')):=.inl ⟨kvm,.inr y,.inr ⟨ob,dm3⟩,rfl,e1.symm⟩;refine ⟨_,rfl,_,rfl,dm,_,rfl,dg,g,q',t,b',e.2.1,e.2.2,rfl,tw,fun r' H4 s4 h4 => ?_⟩;have hp4:=s4 _ _ hp3;have frn:Fr M ((t*e.2.2+e.2.1*b') / G (t*e.2.2+e.2.1*b') (b'*e.2.2)) (b'*e.2.2 / G (t*e.2.2+e.2.1*b') (b'*e.2.2)) (NW M ((ys ++ es).take (ys.length+j)) e.1+nOf M e):=by
    have n':nOf M e=NW M cs e.1:=qT (x:=e.1) M0 e3;rw [n',ey];have e3':=e3;rw [ey] at e3';exact fr.plus e3'
   obtain ⟨ks',da',kl'⟩:=(da3.keep s4.tk).step hx h4 frn;rw [ey] at da';refine ⟨_,rfl,_,rfl,p,_,rfl,DPut.k (k:=AL y) hp4 (bO (by rw [da.1.len]; omega)),?_⟩;refine hN _ _ ⟨_,_,ks',rfl,fun c o nc hc => ?_,aB,da'.keep (Tk.dk hp4),by omega⟩;rw [aI nc];exact s4 _ _ (w1 _ _ (s2 c o nc hc))
  ·rintro σ H2 ⟨v6,kvs,ks,rfl,s2,hp2,da,kl2⟩
   have dm2:=s2 _ _ (AM pm) aB;refine ⟨dm,ob,kvm,dm2,(fun o u z=>by have z':H dm=some (.frz o u):=z; rw [m.hm] at z'; cases z'),?_⟩;have s3:Same H (upd H2 dm (.dK kvm)):=fun c o hc=>by
    by_cases n:c=dm
    ·subst n
     rw [m.hm] at hc;rw [aB];exact hc
    ·have ncp:c ≠ p:=fun z=>by rw [z,np] at hc; cases hc
     rw [aI n];exact s2 c o ncp (by rw [aI n]; exact s1 _ _ hc)
   have hp3:upd H2 dm (.dK kvm) p=some (.dK kvs):=by rw [aI pm]; exact hp2
   have da3:DA (upd H2 dm (.dK kvm)) M (ys ++ es) kvs ks:=by
    rw [kl,<- el,<- AB,Bw] at da;exact da.keep fun c zs hc=>by
     have n:c ≠ dm:=fun z=>by rw [z,dm2] at hc; cases hc
     rw [aI n];exact hc
   generalize upd H2 dm (.dK kvm)=H3 at s3 hp3 da3 ⊢;refine ⟨_,rfl,p,kvs,ks,M,ys ++ es,rfl,hp3,da3,M0,m.bm,oye,bT,fun li t b' H4 s4 hli fr => ?_⟩;have s04:=s3.trans s4;have bn4:=bn.keep s04;obtain ⟨t_le,b_le⟩:=dM M0 fr;have bb:=fr.am.b1;have bt:Bt 4000 t:=(bT.le fr.am.t0 t_le).mono (by decide);have bb':Bt 4000 b':=(m.bm.le (by omega) b_le).mono (by decide);obtain ⟨rv,hrv⟩ : ∃ rv,rs[i]?=some rv:=⟨_,Ae (by rw [<- m.sl]; exact (Ad.mp m.di).1)⟩;obtain ⟨rb',hrb',ra,rfl,hra,rmm⟩:=m.bs.rm.get hrv;rw [m.rbi] at hrb';cases hrb';have tw:Tw K H4 ra li rb.1 rb.2 t b':=⟨SqT.of (s04 _ _ hra),SqT.of hli,⟨by have:=rmm.t1; omega,rmm.b1,rmm.g⟩,fr.am,rmm.st.mono (by decide),rmm.sb.mono (by decide),bt,bb'⟩;have frr:Fr rb.2 rb.1 rb.2 rb.1:=wX rmm;refine ⟨b,_,_,rfl,SqT.of bn4.hp,rfl,_,rfl,r,_,(i:Int),.ref ra,rfl,rfl,SqT.of bn4.hr,bK hrv,_,rfl,ra,li,rb.1,rb.2,t,b',rfl,tw,_,rfl,?_⟩;rw [wY M0 fr];refine ite2 (fun c => ?_) (fun c => ?_)
   ·have c':rb.1*M < sumN M (ys ++ es)*rb.2:=of_decide_eq_true c
    obtain ⟨le,fo⟩:=fY (M1:=M) (M2:=rb.2) M0 (by have:=rmm.b1; omega) fr frr (by omega);refine ⟨_,rfl,_,rfl,b,_,_,rfl,SqT.of bn4.hp,rfl,_,rfl,r,_,(i:Int),.ref ra,rfl,rfl,SqT.of bn4.hr,bK hrv,li,ra,t,b',rb.1,rb.2,rfl,tw.flip,le,fun po H5 s5 h5=>⟨zLn3,fun t3 nt3=>⟨zLn2,fun z nz => ?_⟩⟩⟩;have s6:=Same.upd (o:=.tup [.str "spilt",.int ((i:Nat):Int),.ref po]) nt3;have s7:=Same.upd (o:=.tup [.ref t3,.non]) nz;exact kS c' z t3 po _ _ _ (((s04.trans s5).trans s6).trans s7) aB (s7 _ _ aB) ((s6.trans s7) _ _ h5) fo
   ·have c' : ¬ rb.1*M < sumN M (ys ++ es)*rb.2:=of_decide_eq_false (by simpa using c)
    refine ⟨_,rfl,_,rfl,l,_,(i:Int),.ref a,rfl,rfl,SqL.of (s04 _ _ hl),bK hv,a,_,1,.ref nn,rfl,rfl,SqT.of (s04 _ _ ha),rfl,nn,_,rfl,.inr (SqT.of (s04 _ _ hnn)),fun c1 nc1 => ?_⟩;have w1:=Same.upd (o:=.lst (d.2.map V.str)) nc1;refine ⟨_,rfl,nm,_,rfl,m.hn.imp (fun h=>(s04.trans w1).seq h) (fun h=>(s04.trans w1).tup h),fun c2 nc2 => ?_⟩;have w2:=Same.upd (o:=.lst (xs.map V.str)) nc2;have nl:d.2.length<=6:=AX ((eX okd.srt).length_le_of_subset okd.nin) m.bs.ww.l;have xl:=m.xl;refine ⟨c1,c2,_,_,rfl,rfl,w2 _ _ aB,aB,bL (by rw [Ag,Ag]; omega),fun c3 nc3 => ?_⟩;have ll:(d.2 ++ xs).length<=30:=by rw [AB]; omega
    refine ⟨c3,d.2 ++ xs,rfl,SqL.of (by rw [Bo]; exact aB),by omega,fun p2 np2=>⟨p2,_,rfl,aB,DF (SX.ddl_len _) (by omega),fun p3 nm' pm' so np3=>⟨p3,_,rfl,.inl ⟨SqL.of aB,fun p4 np4 => ?_⟩⟩⟩⟩;have u:=aBd pm' so;have w4:=Same.upd (o:=.tup (nm'.map V.str)) np4;have w:=((((w1.trans w2).trans (Same.upd nc3)).trans (Same.upd np2)).trans (Same.upd (o:=.lst (nm'.map V.str)) np3)).trans w4;have bn5:=bn4.keep w;obtain ⟨kT,kO⟩:=kG c' nm' u;refine ⟨b,_,_,rfl,SqT.of bn5.hp,rfl,q,rfl,⟨_,SqT.of bn5.hq⟩,?_⟩;refine lF (xs:=us) (fun j σ H'=>∃ v9:Option V,σ=[some (.ref b),some (.ref l),some (.int ((i:Nat):Int)),some (.ref dm),some (.ref nm),some (.ref p),v6,some (.ref li),some (.ref p4),v9,none]/\pairOf us ps nm'=pairOf (us.drop j) (ps.drop j) nm'/\Same H4 H'/\H' p4=some (.tup (nm'.map V.str))) ⟨none,rfl,rfl,w,aB⟩ ?_ ?_ ?_
    ·rintro j σ H' hj ⟨_,rfl,_,s',_⟩
     exact SqT.of (s' _ _ bn4.hq)
    ·rintro j v' σ H5 hv' ⟨v9,rfl,e,s5,h5⟩
     obtain ⟨y,hy⟩ : ∃ y,ps[j]?=some y:=⟨_,Ae (by rw [<- bn4.pt.1]; exact (Ad.mp hv').1)⟩;obtain ⟨z,rfl,hz⟩:=bn4.pt.2 j v' y hv' hy;have hz':SqT K H5 z [.str y.1,.str y.2]:=SqT.of (s5 _ _ hz);have hn5:SqT K H5 p4 (nm'.map V.str):=SqT.of h5;rw [iU hv' hy] at e;refine ⟨z,_,_,rfl,hz',rfl,_,rfl,p4,_,rfl,.inr hn5,rfl,eV nm',_,rfl,ite2 (fun h1 => ?_) (fun h1 => ?_)⟩
     ·have m1:=eF.mp h1
      refine ⟨z,_,_,rfl,hz',rfl,_,rfl,p4,_,rfl,.inr hn5,rfl,eV nm',_,rfl,ite2 (fun h2 => ?_) (fun h2 => ?_)⟩
      ·rw [if_pos ⟨m1,eF.mp h2⟩] at e
       refine ⟨_,rfl,_,rfl,zLn3,fun t3 nt3=>⟨zLn2,fun zz nzz => ?_⟩⟩;have s6:=Same.upd (o:=.tup [.str "touch",.int ((i:Nat):Int),.ref z]) nt3;have s7:=Same.upd (o:=.tup [.ref t3,.non]) nzz;exact kT z e zz t3 _ (((s04.trans s5).trans s6).trans s7) aB (s7 _ _ aB)
      ·rw [if_neg fun z=>h2 (eF.mpr z.2)] at e
       exact ⟨_,rfl,e,s5,h5⟩
     ·rw [if_neg fun z=>h1 (eF.mpr z.1)] at e
      exact ⟨_,rfl,e,s5,h5⟩
    ·rintro σ H5 ⟨v9,rfl,e,s5,h5⟩
     rw [List.drop_length,gJ] at e;have kO':=kO e;have s05:=s04.trans s5;refine ⟨_,rfl,l,_,rfl,.inl (SqL.of (s05 _ _ hl)),fun l' nl' => ?_⟩;have w6:=Same.upd (o:=.lst vs) nl';have hl6:upd H5 l' (.lst vs) l'=some (.lst vs):=aB;generalize upd H5 l' (.lst vs)=H6 at w6 hl6 ⊢;obtain ⟨zs,ez,ek⟩:=aD8 da3.1.keys;have hp6:H6 p=some (.dK (txK zs)):=by rw [<- ez]; exact w6 _ _ (s5 _ _ (s4 _ _ hp3))
     have zl:zs.length=ks.length:=by rw [<- ek,Ag]
     have da6:=((da3.keep s4.tk).keep s5.tk).keep w6.tk;refine ⟨_,rfl,p,zs,rfl,hp6,by rw [ek]; exact da3.1.nd,by omega,fun q1 as zs' H7 s7 pz srt al ht hq1 => ?_⟩;have zv : ∀ z ∈ zs',∃ q t b,z.2 = .ref q/\H7 q=some (.tup [.int t,.int b])/\Fr M t b (NW M (ys ++ es) z.1):=fun z hz=>by
      have mz:=pz.mem_iff.mp hz;have mk:((AL z.1:Key),z.2) ∈ kvs:=by rw [ez]; exact AJ.mpr ⟨z,mz,rfl⟩
      have nk:(kvs.map (·.1)).Nodup:=by rw [da3.1.keys]; exact Cy.mpr (da3.1.nd.imp fun h e=>h (AL.inj e))
      have vz:=nW nk mk;obtain ⟨q',t',b2,f1,f2,f3⟩:=da6.2.2 z.1 (by rw [<- ek]; exact Cd mz);have vz':valV kvs (AL z.1)=some z.2:=vz;rw [f1] at vz';exact ⟨q',t',b2,(AH vz').symm,s7 _ _ f2,f3⟩
     obtain ⟨yn,py,ny,fy⟩:=rA al ht zv;refine ⟨q1,_,rfl,.inl ⟨SqL.of hq1,fun tz ntz=>⟨_,rfl,zLn2,fun zt nzt => ?_⟩⟩⟩;have w8:=Same.upd (o:=.tup (as.map V.ref)) ntz;have w9:=Same.upd (o:=.tup [.ref tz,.ref p4]) nzt;have w79:=(s7.trans w8).trans w9;have il:=(Ad.mp hv).1;have lz:l' ≠ zt:=fun e=>by rw [<- e,(s7.trans w8) _ _ hl6] at nzt; cases nzt
     refine ⟨_,rfl,_,rfl,l',vs,(i:Int),i,rfl,rfl,w79 _ _ hl6,jB il,?_⟩;refine ⟨_,rfl,zLn2,fun zz nzz => ?_⟩;have nl0:H l'=none:=sm0 s05 nl';have sF:Same H (upd (upd (upd (upd H7 tz (.tup (as.map V.ref))) zt (.tup [.ref tz,.ref p4])) l' (.lst (vs.set i (.ref zt)))) zz (.tup [.non,.ref l'])):=fun c o hc=>by
      have h1:=((s05.trans w6).trans w79) _ _ hc;have ncl:c ≠ l':=fun z=>by rw [z,nl0] at hc; cases hc
      exact (Same.upd nzz) _ _ (by rw [aI ncl]; exact h1)
     have sG : ∀ c o,c ≠ l'->upd (upd H7 tz (.tup (as.map V.ref))) zt (.tup [.ref tz,.ref p4]) c=some o->upd (upd (upd (upd H7 tz (.tup (as.map V.ref))) zt (.tup [.ref tz,.ref p4])) l' (.lst (vs.set i (.ref zt)))) zz (.tup [.non,.ref l']) c=some o:=fun c o n hc=>(Same.upd nzz) _ _ (by rw [aI n]; exact hc);have tkG:Tk (upd (upd H7 tz (.tup (as.map V.ref))) zt (.tup [.ref tz,.ref p4])) (upd (upd (upd (upd H7 tz (.tup (as.map V.ref))) zt (.tup [.ref tz,.ref p4])) l' (.lst (vs.set i (.ref zt)))) zz (.tup [.non,.ref l'])):=fun c ts hc=>sG c _ (fun z=>by rw [z,w79 _ _ hl6] at hc; cases hc) hc;refine kO' zz l' _ sF nl0 aB (m.st.put hl sF ((Same.upd nzz) _ _ aB) ⟨zt,tz,p4,as.map V.ref,yn,rfl,tkG _ _ aB,tkG _ _ (w9 _ _ aB),py.keep (fun c ts hc=>tkG _ _ ((w8.trans w9) _ _ hc)),?_,tkG _ _ ((w6.trans w79) _ _ h5)⟩);have memk : ∀ y,y ∈ yn.map (·.1) ↔ y ∈ (ys ++ es).map (·.1):=fun y=>by
      rw [ny,(pz.map (·.1)).mem_iff,ek,da3.2.1]
     refine ⟨?_,?_,fun y => ?_,fun z hz => ?_⟩
     ·rw [ny,Cy]
      exact srt.imp fun h=>List.le_of_lt h
     ·rw [ny,(pz.map (·.1)).nodup_iff,ek]
      exact da3.1.nd
     ·rw [memk]
      show _ ↔ d.1 y+NW M cs y ≠ 0;rw [<- nwT];constructor
      ·intro hy
       rw [nwT];have h1:=okd.nn y;have h2:=aD0 M0 m.oc y;rw [Bo,Bi] at hy
       rcases hy with hy | hy
       ·have:=(mx.mem y).mp hy
        omega
       ·have:=m.cp y (by rw [<- ee]; exact hy)
        omega
      ·intro h
       exact Bl fun z=>h (eP z)
     ·have:=fy z hz
      rw [nwT] at this;exact this
end
end K34
namespace L2
open PySem PySem.Spec PyProof.Rows PySem.W
section
variable {X:Cx}
theorem vN (hu:X.A.units+64 < cLine):OpR X (BI .Eq) (fun x y H Q=>∃ a b xs,x = .ref a/\y = .ref b/\SqT X.K H a xs/\SqT X.K H b []/\Q (.bl xs.isEmpty) H):=by
 intro pins s σ H x y v u Q I rx ry h;obtain ⟨a,b,xs,rfl,rfl,ha,hb,q⟩:=h;cases rx;cases ry;obtain ⟨its,r,p,_⟩:=I.tuple ha;obtain ⟨its',r',p',_⟩:=I.tuple hb;cases r';obtain ⟨o,o1,o2,n,o3⟩:=p;obtain ⟨o',o1',o2',n',o3'⟩:=p';have key:=SeqAt.RcAt.tuples (A:=X.A) (s:=s) (l:=a) (b:=b) (items:=its.toArray) (items2 := #[]) (e:=fun _=>true) ⟨o,o1,o2,n,o3⟩ ⟨o',o1',o2',n',o3'⟩ (by omega) (fun j h1 h2=>absurd h2 (by simp));cases r with
 | nil=>exact key X.prog X.w X.xe _ ⟨.bl _,H,I,rfl,q⟩
 | cons r t=>exact key X.prog X.w X.xe _ ⟨.bl _,H,I,rfl,q⟩
end
end L2
namespace K34
open PySem PySem.Spec PyProof.Rows L2 GM TM
theorem rC {M N t1 b1 t2 b2:Int}(M0:0 < M)(h:Fr M t1 b1 N)(h2:Amt t2 b2):Fr (M*b2) (t1*t2 / G (t1*t2) (b1*b2)) (b1*b2 / G (t1*t2) (b1*b2)) (N*t2):=by
 have a1:=h.am.b1;have a2:=h2.b1;have n1:=BA h.am.t0 h2.t0;have hb:1<=b1*b2:=mul1 a1 a2;refine ⟨iX n1 hb,?_⟩;have crs:=fW (t1*t2) (b1*b2);generalize t1*t2 / G (t1*t2) (b1*b2)=x at *
 generalize b1*b2 / G (t1*t2) (b1*b2)=y at *
 refine BC (show b1*b2 ≠ 0 by omega) ?_
 calc x*(M*b2)*(b1*b2)=(x*(b1*b2))*(M*b2):=by rw [AR]
  _=((t1*t2)*y)*(M*b2):=by rw [crs]
  _=(t1*M)*(t2*y*b2):=by grind
  _=(N*b1)*(t2*y*b2):=by rw [h.e]
  _=N*t2*y*(b1*b2):=by grind
theorem IntoL.mono {M:Int}{i:Nat}{rb:Int × Int}{add:Str->Int}(s:Same H H1)(h:IntoL us ps ws M S i d rb add xs H Q):IntoL us ps ws M S i d rb add xs H1 Q :=
 ⟨fun c z t3 a t b H' s'=>h.1 c z t3 a t b H' (s.trans s'),fun c nm' u=>⟨fun pa e z t3 H' s'=>(h.2 c nm' u).1 pa e z t3 H' (s.trans s'),fun e z l' H' s' nl=>(h.2 c nm' u).2 e z l' H' (s.trans s') (sm0 s nl)⟩⟩
theorem aAr {t:Int}(h:Amt t t):t=1:=by
 have g:=h.g;unfold G at g;rw [Int.gcd_self] at g;have:=h.t0;omega
def zf (t b:Int)(y:Str × Int × Int):Str × Int × Int:=(y.1,y.2.1*t / G (y.2.1*t) (y.2.2*b),y.2.2*b / G (y.2.1*t) (y.2.2*b))
def rf (t b:Int)(y:Str × Int × Int):Str × Int × Int:=(y.1,(y.2.1*(zf t b y).2.2 - (zf t b y).2.1*y.2.2) / G (y.2.1*(zf t b y).2.2 - (zf t b y).2.1*y.2.2) (y.2.2*(zf t b y).2.2),y.2.2*(zf t b y).2.2 / G (y.2.1*(zf t b y).2.2 - (zf t b y).2.1*y.2.2) (y.2.2*(zf t b y).2.2))
theorem yH {M N t b:Int}(M0:0 < M)(h:Fr M y.2.1 y.2.2 N)(a:Amt t b):Fr (M*b) (zf t b y).2.1 (zf t b y).2.2 (N*t):=rC M0 h a
theorem aEu {M N t b:Int}(M0:0 < M)(h:Fr M y.2.1 y.2.2 N)(a:Amt t b)(tb:t<=b):(zf t b y).2.1*y.2.2<=y.2.1*(zf t b y).2.2/\Fr (M*b) (rf t b y).2.1 (rf t b y).2.2 (N*b - N*t):=by
 have b0:0 < b:=by have:=a.b1; omega
 have Mb:0 < M*b:=Cf M0 b0;have f1:Fr (M*b) y.2.1 y.2.2 (N*b):=iC h M0 (by rw [BO M b,<- BF]);have f2:=yH M0 h a;have n0:=h.nonneg M0;have le:N*t*(M*b)<=N*b*(M*b):=EH (CI tb n0) (Int.le_of_lt Mb);obtain ⟨l,fo⟩:=fY Mb Mb f1 f2 le;exact ⟨l,iC fo (Cf Mb Mb) (by grind)⟩
def RefL (wd:Str)(i:Nat)(H:Hp)(Q:VK):Prop:=∀ z t3 H',Same H H'->H' z=some (.tup [.ref t3,.non])->H' t3=some (.tup [.str wd,.int ((i:Nat):Int),.non])->Q (.ref z) H'
def kK (K:Aa):Sp:=fun vs H Q _=>∃ b r q l a rs us ps rbs ws M S β i j t b' di dj rbj,vs=[.ref b,.ref l,.ref a]/\OnIn H b r q l rs us ps rbs ws M S β/\RwV H a (.pour i j t b')/\GoodR rs.length ws (.pour i j t b')/\S[i]?=some di/\S[j]?=some dj/\rbs[j]?=some rbj /\
 ((∀ y,di.1 y=0)->RefL "dry" i H Q)/\(¬ (∀ y,di.1 y=0)->IntoL us ps ws (M*b') ((scl b' S).set i (fun y=>di.1 y*b' - di.1 y*t,di.2)) j (fun y=>dj.1 y*b',dj.2) rbj (fun y=>di.1 y*t) di.2 H Q)
section
variable {P:Ax}{w:World}{K:Aa}{mg:Str->Option Value}{base:Heap}
abbrev Npou:List Str:=["_law_bench_here","_law_state","_law_row_here","_law_held","_law_names_here","_law_out","_law_rest","_law_ware","_law_much_here","_law_found"]
theorem lX:FnScope Npou ["_law_bench_here","_law_state","_law_row_here"] (aH sPoured):=fnScOk (by decide +kernel)
theorem vR {f:Addr}{fd:Bf}(F:Fun K "_law_poured" "_law_poured" sPoured f fd)(T:Txt mg)(cB:Cal P w K mg base CX0 4 "_law_by" ["_law_one","_law_other"] (spBy K))(cT:Cal P w K mg base CX0 4 "_law_take" ["_law_one","_law_other"] (lU K))(cI:Cal P w K mg base CX0 4 "_law_into" ["_law_bench_here","_law_state","_law_phial","_law_more","_law_names_here"] (pZ K)):FnOk P w K mg base CX0 5 f fd ["_law_bench_here","_law_state","_law_row_here"] (kK K):=by
 refine F.ok lX (fun vs H Q E h => ?_) (fun cdv A outer s H vs Q E hr h => ?_)
 ·obtain ⟨_,_,_,_,_,_,_,_,_,_,_,_,_,_,_,_,_,_,_,_,rfl,_⟩:=h
  rfl
 ·obtain ⟨b,r,q,l,a,rs,us,ps,rbs,ws,M,S,β,i,j,t,b',di,dj,rbj,rfl,o,⟨qa,hra,hqa⟩,⟨g1,g2,g3,g4,g5,g6⟩,hdi,hdj,hrj,kD,kI⟩:=h
  refine ⟨_,(aC (gQ (bU bG (pv 1) (pit 2 1) (fun _ _=>rfl)) (fS rfl (bR (aV (i:=3) lX.nd rfl (Or.inl rfl)) (bR (aV (i:=4) lX.nd rfl (Or.inl rfl)) eO))))
   (aC (bA (aQ (vN hr.units) (pv 3) (aW aD) (aU _))
    (aE (aM (aW (aA (aW (aA aS (aA (pit 2 1) (aA dP aD)))) (aA dP aD)))))
    aP)
   (aC (aL (i:=5) lX.nd rfl (Or.inl rfl) qJ)
   (aC (aL (i:=6) lX.nd rfl (Or.inl rfl) (dD aD))
   (aC (dI AU rfl (gR (pv 3)) (fS rfl (bR (aV (i:=7) lX.nd rfl (Or.inl rfl)) (bR (aV (i:=8) lX.nd rfl (Or.inl rfl)) eO)))
    (aC (oN (jH hr) (pv 5) (pv 7) (aJ cB hr rfl aT (aA (pv 8) (aA (pit 2 3) aD))) rfl)
    (aE (bA (aQ (vJ hr.units) (pit 2 3) (aW (aA aG (aA aG aD))) (aU _))
     (aE (dJ (iS Bg Ba AZ bW (pv 6) (aA (aW (aA (pv 7) (aA (aJ cT hr rfl aT (aA (pv 8) (aA (iR (jH hr) (pv 5) (pv 7) (fun _ _=>rfl)) aD))) aD))) aD))))
     aP))))
   (aC (aL (i:=9) lX.nd rfl (Or.inl rfl) (aX bV rfl T.list' eG (aA (pv 1) aD)))
   (aC (gQ (aW (aA (aX bH rfl T.tup' cZ (aA (pv 6) aD)) (aA (pv 4) aD))) (mF (pv 9) (pit 2 1) set_list))
   (aE (aM (aJ cI hr rfl aT (aA (pv 0) (aA (pv 9) (aA (pit 2 2) (aA (pv 5) (aA (pv 4) aD))))))))))))))),?_⟩
  refine cut8 ?_
  intros
  obtain ⟨vs,v,hl,vl,hv,a1,mm,nn,ms,ys,rfl,ha1,hmm,pr,mx,hnn⟩:=o.st.get hdi;have okd:=o.so.ok di (Ay hdi);have M0:=o.so.m0;have b0:0 < b':=by have:=g4.am.b1; omega
  have sqr:=SqT.of (K:=K) hra;have pl:=pr.length;refine ⟨_,rfl,a,_,_,rfl,sqr,rfl,l,_,(i:Int),.ref a1,rfl,rfl,SqL.of hl,bK hv,?_⟩;refine ⟨a1,_,rfl,SqT.of ha1,rfl,_,_,rfl,_,_,rfl,rfl,?_⟩;refine ⟨_,rfl,zLn0,fun z0 nz0=>⟨mm,z0,_,rfl,rfl,SqT.of ((Same.upd nz0) _ _ hmm),SqT.of aB,_,rfl,ite2 (fun c => ?_) (fun c => ?_)⟩⟩
  ·have em:ms=[]:=by
    cases ms with
    | nil=>rfl
    | cons u r=>exact absurd c (by show ¬ (false=true); decide)
   have z : ∀ y,di.1 y=0:=(gK mx).mp (BQ.mp (by rw [<- pl,em]; rfl));have s1:=Same.upd (o:=.tup []) nz0;refine ⟨a,_,_,rfl,SqT.of (s1 _ _ hra),rfl,zLn3,fun t3 nt3=>⟨zLn2,fun zz nzz => ?_⟩⟩;have s2:=Same.upd (o:=.tup [.str "dry",.int ((i:Nat):Int),.non]) nt3;have s3:=Same.upd (o:=.tup [.ref t3,.non]) nzz;exact kD z zz t3 _ ((s1.trans s2).trans s3) aB (s3 _ _ aB)
  ·have ne : ¬ (∀ y,di.1 y=0):=fun z=>by
    have:=(gK mx).mpr z;subst this;have:ms=[]:=BQ.mp pl;subst this;exact absurd rfl c
   have kI':=kI ne;have s1:=Same.upd (o:=.tup []) nz0;generalize upd H z0 (.tup [])=H1 at s1 ⊢;intro od nod;have s2:=Same.upd (o:=.dK []) nod;refine ⟨zLn0,fun rl nrl => ?_⟩;have s3:=Same.upd (o:=.lst []) nrl;have ho3:upd (upd H1 od (.dK [])) rl (.lst []) od=some (.dK []):=s3 _ _ aB;have hr3:upd (upd H1 od (.dK [])) rl (.lst []) rl=some (.lst []):=aB;have or':od ≠ rl:=fun e=>by rw [<- e,aB] at nrl; cases nrl
   have s03:=(s1.trans s2).trans s3;have od0:H od=none:=sm0 s1 nod;have rl0:H rl=none:=sm0 (s1.trans s2) nrl;generalize upd (upd H1 od (.dK [])) rl (.lst [])=H3 at s03 ho3 hr3 ⊢;refine ⟨_,rfl,mm,rfl,⟨_,SqT.of (s03 _ _ hmm)⟩,?_⟩;have am:=g4.am;have fy : ∀ y ∈ ys,Fr M y.2.1 y.2.2 (di.1 y.1):=mx.fr;have Mb:0 < M*b':=Cf M0 b0;have zm:(ys.map (zf t b')).map (·.1)=ys.map (·.1):=by rw [Cg]; rfl
   have rmm:(ys.map (rf t b')).map (·.1)=ys.map (·.1):=by rw [Cg]; rfl
   have fz : ∀ z ∈ ys.map (zf t b'),Fr (M*b') z.2.1 z.2.2 (di.1 z.1*t):=fun z hz=>by
    obtain ⟨y,hy,rfl⟩:=AJ.mp hz;exact yH M0 (fy y hy) am
   have frr : ∀ z ∈ ys.map (rf t b'),Fr (M*b') z.2.1 z.2.2 (di.1 z.1*b' - di.1 z.1*t):=fun z hz=>by
    obtain ⟨y,hy,rfl⟩:=AJ.mp hz;exact (aEu M0 (fy y hy) am g6).2
   have nwz : ∀ y,NW (M*b') (ys.map (zf t b')) y=di.1 y*t:=fun y=>by
    rw [fV Mb (f:=fun y=>di.1 y*t) (by rw [zm]; exact mx.nd) fz,zm]
    by_cases c:y ∈ ys.map (·.1)
    ·rw [if_pos c]
    ·rw [if_neg c]
     have:di.1 y=0:=Bl fun h=>c ((mx.mem y).mpr h);rw [this,BN]
   have yl:ys.length<=6:=AX (wF mx okd.inw) o.bs.ww.l;refine lF (xs:=ms) (fun k σ H'=>∃ (v7 v8:Option V) (kvs:List (Key × V)) (ks:List Str) (rvs:List V),σ=[some (.ref b),some (.ref l),some (.ref a),some (.ref mm),some (.ref nn),some (.ref od),some (.ref rl),v7,v8,none]/\(∀ c o,c ≠ od->c ≠ rl->H3 c=some o->H' c=some o)/\H' od=some (.dK kvs)/\DA H' (M*b') ((ys.map (zf t b')).take k) kvs ks/\ks.length<=k/\H' rl=some (.lst rvs)/\PrL H' rvs (if ([t,b']:List Int)=[1,1] then [] else (ys.map (rf t b')).take k)/\rvs.length<=k)
    ⟨none,none,[],[],[],rfl,fun _ _ _ _ h=>h,ho3,⟨.nil,fun y=>by simp,fun y hy=>by simp at hy⟩,Ak _,hr3,by rw [List.take_zero]; split <;> exact .nil,Ak _⟩ ?_ ?_ ?_
   ·rintro k σ H' hk ⟨_,_,_,_,_,rfl,sm,_⟩
    exact SqT.of (sm _ _ (fun e=>by rw [e,od0] at hmm; cases hmm) (fun e=>by rw [e,rl0] at hmm; cases hmm) (s03 _ _ hmm))
   ·rintro k v' σ H4 hv' ⟨v7,v8,kvs,ks,rvs,rfl,s4,ho4,da,kl,hr4,pr4,rvl⟩
    obtain ⟨y,hy,pp,qq,rfl,h1,h2⟩:=pr.get hv';have kp : ∀ c o,H c=some o->H4 c=some o:=fun c o hc=>s4 c o (fun e=>by rw [e,od0] at hc; cases hc) (fun e=>by rw [e,rl0] at hc; cases hc) (s03 _ _ hc);have ym:=Ay hy;have kl6:k < 6:=by have:=(Ad.mp hy).1; omega
    have fyy:=fy y ym;have hz:(ys.map (zf t b'))[k]?=some (zf t b' y):=by rw [As,hy]; rfl
    have hrf:(ys.map (rf t b'))[k]?=some (rf t b' y):=by rw [As,hy]; rfl
    obtain ⟨lef,frf⟩:=aEu M0 fyy am g6;have fzz:=yH M0 fyy am;obtain ⟨vi,hvi⟩ : ∃ vi,rs[i]?=some vi:=⟨_,Ae g1⟩;obtain ⟨rbi,hri,_,_,_,rmi⟩:=o.bs.rm.get hvi;obtain ⟨tn,tb⟩:=o.so.small hdi hri rmi;have b24:=o.b24;have yS:di.1 y.1<=tot ws di.1:=by
     have e1:=(iF o.bs.ww.nd mx okd.inw);have e2:=(pK M0 mx.over ys.length y.1).2;rw [Bw,mx.nw] at e2;omega
    have ynn:=okd.nn y.1;have by1:Bt 2600 (di.1 y.1):=(tb.le ynn yS).mono (by omega);have fsm:=dM M0 fyy;have bM:=o.so.bm;have b1:Bt 4000 y.2.1:=(by1.le fyy.am.t0 fsm.1).mono (by decide);have b2:Bt 4000 y.2.2:=(bM.le (by have:=fyy.am.b1; omega) fsm.2).mono (by omega);have zsm:=dM Mb fzz;have b3:Bt 4000 (zf t b' y).2.1:=((by1.mul g4.bt).le fzz.am.t0 zsm.1).mono (by decide);have b4:Bt 4000 (zf t b' y).2.2:=((bM.mul g4.bb).le (by have:=fzz.am.b1; omega) zsm.2).mono (by omega);refine ⟨pp,_,rfl,SqT.of (kp _ _ h1),rfl,_,_,rfl,_,_,rfl,rfl,?_⟩;have tw1:Tw K H4 qq qa y.2.1 y.2.2 t b':=⟨SqT.of (kp _ _ h2),SqT.of (kp _ _ hqa),fyy.am,am,b1,b2,g4.bt.mono (by decide),g4.bb.mono (by decide)⟩;refine ⟨_,rfl,a,_,_,rfl,SqT.of (kp _ _ hra),rfl,qq,qa,y.2.1,y.2.2,t,b',rfl,tw1,fun r' H5 s5 h5 => ?_⟩;have ho5:=s5 _ _ ho4;have yk:y.1 ∉ ((ys.map (zf t b')).take k).map (·.1):=fun hm=>by
     rw [List.map_take,zm] at hm;obtain ⟨n,hn⟩:=EV hm;rw [List.getElem?_take] at hn;split at hn
     ·rename_i lt
      rw [As] at hn;obtain ⟨y',hy',e⟩:=Bv.mp hn;have:=(List.getElem?_inj (l:=ys.map (·.1)) (i:=n) (j:=k) (by rw [Ag]; have:=(Ad.mp hy').1; omega) mx.nd).mp (by rw [As,As,hy',hy]; exact congrArg some e);omega
     ·cases hn
    have frn:Fr (M*b') (zf t b' y).2.1 (zf t b' y).2.2 (NW (M*b') ((ys.map (zf t b')).take k) (zf t b' y).1+nOf (M*b') (zf t b' y)):=by
     rw [eP (y:=(zf t b' y).1) yk,Int.zero_add,qT (x:=(zf t b' y).1) Mb fzz];exact fzz
    obtain ⟨ks',da',kl'⟩:=(da.keep s5.tk).step hz h5 frn;refine ⟨_,rfl,_,rfl,od,_,rfl,DPut.k (k:=AL y.1) ho5 (bO (by rw [da.1.len]; omega)),?_⟩;have tk6:Tk H5 (upd H5 od (.dK (putK kvs (AL y.1) (.ref r')))):=Tk.dk ho5;have da6:=da'.keep tk6;have ho6:upd H5 od (.dK (putK kvs (AL y.1) (.ref r'))) od=some (.dK (putK kvs (AL y.1) (.ref r'))):=aB;have hr6:upd H5 od (.dK (putK kvs (AL y.1) (.ref r'))) rl=some (.lst rvs):=by rw [aI (AM or')]; exact s5 _ _ hr4
    have k6 : ∀ c o,c ≠ od->c ≠ rl->H4 c=some o->upd H5 od (.dK (putK kvs (AL y.1) (.ref r'))) c=some o:=fun c o n1 n2 hc=>by rw [aI n1]; exact s5 _ _ hc
    have kp6 : ∀ c o,H c=some o->upd H5 od (.dK (putK kvs (AL y.1) (.ref r'))) c=some o:=fun c o hc=>k6 c o (fun e=>by rw [e,od0] at hc; cases hc) (fun e=>by rw [e,rl0] at hc; cases hc) (kp c o hc);have pr6:PrL (upd H5 od (.dK (putK kvs (AL y.1) (.ref r')))) rvs (if ([t,b']:List Int)=[1,1] then [] else (ys.map (rf t b')).take k):=(pr4.keep s5.tk).keep tk6;have h6:upd H5 od (.dK (putK kvs (AL y.1) (.ref r'))) r'=some (.tup [.int (zf t b' y).2.1,.int (zf t b' y).2.2]):=tk6 _ _ h5;have vk:valV (putK kvs (AL y.1) (.ref r')) (AL y.1)=some (.ref r'):=by rw [pN,if_pos rfl]
    generalize upd H5 od (.dK (putK kvs (AL y.1) (.ref r')))=H6 at da6 ho6 hr6 k6 kp6 pr6 h6 ⊢;refine ⟨a,_,_,rfl,SqT.of (kp6 _ _ hra),rfl,zLn2,fun z1 nz1=>⟨qa,z1,[t,b'],[1,1],rfl,rfl,SqT.of ((Same.upd nz1) _ _ (kp6 _ _ hqa)),SqT.of aB,_,rfl,?_⟩⟩;have w1:=Same.upd (o:=.tup [.int 1,.int 1]) nz1;generalize upd H6 z1 (.tup [.int 1,.int 1])=H7 at w1 ⊢;refine ite2 (fun c2 => ?_) (fun c2 => ?_)
    ·have n11 : ¬ ([t,b']:List Int)=[1,1]:=fun e=>by rw [decide_eq_true e] at c2; cases c2
     have dg:DGet H7 od (.str y.1) (some (.ref r')):=.inl ⟨_,.inr y.1,.inl (w1 _ _ ho6),rfl,vk.symm⟩;have tw2:Tw K H7 qq r' y.2.1 y.2.2 (zf t b' y).2.1 (zf t b' y).2.2:=⟨SqT.of (w1 _ _ (kp6 _ _ h2)),SqT.of (w1 _ _ h6),fyy.am,fzz.am,b1,b2,b3,b4⟩;refine ⟨_,rfl,.inl ⟨rfl,_,SqL.of (w1 _ _ hr6)⟩,_,rfl,_,rfl,_,rfl,_,rfl,od,_,rfl,dg,qq,r',y.2.1,y.2.2,(zf t b' y).2.1,(zf t b' y).2.2,rfl,tw2,lef,fun r2 H8 s8 h8=>⟨zLn2,fun pz npz => ?_⟩⟩;have w9:=Same.upd (o:=.tup [.str y.1,.ref r2]) npz;have w79:=(w1.trans s8).trans w9;have hr9:=w79 _ _ hr6;refine ⟨rl,rvs,_,rfl,rfl,hr9,bO (by omega),?_⟩;have tkr:Tk (upd H8 pz (.tup [.str y.1,.ref r2])) (upd (upd H8 pz (.tup [.str y.1,.ref r2])) rl (.lst (rvs ++ [.ref pz]))):=fun c ts hc=>by
      rw [aI fun e=>by rw [e,hr9] at hc; cases hc];exact hc
     refine ⟨_,_,_,ks',rvs ++ [.ref pz],rfl,fun c o n1 n2 hc => ?_,?_,(da6.keep w79.tk).keep tkr,by omega,aB,?_,by rw [AB,EF]; omega⟩
     ·rw [aI n2]
      exact w79 _ _ (k6 c o n1 n2 (s4 c o n1 n2 hc))
     ·rw [aI or']
      exact w79 _ _ ho6
     ·rw [if_neg n11] at pr6 ⊢
      rw [CN,hrf];exact ((pr6.keep w79.tk).keep tkr).snoc ⟨pz,r2,rfl,tkr _ _ aB,tkr _ _ (w9 _ _ h8)⟩
    ·have e11:([t,b']:List Int)=[1,1]:=Bl fun e=>c2 (by rw [decide_eq_false e]; rfl)
     refine ⟨_,_,_,ks',rvs,rfl,fun c o n1 n2 hc=>w1 _ _ (k6 c o n1 n2 (s4 c o n1 n2 hc)),w1 _ _ ho6,da6.keep w1.tk,by omega,w1 _ _ hr6,?_,by omega⟩;rw [if_pos e11] at pr6 ⊢;exact pr6.keep w1.tk
   ·rintro σ H4 ⟨v7,v8,kvs,ks,rvs,rfl,s4,ho4,da,kl,hr4,pr4,rvl⟩
    have kp : ∀ c o,H c=some o->H4 c=some o:=fun c o hc=>s4 c o (fun e=>by rw [e,od0] at hc; cases hc) (fun e=>by rw [e,rl0] at hc; cases hc) (s03 _ _ hc);have zl:(ys.map (zf t b')).take ms.length=ys.map (zf t b'):=by rw [pl,<- Ag (f:=zf t b'),Bw]
    have rl':(ys.map (rf t b')).take ms.length=ys.map (rf t b'):=by rw [pl,<- Ag (f:=rf t b'),Bw]
    rw [zl] at da;rw [rl'] at pr4;have sH:Same H H4:=fun c o hc=>kp c o hc;have il:=(Ad.mp hv).1;refine ⟨_,rfl,l,_,rfl,.inl (SqL.of (kp _ _ hl)),fun fl nfl => ?_⟩;have w5:=Same.upd (o:=.lst vs) nfl;refine ⟨_,rfl,rl,_,rfl,.inl ⟨SqL.of (w5 _ _ hr4),fun tz ntz=>⟨_,rfl,zLn2,fun zt nzt => ?_⟩⟩⟩;have w6:=Same.upd (o:=.tup rvs) ntz;have w7:=Same.upd (o:=.tup [.ref tz,.ref nn]) nzt;have w57:=(w5.trans w6).trans w7;have hfl:upd (upd (upd H4 fl (.lst vs)) tz (.tup rvs)) zt (.tup [.ref tz,.ref nn]) fl=some (.lst vs):=(w6.trans w7) _ _ aB;have htz:upd (upd (upd H4 fl (.lst vs)) tz (.tup rvs)) zt (.tup [.ref tz,.ref nn]) tz=some (.tup rvs):=w7 _ _ aB;have hzt:upd (upd (upd H4 fl (.lst vs)) tz (.tup rvs)) zt (.tup [.ref tz,.ref nn]) zt=some (.tup [.ref tz,.ref nn]):=aB;generalize upd (upd (upd H4 fl (.lst vs)) tz (.tup rvs)) zt (.tup [.ref tz,.ref nn])=H7 at w57 hfl htz hzt ⊢;refine ⟨_,rfl,a,_,_,rfl,SqT.of (w57 _ _ (kp _ _ hra)),rfl,fl,vs,(i:Int),i,rfl,rfl,hfl,jB il,?_⟩;have fl0:H fl=none:=sm0 sH nfl;have tk8 : ∀ c o,c ≠ fl->H7 c=some o->upd H7 fl (.lst (vs.set i (.ref zt))) c=some o:=fun c o n hc=>by rw [aI n]; exact hc
    have s8:Same H (upd H7 fl (.lst (vs.set i (.ref zt)))):=fun c o hc=>tk8 c o (fun e=>by rw [e,fl0] at hc; cases hc) (w57 _ _ (kp _ _ hc));have t8:Tk H7 (upd H7 fl (.lst (vs.set i (.ref zt)))):=fun c ts hc=>tk8 c _ (fun e=>by rw [e,hfl] at hc; cases hc) hc;have fl8:upd H7 fl (.lst (vs.set i (.ref zt))) fl=some (.lst (vs.set i (.ref zt))):=aB;have od8:upd H7 fl (.lst (vs.set i (.ref zt))) od=some (.dK kvs):=tk8 _ _ (fun e=>by rw [<- e,ho4] at nfl; cases nfl) (w57 _ _ ho4);have da8:=(da.keep w57.tk).keep t8;have pr8:=(pr4.keep w57.tk).keep t8;have tz8:=t8 _ _ htz;have zt8:=t8 _ _ hzt;generalize upd H7 fl (.lst (vs.set i (.ref zt)))=H8 at s8 fl8 od8 da8 pr8 tz8 zt8 ⊢;have ew:(NW (M*b') (ys.map (zf t b')))=fun y=>di.1 y*t:=funext nwz;have o8:=o.keep s8;have sc:=o.so.scale b0 g4.bb;refine ⟨_,rfl,_,rfl,a,_,_,rfl,SqT.of (s8 _ _ hra),rfl,_,rfl,_,rfl,b,r,q,fl,od,nn,rs,us,ps,rbs,ws,M*b',(scl b' S).set i (fun y=>di.1 y*b' - di.1 y*t,di.2),j,(fun y=>dj.1 y*b',dj.2),rbj,kvs,ks,ys.map (zf t b'),di.2,rfl,?_,by rw [ew]; exact kI'.mono s8⟩;have mxr:IsMx (M*b') (fun y=>di.1 y*b' - di.1 y*t) (if ([t,b']:List Int)=[1,1] then [] else ys.map (rf t b')):=by
     split
     ·rename_i e
      injection e with e1 e2;injection e2 with e2 _;exact qU.congr fun y=>by rw [e1,e2,Int.sub_self]
     ·rename_i e
      have tb:t ≠ b':=fun z=>e (by
       rw [<- z] at am ⊢;rw [aAr am])
      refine ⟨by rw [rmm]; exact mx.pw,by rw [rmm]; exact mx.nd,fun y => ?_,frr⟩;rw [rmm,mx.mem,<- Int.mul_sub];constructor
      ·intro h z
       rcases Fd.mp z with z | z
       ·exact h z
       ·omega
      ·intro h z
       exact h (by rw [z,BN])
    have S1:StV H8 fl (M*b') ((scl b' S).set i (fun y=>di.1 y*b' - di.1 y*t,di.2)):=(o.st.scale M0 b0).put hl s8 fl8 ⟨zt,tz,nn,rvs,_,rfl,zt8,tz8,pr8,mxr,s8 _ _ hnn⟩;have nl:di.2.length<=6:=AX ((eX okd.srt).length_le_of_subset okd.nin) o.bs.ww.l;refine ⟨o8.bs,S1,by rw [Cn]; unfold scl; rw [Ag,o.so.sl]; exact o.bs.rm.1.symm,fun d hd => ?_,by rw [BR g3]; exact fE hdj,hrj,od8,da8,fun z hz=>⟨(fz z hz).am,(fz z hz).dvd⟩,fun z hz => ?_,fun y hy => ?_,.inr (SqT.of (s8 _ _ hnn)),okd.nin,by omega,Mb,(o.so.bm.mul g4.bb).mono (by have:=o.b24; omega),?_⟩
    ·rcases Fk hd with h | h
     ·exact sc.ok d h
     ·rw [h]
      refine ⟨fun y => ?_,okd.nin,okd.srt,fun y hy=>okd.inw y fun e=>hy (by show di.1 y*b' - di.1 y*t=0; rw [e,BN,BN]; rfl)⟩;have:=CI g6 (okd.nn y);show 0<=di.1 y*b' - di.1 y*t;omega
    ·obtain ⟨y,hy,rfl⟩:=AJ.mp hz
     exact okd.inw y.1 ((mx.mem y.1).mp (Cd hy))
    ·rw [nwz]
     have h1:=(da.2.1 y).mp hy;rw [zm] at h1;have h2:=(mx.mem y).mp h1;have h3:=okd.nn y;exact Cf (by omega) (by omega)
    ·rw [ew]
     show Bt 2900 (tot ws (fun y=>dj.1 y*b'+di.1 y*t));rw [iG (fun y=>dj.1 y*b') (fun y=>di.1 y*t) ws,eS,eS];obtain ⟨vi,hvi⟩ : ∃ vi,rs[i]?=some vi:=⟨_,Ae g1⟩;obtain ⟨rbi,hri,_,_,_,rmi⟩:=o.bs.rm.get hvi;obtain ⟨_,tb1⟩:=o.so.small hdi hri rmi;obtain ⟨_,tb2⟩:=o.so.small hdj hrj (o.bs.rm.at hrj);have b24:=o.b24;have h1:Bt 2800 (tot ws dj.1*b'):=(tb2.mul g4.bb).mono (by omega);have h2:Bt 2800 (tot ws di.1*t):=(tb1.mul g4.bt).mono (by omega);exact (h1.add h2).mono (by decide)
end
def ResL (us:List V)(ps:List (Str × Str))(rbs:List (Int × Int))(ws:List Str)(M:Int)(S:List PF)(H:Hp)(Q:VK):Rw->Prop
 | .draw i x t b=>∃ d rb,S[i]?=some d/\rbs[i]?=some rb/\IntoL us ps ws (M*b) (scl b S) i (fun y=>d.1 y*b,d.2) rb (oneW x (t*M)) [x] H Q
 | .fill i x t b=>∃ d rb,S[i]?=some d/\rbs[i]?=some rb/\(¬ tot ws d.1*b < t*M->RefL "low" i H Q)/\(tot ws d.1*b < t*M->IntoL us ps ws (M*b) (scl b S) i (fun y=>d.1 y*b,d.2) rb (oneW x (t*M - tot ws d.1*b)) [x] H Q)
 | .pour i j t b=>∃ di dj rbj,S[i]?=some di/\S[j]?=some dj/\rbs[j]?=some rbj/\((∀ y,di.1 y=0)->RefL "dry" i H Q)/\(¬ (∀ y,di.1 y=0)->IntoL us ps ws (M*b) ((scl b S).set i (fun y=>di.1 y*b - di.1 y*t,di.2)) j (fun y=>dj.1 y*b,dj.2) rbj (fun y=>di.1 y*t) di.2 H Q)
 | .empty i=>∃ d,S[i]?=some d/\∀ z l' H',Same H H'->H l'=none->H' z=some (.tup [.non,.ref l'])->StV H' l' M (S.set i (fun _=>0,d.2))->Q (.ref z) H'
 | .rinse i=>∃ d,S[i]?=some d/\(¬ (∀ y,d.1 y=0)->RefL "wet" i H Q)/\((∀ y,d.1 y=0)->∀ z l' H',Same H H'->H l'=none->H' z=some (.tup [.non,.ref l'])->StV H' l' M (S.set i (fun _=>0,[]))->Q (.ref z) H')
def kX (K:Aa):Sp:=fun vs H Q _=>∃ b r q l a rs us ps rbs ws M S β rw,vs=[.ref b,.ref l,.ref a]/\OnIn H b r q l rs us ps rbs ws M S β/\RwV H a rw/\GoodR rs.length ws rw/\ResL us ps rbs ws M S H Q rw
theorem aAi {M t b N rt rb:Int}(hM:0 < M)(h:Fr M t b N):decide (t*rb < rt*b)=decide (N*rb < rt*M):=by
 have b0:0 < b:=by have:=h.am.b1; omega
 refine decide_eq_decide.mpr ?_;have e1:rt*b*M=rt*M*b:=AR ..;have e2:t*rb*M=N*rb*b:=by rw [AR,h.e,AR]
 rw [<- EY hM,e1,e2,EY b0]
theorem nw1 {M t b N:Int}(M0:0 < M)(fr:Fr M t b N):NW M [(x,t,b)]=oneW x N:=funext fun y=>by
 rw [lP];unfold oneW;have:NW M [] y=0:=eP (by simp);rw [this,Int.add_zero,qT M0 fr]
theorem law1 {K:Aa}{H:Hp}{b r q l dd nl qa:Addr}{rs us:List V}{ps:List (Str × Str)}{rbs:List (Int × Int)}{ws:List Str}{M:Int}{S:List PF}{β i:Nat}{d:PF}{rb:Int × Int}{x:Str}{t t' b' N:Int}
  (o:OnIn H b r q l rs us ps rbs ws M S β) (hd:S[i]?=some d) (hr:rbs[i]?=some rb) (xw:x ∈ ws) (fr:Fr (M*t') t b' N) (N0:0 < N) (bN:Bt 2600 N) (t0:0 < t') (bt':Bt 200 t')
  (hm:H dd=some (.dK [(AL x,.ref qa)])) (hq:H qa=some (.tup [.int t,.int b'])) (hn:H nl=some (.lst [.str x])) :
  LawIn K H b r q l dd nl rs us ps rbs ws (M*t') (scl t' S) i (fun y=>d.1 y*t',d.2) rb [(AL x,.ref qa)] [x] [(x,t,b')] [x]:=by
 have rm:=o.bs.rm.at hr;obtain ⟨n0,sm⟩:=o.so.small hd hr rm;have b24:=o.b24;have ss:=o.so.scale t0 bt';have Mb:=Cf o.so.m0 t0;have nw:=nw1 (x:=x) Mb fr;refine ⟨o.bs,o.st.scale o.so.m0 t0,by unfold scl; rw [Ag,o.so.sl]; exact o.bs.rm.1.symm,ss.ok,fE hd,hr,hm,⟨⟨rfl,by simp⟩,fun y=>Iff.rfl,fun y hy => ?_⟩,fun z hz => ?_,fun z hz => ?_,fun y hy => ?_,.inl (SqL.of hn),fun z hz => ?_,(by show 1<=20; decide),Mb,(o.so.bm.mul bt').mono (by omega),?_⟩
 ·rw [AE.mp hy,nw]
  refine ⟨qa,t,b',?_,hq,?_⟩
  ·unfold valV
   simp
  ·unfold oneW
   rw [if_pos rfl];exact fr
 ·rw [AE.mp hz]
  exact ⟨fr.am,fr.dvd⟩
 ·rw [AE.mp hz]
  exact xw
 ·rw [AE.mp hy,nw]
  unfold oneW;rw [if_pos rfl];exact N0
 ·rw [AE.mp hz]
  exact xw
 ·rw [nw]
  show Bt 2900 (tot ws (fun y=>d.1 y*t'+oneW x N y));rw [iG (fun y=>d.1 y*t') (oneW x N) ws,eS,tU o.bs.ww.nd xw];have h1:Bt 2800 (tot ws d.1*t'):=(sm.mul bt').mono (by omega);exact (h1.add (bN.mono (by decide))).mono (by decide)
section
variable {P:Ax}{w:World}{K:Aa}{mg:Str->Option Value}{base:Heap}
abbrev Naft:List Str:=["_law_bench_here","_law_state","_law_row_here","_law_lies","_law_found"]
theorem aCg:FnScope Naft ["_law_bench_here","_law_state","_law_row_here"] (aH sAfter):=fnScOk (by decide +kernel)
theorem zX {f:Addr}{fd:Bf}(F:Fun K "_law_after" "_law_after" sAfter f fd)(T:Txt mg)(cI:Cal P w K mg base CX0 5 "_law_into" ["_law_bench_here","_law_state","_law_phial","_law_more","_law_names_here"] (pZ K))(cP:Cal P w K mg base CX0 5 "_law_poured" ["_law_bench_here","_law_state","_law_row_here"] (kK K))(cS:Cal P w K mg base CX0 5 "_law_sum" ["_law_held"] (yO K))(cU:Cal P w K mg base CX0 5 "_law_under" ["_law_one","_law_other"] (gO K))(cT:Cal P w K mg base CX0 5 "_law_take" ["_law_one","_law_other"] (lU K)):FnOk P w K mg base CX0 6 f fd ["_law_bench_here","_law_state","_law_row_here"] (kX K):=by
 refine F.ok aCg (fun vs H Q E h => ?_) (fun cdv A outer s H vs Q E hr h => ?_)
 ·obtain ⟨_,_,_,_,_,_,_,_,_,_,_,_,_,_,rfl,_⟩:=h
  rfl
 ·obtain ⟨b,r,q,l,a,rs,us,ps,rbs,ws,M,S,β,rw',rfl,o,rv,gr,res⟩:=h
  refine ⟨_,(aC (bA (aQ cJ (pit 2 0) aS (aU _))
    (aE (aM (aJ cI hr rfl aT (aA (pv 0) (aA (pv 1) (aA (pit 2 1) (aA (vF (qH (pit 2 2) (pit 2 3) uT) rfl rfl (by simp) (by simp)) (aA (dD (aA (pit 2 2) aD)) aD))))))))
    aP)
   (aC (bA (aQ cJ (pit 2 0) aS (aU _))
    (aE (aM (aJ cP hr rfl aT (aA (pv 0) (aA (pv 1) (aA (pv 2) aD))))))
    aP)
   (aC (bA (aQ cJ (pit 2 0) aS (aU _))
    (aC (aL (i:=3) aCg.nd rfl (Or.inl rfl) (aJ cS hr rfl aT (aA (aX (jZ rfl) rfl T.dict' xX (aA (bU eJ (bU bG (pv 1) (pit 2 1) (fun _ _=>rfl)) aG (fun _ _=>rfl)) aD)) aD)))
    (aC (bA (eA (bY (aJ cU hr rfl aT (aA (pv 3) (aA (pit 2 3) aD)))))
     (aE (aM (aW (aA (aW (aA aS (aA (pit 2 1) (aA dP aD)))) (aA dP aD)))))
     aP)
    (aE (aM (aJ cI hr rfl aT (aA (pv 0) (aA (pv 1) (aA (pit 2 1) (aA (vF (qH (pit 2 2) (aJ cT hr rfl aT (aA (pit 2 3) (aA (pv 3) aD))) uT) rfl rfl (by simp) (by simp)) (aA (dD (aA (pit 2 2) aD)) aD))))))))))
    aP)
   (aC (aL (i:=4) aCg.nd rfl (Or.inl rfl) (aX bV rfl T.list' eG (aA (pv 1) aD)))
   (aC (bA (PW.pt (mB (aQ cJ (pit 2 0) aS (aU _)) (iO (aQ (aCw hr.units) (bU eJ (bU bG (pv 4) (pit 2 1) (fun _ _=>rfl)) aG (fun _ _=>rfl)) (aW aD) (aU _)))))
    (aE (aM (aW (aA (aW (aA aS (aA (pit 2 1) (aA dP aD)))) (aA dP aD)))))
    aP)
   (aC (gQ (aW (aA (aW aD) (aA (bU bG (dD (aA (bU eJ (bU bG (pv 4) (pit 2 1) (fun _ _=>rfl)) aG (fun _ _=>rfl)) (aA (aW aD) aD))) (aX xV rfl T.int' xW (aA (dB cJ (pit 2 0) aS (aU _)) aD)) (fun _ _=>rfl)) aD))) (mF (pv 4) (pit 2 1) set_list))
   (aE (aM (aW (aA dP (aA (pv 4) aD))))))))))),?_⟩
  refine cut7 ?_
  intros
  have b24:=o.b24;cases rw' with
  | draw i x t b' =>
   obtain ⟨q',h1,h2⟩:=rv;obtain ⟨g1,g2,g3,g4⟩:=gr;obtain ⟨d,rb,hd,hrb,kI⟩:=res;have sq:=SqT.of (K:=K) h1;have b0:0 < b':=by have:=g3.am.b1; omega
   refine ⟨a,_,_,rfl,sq,rfl,rfl,_,rfl,iteT ⟨_,rfl,_,rfl,a,_,_,rfl,sq,rfl,fun dd ndd => ?_⟩⟩;have s1:=Same.upd (o:=.dK []) ndd;refine ⟨a,_,_,rfl,SqT.of (s1 _ _ h1),rfl,a,_,_,rfl,SqT.of (s1 _ _ h1),rfl,aB,[(.inr x,.ref q')],rfl,by show 1<=15; decide,?_⟩;have s2:Same H (upd (upd H dd (.dK [])) dd (.dK [(.inr x,.ref q')])):=fun c o hc=>by
    have n:c ≠ dd:=fun e=>by rw [e,ndd] at hc; cases hc
    rw [aI n,aI n];exact hc
   refine ⟨a,_,_,rfl,SqT.of (s2 _ _ h1),rfl,zLn1,fun nl nnl => ?_⟩;have s3:=Same.upd (o:=.lst [.str x]) nnl;have Mb:=Cf o.so.m0 b0;have fr:Fr (M*b') t b' (t*M):=⟨g3.am,by rw [<- BF]⟩;refine ⟨b,r,q,l,dd,nl,rs,us,ps,rbs,ws,M*b',scl b' S,i,_,rb,_,[x],[(x,t,b')],[x],rfl,law1 (o.keep (s2.trans s3)) hd hrb g2 fr (Cf (by omega) o.so.m0) ((g3.bt.mul o.so.bm).mono (by omega)) b0 g3.bb (s3 _ _ aB) ((s2.trans s3) _ _ h2) aB,?_⟩;rw [nw1 Mb fr];exact kI.mono (s2.trans s3)
  | fill i x t b' =>
   obtain ⟨q',h1,h2⟩:=rv;obtain ⟨g1,g2,g3⟩:=gr;obtain ⟨d,rb,hd,hrb,kL,kI⟩:=res;have sq:=SqT.of (K:=K) h1;have b0:0 < b':=by have:=g3.am.b1; omega
   have M0:=o.so.m0;obtain ⟨vs,v,hl,vl,hv,a1,mm,nn,ms,ys,rfl,ha1,hmm,pr,mx,hnn⟩:=o.st.get hd;have okd:=o.so.ok d (Ay hd);obtain ⟨kv0,k1,k2,k3,k4⟩:=aA4 pr;have nd0:(kv0.map (·.1)).Nodup:=by
    rw [k2];exact Cy.mpr (mx.nd.imp fun h e=>h (AL.inj e))
   obtain ⟨n0,sm⟩:=o.so.small hd hrb (o.bs.rm.at hrb);have tS:sumN M ys=tot ws d.1:=iF o.bs.ww.nd mx okd.inw;refine ⟨a,_,_,rfl,sq,rfl,rfl,_,rfl,iteF ⟨a,_,_,rfl,sq,rfl,rfl,_,rfl,iteF ⟨a,_,_,rfl,sq,rfl,rfl,_,rfl,iteT ⟨_,rfl,a,_,_,rfl,sq,rfl,l,_,(i:Int),.ref a1,rfl,rfl,SqL.of hl,bK hv,a1,_,0,.ref mm,rfl,rfl,SqT.of ha1,rfl,mm,ms,kv0,rfl,hmm,k1,nd0,k3,fun p np => ?_⟩⟩⟩⟩;have s1:=Same.upd (o:=.dK kv0) np;have da1:DA (upd H p (.dK kv0)) M ys kv0 (ys.map (·.1)):=⟨⟨k2,mx.nd⟩,fun y=>Iff.rfl,fun y hy=>by
    obtain ⟨x',hx,rfl⟩:=AJ.mp hy;obtain ⟨q2,mq,hq'⟩:=k4 x' hx;refine ⟨q2,_,_,nW nd0 mq,s1 _ _ hq',?_⟩;rw [mx.nw];exact mx.fr x' hx⟩
   refine ⟨p,kv0,ys.map (·.1),M,ys,rfl,aB,da1,M0,o.so.bm.mono (by omega),mx.over,by rw [tS]; exact sm.mono (by omega),fun li tl bl H2 s2 hli frl => ?_⟩;rw [tS] at frl;have s02:=s1.trans s2;have fsm:=dM M0 frl;have bl1:=frl.am.b1;have tw:Tw K H2 li q' tl bl t b':=⟨SqT.of hli,SqT.of (s02 _ _ h2),frl.am,g3.am,(sm.le frl.am.t0 fsm.1).mono (by omega),(o.so.bm.le (by omega) fsm.2).mono (by omega),g3.bt.mono (by decide),g3.bb.mono (by decide)⟩;refine ⟨_,rfl,a,_,_,rfl,SqT.of (s02 _ _ h1),rfl,li,q',tl,bl,t,b',rfl,tw,_,rfl,?_⟩;rw [aAi M0 frl];refine ite2 (fun c => ?_) (fun c => ?_)
   ·have c' : ¬ tot ws d.1*b' < t*M:=fun z=>by rw [decide_eq_true z] at c; cases c
    refine ⟨a,_,_,rfl,SqT.of (s02 _ _ h1),rfl,zLn3,fun t3 nt3=>⟨zLn2,fun zz nzz => ?_⟩⟩;have w1:=Same.upd (o:=.tup [.str "low",.int ((i:Nat):Int),.non]) nt3;have w2:=Same.upd (o:=.tup [.ref t3,.non]) nzz;exact kL c' zz t3 _ ((s02.trans w1).trans w2) aB (w2 _ _ aB)
   ·have c':tot ws d.1*b' < t*M:=Bl fun z=>c (by rw [decide_eq_false z]; rfl)
    have f1:Fr b' t b' t:=⟨g3.am,by rw [BO]⟩;obtain ⟨le,fo⟩:=fY (M1:=b') (M2:=M) b0 M0 f1 frl (by omega);rw [BO b' M] at fo;refine ⟨_,rfl,_,rfl,a,_,_,rfl,SqT.of (s02 _ _ h1),rfl,fun dd ndd => ?_⟩;have s3:=Same.upd (o:=.dK []) ndd;have s03:=s02.trans s3;refine ⟨a,_,_,rfl,SqT.of (s03 _ _ h1),rfl,a,_,_,rfl,SqT.of (s03 _ _ h1),rfl,_,rfl,q',li,t,b',tl,bl,rfl,⟨SqT.of (s03 _ _ h2),SqT.of (s3 _ _ hli),tw.a2,tw.a1,tw.st2,tw.sb2,tw.st1,tw.sb1⟩,le,fun po H4 s4 hpo=>⟨s4 _ _ aB,[(.inr x,.ref po)],rfl,by show 1<=15; decide,?_⟩⟩;have dd4:=s4 _ _ (aB (H:=H2) (a:=dd) (o:=.dK []));have dd0:H dd=none:=sm0 s02 ndd;have s5:Same H (upd H4 dd (.dK [(.inr x,.ref po)])):=fun c o hc=>by
     rw [aI fun e=>by rw [e,dd0] at hc; cases hc];exact (s03.trans s4) _ _ hc
    have pod:po ≠ dd:=fun e=>by rw [e,dd4] at hpo; cases hpo
    have po5:=(aI (H:=H4) (o:=.dK [(.inr x,.ref po)]) pod).trans hpo;refine ⟨a,_,_,rfl,SqT.of (s5 _ _ h1),rfl,zLn1,fun nl nnl => ?_⟩;have s6:=Same.upd (o:=.lst [.str x]) nnl;have Mb:=Cf M0 b0;refine ⟨b,r,q,l,dd,nl,rs,us,ps,rbs,ws,M*b',scl b' S,i,_,rb,_,[x],[(x,_,_)],[x],rfl,law1 (o.keep (s5.trans s6)) hd hrb g2 fo (by omega) (((g3.bt.mul o.so.bm).le (by omega) (by have:=BA n0 (Int.le_of_lt b0); omega)).mono (by omega)) b0 g3.bb (s6 _ _ aB) (s6 _ _ po5) aB,?_⟩;rw [nw1 Mb fo];exact (kI c').mono (s5.trans s6)
  | pour i j t b' =>
   obtain ⟨q',h1,h2⟩:=id rv;obtain ⟨di,dj,rbj,k1,k2,k3,k4,k5⟩:=res;have sq:=SqT.of (K:=K) h1;refine ⟨a,_,_,rfl,sq,rfl,rfl,_,rfl,iteF ⟨a,_,_,rfl,sq,rfl,rfl,_,rfl,iteT ⟨_,rfl,_,rfl,_,rfl,?_⟩⟩⟩;exact ⟨b,r,q,l,a,rs,us,ps,rbs,ws,M,S,β,i,j,t,b',di,dj,rbj,rfl,o,rv,gr,k1,k2,k3,k4,k5⟩
  | empty i =>
   have h1:H a=some (.tup [.str "empty",.int ((i:Nat):Int)]):=rv;obtain ⟨d,hd,k⟩:=res;have sq:=SqT.of (K:=K) h1;obtain ⟨vs,v,hl,vl,hv,a1,mm,nn,ms,ys,rfl,ha1,hmm,pr,mx,hnn⟩:=o.st.get hd;have il:=(Ad.mp hv).1;refine ⟨a,_,_,rfl,sq,rfl,rfl,_,rfl,iteF ⟨a,_,_,rfl,sq,rfl,rfl,_,rfl,iteF ⟨a,_,_,rfl,sq,rfl,rfl,_,rfl,iteF ⟨_,rfl,l,_,rfl,.inl (SqL.of hl),fun fl nfl => ?_⟩⟩⟩⟩;have s1:=Same.upd (o:=.lst vs) nfl;have hfl:upd H fl (.lst vs) fl=some (.lst vs):=aB;generalize upd H fl (.lst vs)=H1 at s1 hfl ⊢;refine ⟨a,_,_,rfl,SqT.of (s1 _ _ h1),rfl,rfl,_,rfl,iteF ⟨zLn0,fun e0 ne0 => ?_⟩⟩;have s2:=Same.upd (o:=.tup []) ne0;have he0:upd H1 e0 (.tup []) e0=some (.tup []):=aB;generalize upd H1 e0 (.tup [])=H2 at s2 he0 ⊢;have s02:=s1.trans s2;refine ⟨_,rfl,a,_,_,rfl,SqT.of (s02 _ _ h1),rfl,fl,_,(i:Int),.ref a1,rfl,rfl,SqL.of (s2 _ _ hfl),bK hv,a1,_,1,.ref nn,rfl,rfl,SqT.of (s02 _ _ ha1),rfl,zLn0,fun e1 ne1=>⟨zLn2,fun ll nll => ?_⟩⟩;have s3:=Same.upd (o:=.tup []) ne1;have s4:=Same.upd (o:=.lst [.ref nn,.ref e1]) nll;have s24:=s3.trans s4;have s04:=s02.trans s24;refine ⟨a,_,_,rfl,SqT.of (s04 _ _ h1),rfl,rfl,.inr ⟨_,rfl,ll,_,0,.ref nn,rfl,rfl,SqL.of aB,rfl,zLn2,fun zt nzt => ?_⟩⟩;have s5:=Same.upd (o:=.tup [.ref e0,.ref nn]) nzt;have hfl5:=(s24.trans s5) _ _ (s2 _ _ hfl);have he05:=(s24.trans s5) _ _ he0;have s05:=s04.trans s5;have hn5:=s05 _ _ hnn;have hzt:upd _ zt (.tup [.ref e0,.ref nn]) zt=some (.tup [.ref e0,.ref nn]):=aB (H:=upd (upd H2 e1 (.tup [])) ll (.lst [.ref nn,.ref e1]));generalize upd (upd (upd H2 e1 (.tup [])) ll (.lst [.ref nn,.ref e1])) zt (.tup [.ref e0,.ref nn])=H5 at s05 hfl5 he05 hn5 hzt ⊢;refine ⟨_,rfl,a,_,_,rfl,SqT.of (s05 _ _ h1),rfl,fl,vs,(i:Int),i,rfl,rfl,hfl5,jB il,?_⟩;refine ⟨_,rfl,zLn2,fun zz nzz => ?_⟩;have fl0:H fl=none:=nfl;have sF:Same H (upd (upd H5 fl (.lst (vs.set i (.ref zt)))) zz (.tup [.non,.ref fl])):=fun c o hc=>(Same.upd nzz) _ _ (by rw [aI (fun e=>by rw [e,fl0] at hc; cases hc)]; exact s05 _ _ hc);have tkF:Tk H5 (upd (upd H5 fl (.lst (vs.set i (.ref zt)))) zz (.tup [.non,.ref fl])):=fun c ts hc=>(Same.upd nzz) _ _ (by rw [aI (fun e=>by rw [e,hfl5] at hc; cases hc)]; exact hc);exact k zz fl _ sF fl0 aB (o.st.put hl sF ((Same.upd nzz) _ _ aB) ⟨zt,e0,nn,[],[],rfl,tkF _ _ hzt,tkF _ _ he05,.nil,qU,tkF _ _ hn5⟩)
  | rinse i =>
   have h1:H a=some (.tup [.str "rinse",.int ((i:Nat):Int)]):=rv;obtain ⟨d,hd,kB,kG⟩:=res;have sq:=SqT.of (K:=K) h1;obtain ⟨vs,v,hl,vl,hv,a1,mm,nn,ms,ys,rfl,ha1,hmm,pr,mx,hnn⟩:=o.st.get hd;have il:=(Ad.mp hv).1;refine ⟨a,_,_,rfl,sq,rfl,rfl,_,rfl,iteF ⟨a,_,_,rfl,sq,rfl,rfl,_,rfl,iteF ⟨a,_,_,rfl,sq,rfl,rfl,_,rfl,iteF ⟨_,rfl,l,_,rfl,.inl (SqL.of hl),fun fl nfl => ?_⟩⟩⟩⟩;have s1:=Same.upd (o:=.lst vs) nfl;have hfl:upd H fl (.lst vs) fl=some (.lst vs):=aB;generalize upd H fl (.lst vs)=H1 at s1 hfl ⊢;have pl:=pr.length;refine ⟨a,_,_,rfl,SqT.of (s1 _ _ h1),rfl,rfl,_,rfl,iteT ⟨_,rfl,a,_,_,rfl,SqT.of (s1 _ _ h1),rfl,fl,_,(i:Int),.ref a1,rfl,rfl,SqL.of hfl,bK hv,a1,_,0,.ref mm,rfl,rfl,SqT.of (s1 _ _ ha1),rfl,zLn0,fun x0 nx0=>⟨mm,x0,_,rfl,rfl,SqT.of ((Same.upd nx0) _ _ (s1 _ _ hmm)),SqT.of aB,_,rfl,ite2 (fun c => ?_) (fun c => ?_)⟩⟩⟩
   ·have ne : ¬ (∀ y,d.1 y=0):=fun z=>by
     have:=(gK mx).mpr z;subst this;have:ms=[]:=BQ.mp pl;subst this;exact absurd c (by decide)
    have w0:=Same.upd (o:=.tup []) nx0;refine ⟨a,_,_,rfl,SqT.of ((s1.trans w0) _ _ h1),rfl,zLn3,fun t3 nt3=>⟨zLn2,fun zz nzz => ?_⟩⟩;have w1:=Same.upd (o:=.tup [.str "wet",.int ((i:Nat):Int),.non]) nt3;have w2:=Same.upd (o:=.tup [.ref t3,.non]) nzz;exact kB ne zz t3 _ (((s1.trans w0).trans w1).trans w2) aB (w2 _ _ aB)
   have em:ms=[]:=by
    cases ms with
    | nil=>rfl
    | cons u r=>exact absurd rfl c
   have zr : ∀ y,d.1 y=0:=(gK mx).mp (BQ.mp (by rw [<- pl,em]; rfl));have k:=kG zr;have w0:=Same.upd (o:=.tup []) nx0;replace s1:=s1.trans w0;replace hfl:=w0 _ _ hfl;generalize upd H1 x0 (.tup [])=H1' at s1 hfl ⊢;refine ⟨zLn0,fun e0 ne0 => ?_⟩;have s2:=Same.upd (o:=.tup []) ne0;have he0:upd H1' e0 (.tup []) e0=some (.tup []):=aB;generalize upd H1' e0 (.tup [])=H2 at s2 he0 ⊢;have s02:=s1.trans s2;refine ⟨_,rfl,a,_,_,rfl,SqT.of (s02 _ _ h1),rfl,fl,_,(i:Int),.ref a1,rfl,rfl,SqL.of (s2 _ _ hfl),bK hv,a1,_,1,.ref nn,rfl,rfl,SqT.of (s02 _ _ ha1),rfl,zLn0,fun e1 ne1=>⟨zLn2,fun ll nll => ?_⟩⟩;have s3:=Same.upd (o:=.tup []) ne1;have s4:=Same.upd (o:=.lst [.ref nn,.ref e1]) nll;have s24:=s3.trans s4;have s04:=s02.trans s24;refine ⟨a,_,_,rfl,SqT.of (s04 _ _ h1),rfl,rfl,.inr ⟨_,rfl,ll,_,1,.ref e1,rfl,rfl,SqL.of aB,rfl,zLn2,fun zt nzt => ?_⟩⟩;have s5:=Same.upd (o:=.tup [.ref e0,.ref e1]) nzt;have hfl5:=(s24.trans s5) _ _ (s2 _ _ hfl);have he05:=(s24.trans s5) _ _ he0;have s05:=s04.trans s5;have he1:upd (upd H2 e1 (.tup [])) ll (.lst [.ref nn,.ref e1]) e1=some (.tup []):=s4 _ _ aB;have hn5:=s5 _ _ he1;have hzt:upd _ zt (.tup [.ref e0,.ref e1]) zt=some (.tup [.ref e0,.ref e1]):=aB (H:=upd (upd H2 e1 (.tup [])) ll (.lst [.ref nn,.ref e1]));generalize upd (upd (upd H2 e1 (.tup [])) ll (.lst [.ref nn,.ref e1])) zt (.tup [.ref e0,.ref e1])=H5 at s05 hfl5 he05 hn5 hzt ⊢;refine ⟨_,rfl,a,_,_,rfl,SqT.of (s05 _ _ h1),rfl,fl,vs,(i:Int),i,rfl,rfl,hfl5,jB il,?_⟩;refine ⟨_,rfl,zLn2,fun zz nzz => ?_⟩;have fl0:H fl=none:=nfl;have sF:Same H (upd (upd H5 fl (.lst (vs.set i (.ref zt)))) zz (.tup [.non,.ref fl])):=fun c o hc=>(Same.upd nzz) _ _ (by rw [aI (fun e=>by rw [e,fl0] at hc; cases hc)]; exact s05 _ _ hc);have tkF:Tk H5 (upd (upd H5 fl (.lst (vs.set i (.ref zt)))) zz (.tup [.non,.ref fl])):=fun c ts hc=>(Same.upd nzz) _ _ (by rw [aI (fun e=>by rw [e,hfl5] at hc; cases hc)]; exact hc);exact k zz fl _ sF fl0 aB (o.st.put hl sF ((Same.upd nzz) _ _ aB) ⟨zt,e0,e1,[],[],rfl,tkF _ _ hzt,tkF _ _ he05,.nil,qU,tkF _ _ hn5⟩)
end
def uA (C c0 c3 c4:Addr):Sp:=fun vs H Q E=>∃ p dx b r q l qa rs us ps rbs ws M S β i j t b' di dj rbj n,vs=[.ref p,.ref b,.ref l,.int (n:Nat)]/\n < 1000/\H p=some (.ins C dx (fs3 "one" "other" "part" (.int (i:Nat)) (.int (j:Nat)) (.ref qa)))/\H qa=some (.tup [.int t,.int b'])/\RwA t b'/\1<=t/\t<=b'/\i ≠ j/\OnIn H b r q l rs us ps rbs ws M S β/\S[i]?=some di/\S[j]?=some dj/\rbs[j]?=some rbj /\
 ((∀ y,di.1 y=0)->BadE c0 [("phial",.int (i:Nat)),("place",.int (n:Nat))] H E)/\(¬ (∀ y,di.1 y=0)->IntoR c3 c4 us ps ws (M*b') ((scl b' S).set i (fun y=>di.1 y*b' - di.1 y*t,di.2)) j (fun y=>dj.1 y*b',dj.2) rbj (fun y=>di.1 y*t) di.2 n H Q E)
theorem oO (g:Str × Int × Int->Str × Int × Int) : ∀ {ys:List (Str × Int × Int)} {vs:List V},vs.length=ys.length->(∀ (i:Nat) y v,ys[i]?=some y->vs[i]?=some v->Pr H v (g y))->PrL H vs (ys.map g)
 | [],[],_,_=>.nil
 | y :: ys,v :: vs,hl,h=>.cons (h 0 y v rfl rfl) (oO g (by simpa using hl) fun i y v hy hv=>h (i+1) y v (by simpa using hy) (by simpa using hv))
def mt (t b:Int):Int:=(1*b - t*1) / G (1*b - t*1) (1*b)
def mb (t b:Int):Int:=1*b / G (1*b - t*1) (1*b)
def sf (t b:Int)(y:Str × Int × Int):Str × Int × Int:=(y.1,y.2.1*mt t b / G (y.2.1*mt t b) (y.2.2*mb t b),y.2.2*mb t b / G (y.2.1*mt t b) (y.2.2*mb t b))
theorem mtb {t b:Int}(a:Amt t b)(tb:t<=b):t*1<=1*b/\Amt (mt t b) (mb t b)/\mt t b*b=(b - t)*mb t b:=by
 have b1:=a.b1;have f1:Fr 1 1 1 1:=⟨⟨by decide,by decide,by decide +kernel⟩,rfl⟩;have f2:Fr b t b t:=⟨a,by rw [BO]⟩;obtain ⟨h1,h2⟩:=fY (M1:=1) (M2:=b) (by decide) (by omega) f1 f2 (by omega);refine ⟨h1,h2.am,?_⟩;have:=h2.e;unfold mt mb;simp only [Int.one_mul,Int.mul_one] at this ⊢;exact this
theorem aGn {M N t b:Int}(M0:0 < M)(h:Fr M y.2.1 y.2.2 N)(a:Amt t b)(tb:t<=b):Fr (M*b) (sf t b y).2.1 (sf t b y).2.2 (N*b - N*t):=by
 obtain ⟨_,am,e⟩:=mtb a tb;have m1:=am.b1;refine iC (rC M0 h am) (Cf M0 (by omega)) ?_;generalize mt t b=x at *
 generalize mb t b=z at *
 calc N*x*(M*b)=N*M*(x*b):=by grind
  _=N*M*((b - t)*z):=by rw [e]
  _=(N*b - N*t)*(M*z):=by grind
section
variable {P:Ax}{w:World}{K:Aa}{mg:Str->Option Value}{base:Heap}{cP c0 c1 c2 c3 c4 c5 f0 f3 f4 C:Addr}
abbrev Nop:List Str:=["self","bench","phials","place","holds","names","goes","stays","behind"]
theorem gG:FnScope Nop Non (aH gP):=fnScOk (by decide +kernel)
theorem ndp:(["ware","many","self"]:List Str).Nodup:=by decide +kernel
theorem zM {f aO:Addr}{fd g0:Bf}(F:Fun K "onto_at" "Pour.onto_at" gP f fd)(T:Txt mg)(D:DCl K C ["one","other","part"])(mO:mg "ONE" = some (.ref aO))(sO : ∀ H:Hp,SqT K H aO [.int 1,.int 1])(R:ErB K mg cP c0 c1 c2 c3 c4 c5 f0 f3 f4)(F0:FnOk P w K mg base CX0 1 f0 g0 ["self","place","phial"] (spI2 c0))(b0':Binds K g0 ["self","place","phial"] [])
  (cT:Cal P w K mg base CX0 6 "times" ["one","other"] (oF K)) (cMi:Cal P w K mg base CX0 6 "minus" ["one","other"] (kQ K)) (cX:Cal P w K mg base CX0 6 "mixture" ["pairs"] (fK K)) (cH:Cal P w K mg base CX0 6 "with_phial" ["phials","phial","holds","names"] pW) (cM:Cal P w K mg base (CXg P w) 6 "with_more" ["bench","phials","phial","comes","names","place"] (uB K c3 c4)):FnOk P w K mg base (CXg P w) 7 f fd Non (uA C c0 c3 c4):=by
 refine F.okF gG (fun vs H Q E h => ?_) (fun cdv A outer s H vs Q E hr h => ?_)
 ·obtain ⟨_,_,_,_,_,_,_,_,_,_,_,_,_,_,_,_,_,_,_,_,_,_,_,rfl,_⟩:=h
  rfl
 ·obtain ⟨p,dx,b,r,q,l,qa,rs,us,ps,rbs,ws,M,S,β,i,j,t,b',di,dj,rbj,n,rfl,hn,hp,hqa,ra,t1,tb,ij,o,hdi,hdj,hrj,kD,kI⟩:=h
  refine ⟨_,(aC (aL (i:=4) gG.nd rfl (Or.inl rfl) (bU eJ (bU bG (pv 2) (jO (pv 0) rfl) (fun _ _=>rfl)) aG (fun _ _=>rfl)))
   (aC (aL (i:=5) gG.nd rfl (Or.inl rfl) (bU eJ (bU bG (pv 2) (jO (pv 0) rfl) (fun _ _=>rfl)) aG (fun _ _=>rfl)))
   (aC (bA (aQ (vN hr.units) (pv 4) (aW aD) (aU _))
    (aE (iP (k:=1) rfl xe_f rfl (hr.mono (by decide)) rfl R.r0.m (R.r0.e "place" (by simp)).i F0 b0' (aA (pv 3) (aA (jO (pv 0) rfl) aD))))
    aP)
   (aC (qG (iy:=6) (N':=["ware","many","self"]) (g:=gTup K 2 (oZ (gName 0) (oZ (gName 1) gNil))) (fun σ=>[none,none,some 0].map fun t=>t.bind fun j=>(σ[j]?).join) rfl rfl (by decide +kernel) (by decide +kernel)
     (sX (sc:=aH gP) rfl (by decide +kernel)) (fun _ _ _=>gN (sc:=aH gP) (N:=Nop) [none,none,some 0] rfl rfl rfl rfl (by decide +kernel))
     (gR (pv 4)) (fun _ _ _ _ _ _=>fS rfl (bR (aV (i:=0) ndp rfl (Or.inl rfl) (Or.inr rfl)) (bR (aV (i:=1) ndp rfl (Or.inl rfl) (Or.inr rfl)) eO)))
     (fun _ _ _ _ _ _=>eN)
     (fun _ _ _ _ _ _=>aW (aA (pv 0) (aA (aJ cT hr rfl aT (aA (pv 1) (aA (vE (K:=K) rfl (pv 2) rfl) aD))) aD))) gG.nd rfl (Or.inl rfl) (Or.inr rfl) rfl)
   (aC (qG (iy:=7) (N':=["ware","many","self"]) (g:=gTup K 2 (oZ (gName 0) (oZ (gName 1) gNil))) (fun σ=>[none,none,some 0].map fun t=>t.bind fun j=>(σ[j]?).join) rfl rfl (by decide +kernel) (by decide +kernel)
     (sX (sc:=aH gP) rfl (by decide +kernel)) (fun _ _ _=>gN (sc:=aH gP) (N:=Nop) [none,none,some 0] rfl rfl rfl rfl (by decide +kernel))
     (gR (pv 4)) (fun _ _ _ _ _ _=>fS rfl (bR (aV (i:=0) ndp rfl (Or.inl rfl) (Or.inr rfl)) (bR (aV (i:=1) ndp rfl (Or.inl rfl) (Or.inr rfl)) eO)))
     (fun _ _ _ _ _ _=>eN)
     (fun _ _ _ _ _ _=>aW (aA (pv 0) (aA (aJ cT hr rfl aT (aA (pv 1) (aA (aJ cMi hr rfl aT (aA (dA (v:=.ref aO) rfl mO rfl) (aA (vE (K:=K) rfl (pv 2) rfl) aD))) aD))) aD))) gG.nd rfl (Or.inl rfl) (Or.inr rfl) rfl)
   (aC (aL (i:=8) gG.nd rfl (Or.inl rfl) (aJ cM hr rfl qM (aA (pv 1) (aA (pv 2) (aA (jO (pv 0) rfl) (aA (aX bH rfl T.tup' cZ (aA (pv 6) aD)) (aA (pv 5) (aA (pv 3) aD))))))))
   (aE (aM (aJ cH hr rfl aT (aA (pv 8) (aA (jO (pv 0) rfl) (aA (aJ cX hr rfl aT (aA (pv 7) aD)) (aA (pv 5) aD))))))))))))),?_⟩
  refine cut7 ?_
  intros
  have E1:=aHf (f1 := "one") (f2 := "other") (f3 := "part") (u1:=.int (i:Nat)) (u2:=.int (j:Nat)) (u3:=.ref qa) (by decide +kernel) (by decide +kernel);have E2:=aHe (f1 := "one") (f2 := "other") (f3 := "part") (u1:=.int (i:Nat)) (u2:=.int (j:Nat)) (u3:=.ref qa) (by decide +kernel);have E3:=aHd (f1 := "one") (f2 := "other") (f3 := "part") (u1:=.int (i:Nat)) (u2:=.int (j:Nat)) (u3:=.ref qa);obtain ⟨vs,v,hl,vl,hv,a,mm,nn,ms,ys,rfl,ha,hm,pr,mx,hnn⟩:=o.st.get hdi;have M0:=o.so.m0;have b24:=o.b24;have am:=ra.am;have okd:=o.so.ok di (Ay hdi);have b0:0 < b':=by have:=am.b1; omega
  have Mb:=Cf M0 b0;have pl:=pr.length;have fy : ∀ y ∈ ys,Fr M y.2.1 y.2.2 (di.1 y.1):=mx.fr;have sl16:S.length<=16:=by rw [o.so.sl,<- o.bs.rm.1]; exact o.bs.bn.l16
  have i16:i < 16:=by
   have h1:=(Ad.mp hdi).1;omega
  have j16:j < S.length:=(Ad.mp hdj).1;obtain ⟨vi,hvi⟩ : ∃ vi,rs[i]?=some vi:=⟨_,Ae (by have:=(Ad.mp hdi).1; have:=o.so.sl; have:=o.bs.rm.1; omega)⟩;obtain ⟨rbi,hri,_,_,_,rmi⟩:=o.bs.rm.get hvi;obtain ⟨tn,tbt⟩:=o.so.small hdi hri rmi;refine ⟨_,rfl,_,rfl,p,C,dx,_,_,rfl,hp,D.cl,D.na _ (by simp),E1,l,_,(i:Int),.ref a,rfl,rfl,SqL.of hl,bK hv,a,_,0,.ref mm,rfl,rfl,SqT.of ha,rfl,?_⟩;refine ⟨_,rfl,_,rfl,p,C,dx,_,_,rfl,hp,D.cl,D.na _ (by simp),E1,l,_,(i:Int),.ref a,rfl,rfl,SqL.of hl,bK hv,a,_,1,.ref nn,rfl,rfl,SqT.of ha,rfl,?_⟩;refine ⟨_,rfl,zLn0,fun z0 nz0=>⟨mm,z0,_,rfl,rfl,SqT.of ((Same.upd nz0) _ _ hm),SqT.of aB,_,rfl,ite2 (fun c => ?_) (fun c => ?_)⟩⟩
  ·have em:ms=[]:=by
    cases ms with
    | nil=>rfl
    | cons u r=>exact absurd c (by show ¬ (false=true); decide)
   have z : ∀ y,di.1 y=0:=(gK mx).mp (BQ.mp (by rw [<- pl,em]; rfl));have s1:=Same.upd (o:=.tup []) nz0;exact ⟨_,rfl,_,rfl,p,C,dx,_,_,rfl,s1 _ _ hp,D.cl,D.na _ (by simp),E1,aEx hn (by omega) ((kD z).mono s1)⟩
  have ne : ¬ (∀ y,di.1 y=0):=fun z=>by
   have:=(gK mx).mpr z;subst this;have:ms=[]:=BQ.mp pl;subst this;exact absurd rfl c
  have kI':=kI ne;have s1:=Same.upd (o:=.tup []) nz0;generalize upd H z0 (.tup [])=H1 at s1 ⊢;have yl:ys.length<=6:=AX (wF mx okd.inw) o.bs.ww.l;have ysm : ∀ y ∈ ys,Bt 2600 (di.1 y.1)/\Bt 4000 y.2.1/\Bt 4000 y.2.2:=fun y ym=>by
   have yS:di.1 y.1<=tot ws di.1:=by
    have e1:=(iF o.bs.ww.nd mx okd.inw);have e2:=(pK M0 mx.over ys.length y.1).2;rw [Bw,mx.nw] at e2;omega
   have ynn:=okd.nn y.1;have by1:Bt 2600 (di.1 y.1):=(tbt.le ynn yS).mono (by omega);have fyy:=fy y ym;have fsm:=dM M0 fyy;exact ⟨by1,(by1.le fyy.am.t0 fsm.1).mono (by decide),(o.so.bm.le (by have:=fyy.am.b1; omega) fsm.2).mono (by omega)⟩
  refine ⟨_,rfl,mm,rfl,⟨_,SqT.of (s1 _ _ hm)⟩,fun gl ngl => ?_⟩;refine gA (Ys.tup (SqT.of (K:=K) (s1 _ _ hm))) (fun k _ y H=>∃ x,ys[k]?=some x/\Pr H y (zf t b' x)) (fun _ _ _ _ _ h tk=>by obtain ⟨x,e,h⟩:=h; exact ⟨x,e,h.keep tk⟩) ngl (by omega) (fun k u H' R hu sm' hR => ?_) (fun gvs H2 s2 hgl gvl hgv => ?_)
  ·obtain ⟨z,hz,pz,qz,rfl,h1,h2⟩:=pr.get hu
   have s':=s1.trans sm';have zm:=Ay hz;obtain ⟨_,z1,z2⟩:=ysm z zm;refine ⟨pz,_,rfl,SqT.of (s' _ _ h1),rfl,_,_,rfl,_,_,rfl,rfl,((Keep.refl _).set rfl).set rfl,?_⟩;refine ⟨_,rfl,_,rfl,_,rfl,p,C,dx,_,_,rfl,s' _ _ hp,D.cl,D.na _ (by simp),E3,qz,qa,z.2.1,z.2.2,t,b',rfl,⟨SqT.of (s' _ _ h2),SqT.of (s' _ _ hqa),(fy z zm).am,am,z1,z2,ra.bt.mono (by decide),ra.bb.mono (by decide)⟩,fun r' H5 s5 h5=>⟨zLn2,fun l' hl' => ?_⟩⟩;exact hR _ _ (s5.trans (Same.upd hl')) ⟨z,hz,l',r',rfl,aB,Same.upd hl' _ _ h5⟩
  have prg:PrL H2 gvs (ys.map (zf t b')):=oO _ (by omega) fun k y v hy hv'=>by
   obtain ⟨u',hu'⟩ : ∃ u',ms[k]?=some u':=⟨_,Ae (by have:=(Ad.mp hy).1; omega)⟩;obtain ⟨x,e,h⟩:=hgv k u' v hu' hv';rw [hy] at e;cases e;exact h
  have s02:=s1.trans s2;obtain ⟨mle,mam,me⟩:=mtb am tb;have mm1:=mam.b1;have mbS:Bt 4000 (mb t b'):=by
   have g0:=nU (a:=1*b' - t*1) (b:=1*b') (by omega);exact (ra.bb.le (by omega) (by unfold mb; rw [Int.one_mul]; exact BD _ (by omega))).mono (by decide)
  have mtS:Bt 4000 (mt t b'):=by
   refine (ra.bb.le mam.t0 ?_).mono (by decide);unfold mt;exact Ej (BD _ (by omega)) (by omega)
  refine ⟨_,rfl,mm,rfl,⟨_,SqT.of (s02 _ _ hm)⟩,fun sl nsl => ?_⟩;refine gA (Ys.tup (SqT.of (K:=K) (s02 _ _ hm))) (fun k _ y H=>∃ x,ys[k]?=some x/\Pr H y (sf t b' x)) (fun _ _ _ _ _ h tk=>by obtain ⟨x,e,h⟩:=h; exact ⟨x,e,h.keep tk⟩) nsl (by omega) (fun k u H' R hu sm' hR => ?_) (fun svs H3 s3 hsl svl hsv => ?_)
  ·obtain ⟨z,hz,pz,qz,rfl,h1,h2⟩:=pr.get hu
   have s':=s02.trans sm';have zm:=Ay hz;obtain ⟨_,z1,z2⟩:=ysm z zm;refine ⟨pz,_,rfl,SqT.of (s' _ _ h1),rfl,_,_,rfl,_,_,rfl,rfl,((Keep.refl _).set rfl).set rfl,?_⟩;refine ⟨_,rfl,_,rfl,_,rfl,p,C,dx,_,_,rfl,s' _ _ hp,D.cl,D.na _ (by simp),E3,aO,qa,1,1,t,b',rfl,⟨sO _,SqT.of (s' _ _ hqa),⟨by decide,by decide,by decide +kernel⟩,am,dE 4000 (c:=2) (by decide) (by decide),dE 4000 (c:=2) (by decide) (by decide),ra.bt.mono (by decide),ra.bb.mono (by decide)⟩,mle,fun rm H4 s4 hrm => ?_⟩;refine ⟨qz,rm,z.2.1,z.2.2,mt t b',mb t b',rfl,⟨SqT.of ((s'.trans s4) _ _ h2),SqT.of hrm,(fy z zm).am,mam,z1,z2,mtS,mbS⟩,fun r' H5 s5 h5=>⟨zLn2,fun l' hl' => ?_⟩⟩;exact hR _ _ ((s4.trans s5).trans (Same.upd hl')) ⟨z,hz,l',r',rfl,aB,Same.upd hl' _ _ h5⟩
  have prs:PrL H3 svs (ys.map (sf t b')):=oO _ (by omega) fun k y v hy hv'=>by
   obtain ⟨u',hu'⟩ : ∃ u',ms[k]?=some u':=⟨_,Ae (by have:=(Ad.mp hy).1; omega)⟩;obtain ⟨x,e,h⟩:=hsv k u' v hu' hv';rw [hy] at e;cases e;exact h
  have s03:=s02.trans s3;refine ⟨_,rfl,_,rfl,_,rfl,p,C,dx,_,_,rfl,s03 _ _ hp,D.cl,D.na _ (by simp),E2,_,rfl,gl,_,rfl,.inl ⟨SqL.of (s3 _ _ hgl),fun gt ngt => ?_⟩⟩;have s4:=Same.upd (o:=.tup gvs) ngt;have hgt:upd H3 gt (.tup gvs) gt=some (.tup gvs):=aB;generalize upd H3 gt (.tup gvs)=H4 at s4 hgt ⊢;have s04:=s03.trans s4;have o4:=o.keep s04;have zm:(ys.map (zf t b')).map (·.1)=ys.map (·.1):=by rw [Cg]; rfl
  have smm:(ys.map (sf t b')).map (·.1)=ys.map (·.1):=by rw [Cg]; rfl
  have fz : ∀ z ∈ ys.map (zf t b'),Fr (M*b') z.2.1 z.2.2 (di.1 z.1*t):=fun z hz=>by
   obtain ⟨y,hy,rfl⟩:=AJ.mp hz;exact yH M0 (fy y hy) am
  have fs : ∀ z ∈ ys.map (sf t b'),Fr (M*b') z.2.1 z.2.2 (di.1 z.1*b' - di.1 z.1*t):=fun z hz=>by
   obtain ⟨y,hy,rfl⟩:=AJ.mp hz;exact aGn M0 (fy y hy) am tb
  have nwz:NW (M*b') (ys.map (zf t b'))=fun y=>di.1 y*t:=funext fun y=>by
   rw [fV Mb (f:=fun y=>di.1 y*t) (by rw [zm]; exact mx.nd) fz,zm]
   by_cases c:y ∈ ys.map (·.1)
   ·rw [if_pos c]
   ·rw [if_neg c]
    have:di.1 y=0:=Bl fun h=>c ((mx.mem y).mpr h);rw [this,BN]
  have nws:NW (M*b') (ys.map (sf t b'))=fun y=>di.1 y*b' - di.1 y*t:=funext fun y=>by
   rw [fV Mb (f:=fun y=>di.1 y*b' - di.1 y*t) (by rw [smm]; exact mx.nd) fs,smm]
   by_cases c:y ∈ ys.map (·.1)
   ·rw [if_pos c]
   ·rw [if_neg c]
    have:di.1 y=0:=Bl fun h=>c ((mx.mem y).mpr h);rw [this,BN,BN];rfl
  have sc:=o.so.scale b0 ra.bb;have bMb:Bt 2900 (M*b'):=(o.so.bm.mul ra.bb).mono (by omega);have nl:di.2.length<=6:=AX ((eX okd.srt).length_le_of_subset okd.nin) o.bs.ww.l;have hin : ∀ y ∈ ys,y.1 ∈ ws:=fun y hy=>okd.inw y.1 ((mx.mem y.1).mp (Cd hy));refine ⟨_,rfl,_,rfl,b,r,q,l,gt,nn,rs,us,ps,rbs,ws,M*b',scl b' S,j,(fun y=>dj.1 y*b',dj.2),rbj,gvs,ys.map (zf t b'),di.2,n,rfl,hn,?_,?_⟩
  ·refine ⟨o4.bs.bn,o4.bs.rm,o.bs.ww,o4.st.scale M0 b0,by unfold scl; rw [Ag,o.so.sl]; exact o.bs.rm.1.symm,sc.ok,fE hdj,hrj,hgt,prg.keep (s3.trans s4).tk,fun z hz=>⟨(fz z hz).am,(fz z hz).dvd⟩,fun z hz => ?_,by rw [Ag]; exact yl,s04 _ _ hnn,okd.nin,by omega,Mb,bMb,?_⟩
   ·obtain ⟨y,hy,rfl⟩:=AJ.mp hz
    exact hin y hy
   ·rw [nwz]
    show Bt 2900 (tot ws (fun y=>dj.1 y*b'+di.1 y*t));rw [iG (fun y=>dj.1 y*b') (fun y=>di.1 y*t) ws,eS,eS];obtain ⟨_,tb2⟩:=o.so.small hdj hrj (o.bs.rm.at hrj);have h1:Bt 2800 (tot ws dj.1*b'):=(tb2.mul ra.bb).mono (by omega);have h2:Bt 2800 (tot ws di.1*t):=(tbt.mul ra.bt).mono (by omega);exact (h1.add h2).mono (by decide)
  ·rw [nwz]
   have kI4:=kI'.mono s04;refine ⟨kI4.1,fun c nm' u=>⟨(kI4.2 c nm' u).1,fun e l' H5 s5 nl' st5 => ?_⟩⟩;obtain ⟨vs5,hl5,vl5,hvs5⟩:=st5.ex;have s35:=s4.trans s5;have sumS:sumN (M*b') (ys.map (sf t b'))=tot ws (fun y=>di.1 y*b' - di.1 y*t):=by
    rw [<- nws];exact (kA o.bs.ww.nd fun x hx=>by
     obtain ⟨y,hy,rfl⟩:=AJ.mp hx;exact hin y hy).symm
   have ovs:Over (M*b') (ys.map (sf t b')):=fun z hz=>⟨(fs z hz).am,(fs z hz).dvd⟩;refine ⟨_,rfl,_,rfl,p,C,dx,_,_,rfl,(s04.trans s5) _ _ hp,D.cl,D.na _ (by simp),E1,_,rfl,sl,svs,ys.map (sf t b'),M*b',rfl,SqL.of (s35 _ _ hsl),prs.keep s35.tk,by rw [Ag]; omega,ovs,Mb,bMb.mono (by decide),?_,fun xm xs' xy H6 s6 hxm pxm mxm => ?_⟩
   ·have n1:=cQ Mb ovs
    have h1:Bt 2800 (tot ws di.1*b'):=(tbt.mul ra.bb).mono (by omega);refine (h1.le n1 ?_).mono (by decide);rw [sumS,<- eS];have : ∀ ws:List Str,tot ws (fun y=>di.1 y*b' - di.1 y*t)<=tot ws (fun y=>di.1 y*b'):=fun ws=>by
     induction ws with
     | nil=>exact Du _
     | cons y r ih =>
      unfold tot at ih ⊢;rw [Ai,Ai,AI,AI];have:=BA (okd.nn y) (show 0<=t by omega);omega
    exact this ws
   ·have st6:=st5.keep s6
    have svl:vs5.length<=20:=by
     rw [vl5,Cn];unfold scl;rw [Ag];omega
    have mxz:IsMx (M*b') (fun y=>di.1 y*b' - di.1 y*t) xy:=by
     have:=IsMx.of mxm;rw [nws] at this;exact this
    have si:i < vs5.length:=by
     rw [vl5,Cn];unfold scl;rw [Ag];exact (Ad.mp hdi).1
    refine ⟨_,rfl,l',i,.ref xm,.ref nn,vs5,rfl,s6 _ _ hl5,si,svl,fun l7 z7 H7 s7 nl7 hz7 hl7 => ?_⟩;have s47:=(s5.trans s6).trans s7;refine (kI4.2 c nm' u).2 e l7 H7 s47 (sm0 (s5.trans s6) nl7) ?_;have:=st6.put (d:=(fun y=>di.1 y*b' - di.1 y*t,di.2)) (s6 _ _ hl5) s7 hl7 ⟨z7,xm,nn,xs',xy,rfl,hz7,s7 _ _ hxm,pxm.keep s7.tk,mxz,(s04.trans s47) _ _ hnn⟩;rw [List.set_comm _ _ (AM ij)] at this;exact this
end
def ResP (c0 c1 c2 c3 c4:Addr)(us:List V)(ps:List (Str × Str))(rbs:List (Int × Int))(ws:List Str)(M:Int)(S:List PF)(n:Nat)(H:Hp)(Q:VK)(E:XK):Rw->Prop
 | .pour i j t b=>∃ di dj rbj,S[i]?=some di/\S[j]?=some dj/\rbs[j]?=some rbj/\((∀ y,di.1 y=0)->BadE c0 [("phial",.int (i:Nat)),("place",.int (n:Nat))] H E)/\(¬ (∀ y,di.1 y=0)->IntoR c3 c4 us ps ws (M*b) ((scl b S).set i (fun y=>di.1 y*b - di.1 y*t,di.2)) j (fun y=>dj.1 y*b,dj.2) rbj (fun y=>di.1 y*t) di.2 n H Q E)
 | _=>False
theorem RwV.kw {M:Int}{n:Nat}(h:RwV H a rw)(res:ResP c0 c1 c2 c3 c4 us ps rbs ws M S n H Q E rw) : ∃ b x us,V.ref a = .ref b/\H b=some (.tup (.str x :: us))/\x ∈ kws:=by
 cases rw with
 | draw _ _ _ _=>exact res.elim
 | fill _ _ _ _=>exact res.elim
 | pour _ _ _ _=>obtain ⟨q,h1,_⟩:=h; exact ⟨a,_,_,rfl,h1,by decide +kernel⟩
 | empty _=>exact res.elim
 | rinse _=>exact res.elim
def kU (K:Aa)(c0 c1 c2 c3 c4:Addr):Sp:=fun vs H Q E=>∃ b r q l a rs us ps rbs ws M S β rw n,vs=[.ref b,.ref l,.ref a,.int ((n:Nat):Int)]/\n < 1000/\OnIn H b r q l rs us ps rbs ws M S β/\RwV H a rw/\GoodR rs.length ws rw/\ResP c0 c1 c2 c3 c4 us ps rbs ws M S n H Q E rw
def uG (K:Aa)(c0 c1 c2 c3 c4:Addr):Sp:=fun vs H Q E=>∃ b r q l a rs us ps rbs ws M S β rw,vs=[.ref b,.ref l,.ref a]/\OnIn H b r q l rs us ps rbs ws M S β/\RwV H a rw/\GoodR rs.length ws rw/\ResP c0 c1 c2 c3 c4 us ps rbs ws M S 0 H Q E rw
abbrev aBc (CP c0 c1 c2 c3 c4:Addr):List (Addr × Sp):=[(CP,uA CP c0 c3 c4)]
section
variable {P:Ax}{w:World}{K:Aa}{mg:Str->Option Value}{base:Heap}{cP c0 c1 c2 c3 c4 c5 f0 f3 f4 CP:Addr}
theorem yW:FnScope ["bench","phials","row","place"] ["bench","phials","row","place"] (aH sDoneAt):=fnScOk (by decide +kernel)
theorem vX (F:Fun K "done_at" "done_at" sDoneAt f fd)(cD:Cal P w K mg base (CXg P w) 7 "deed_at" ["bench","row","place"] (kW K CP))(hT : ∀ c ∈ aBc CP c0 c1 c2 c3 c4,Cls K c.1/\MCal P w K mg base (CXg P w) 7 c.1 "onto_at" Non c.2):FnOk P w K mg base (CXg P w) 8 f fd ["bench","phials","row","place"] (kU K c0 c1 c2 c3 c4):=by
 refine F.okF yW (fun vs H Q E h => ?_) (fun cdv A outer s H vs Q E hr h => ?_)
 ·obtain ⟨_,_,_,_,_,_,_,_,_,_,_,_,_,_,_,rfl,_⟩:=h
  rfl
 ·obtain ⟨b,r,q,l,a,rs,us,ps,rbs,ws,M,S,β,rw',n,rfl,hn,o,rv,gr,res⟩:=h
  refine ⟨_,aE (aM (aE3 hT hr qM (aJ cD hr rfl qM (aA (pv 0) (aA (pv 2) (aA (pv 3) aD)))) (aA (pv 0) (aA (pv 1) (aA (pv 3) aD))))),?_⟩;have bn:BnV H b rs.length:=⟨r,_,rs,o.bs.bn.hp,o.bs.bn.hr,rfl⟩;have s16:S.length<=16:=by rw [o.so.sl,<- o.bs.rm.1]; exact o.bs.bn.l16
  refine ⟨_,rfl,_,rfl,_,rfl,b,rs.length,.ref a,n,rfl,bn,rv.row gr o.bs.ww,rv.kw res,fun a' x us' p dx C fs H' ev ha s' np hp dO => ?_⟩;cases ev;cases rw' with
  | draw i x' t b'=>exact res.elim
  | fill i x' t b'=>exact res.elim
  | pour i j t b' =>
   obtain ⟨q',h1,h2⟩:=rv;rw [h1] at ha;cases ha;obtain ⟨di,dj,rbj,hdi,hdj,hrj,kD,kI⟩:=res;obtain ⟨g1,g2,g3,g4,g5,g6⟩:=gr;cases dO with
   | pour u1 u2 u3 =>
    refine ⟨CP,_,p,dx,_,Au ..,rfl,hp,aFt (by decide +kernel) (by decide +kernel) (by decide +kernel),_,rfl,_,rfl,_,rfl,?_⟩;exact ⟨p,dx,b,r,q,l,q',rs,us,ps,rbs,ws,M,S,β,i,j,t,b',di,dj,rbj,n,rfl,hn,hp,s' _ _ h2,g4,g5,g6,g3,o.keep s',hdi,hdj,hrj,fun c=>(kD c).mono s',fun c=>(kI c).mono s'⟩
  | empty i=>exact res.elim
  | rinse i=>exact res.elim
theorem aEr:FnScope ["bench","phials","row"] ["bench","phials","row"] (aH sDone):=fnScOk (by decide +kernel)
theorem aDd (F:Fun K "done" "done" sDone f fd)(cD:Cal P w K mg base (CXg P w) 8 "done_at" ["bench","phials","row","place"] (kU K c0 c1 c2 c3 c4)):FnOk P w K mg base (CXg P w) 9 f fd ["bench","phials","row"] (uG K c0 c1 c2 c3 c4):=by
 refine F.okF aEr (fun vs H Q E h => ?_) (fun cdv A outer s H vs Q E hr h => ?_)
 ·obtain ⟨_,_,_,_,_,_,_,_,_,_,_,_,_,_,rfl,_⟩:=h
  rfl
 ·obtain ⟨b,r,q,l,a,rs,us,ps,rbs,ws,M,S,β,rw',rfl,o,rv,gr,res⟩:=h
  refine ⟨_,aE (aM (aJ cD hr rfl qM (aA (pv 0) (aA (pv 1) (aA (pv 2) (aA aG aD)))))),?_⟩;exact ⟨_,rfl,_,rfl,_,rfl,b,r,q,l,a,rs,us,ps,rbs,ws,M,S,β,rw',0,rfl,by decide,o,rv,gr,res⟩
end
end K34
namespace TR
open PySem PySem.Spec PyProof.Rows L2 GM
theorem qB {σ:L2.St}(S:L2.St->Hp->Prop)(h : ∀ σ' H',S σ' H'->u D σ' H')(g : ∀ N:L2.St->Hp->Prop,(∀ σ' H',S σ' H'->N σ' H')->t { D with nx:=N } σ H):tSeq t u D σ H:=g (u D) h
def Top2 (l:List Int)(f s:Int):Prop:=∃ r,(l ++ [0,0]).Perm (f :: s :: r)/\s<=f/\∀ x ∈ r,x<=s
def Nd (ds:List Int)(d:Int):Prop:=∃ f s,Top2 ds f s/\d=max f (s+1)
def av:List Int->Int
 | []=>0
 | c :: r=>av r - c+1
def Okc:List Int->Prop
 | []=>True
 | c :: r=>Okc r/\0<=c/\c < 64/\c<=av r
def Gd (p:List Int)(m l:Int):Prop:=∀ r,Okc r->l<=av r->Okc (p ++ r)/\av r - l+m<=av (p ++ r)
def Am (H:Hp)(m:Addr)(n:Nat):Prop:=∃ t b:Int,H m=some (.tup [.int t,.int b])/\0<=t/\1<=b/\Bt (64*n - 1) t/\Bt (64*n - 1) b
abbrev Pt:=V × Nat × Int
def szs (cs:List Pt):Nat:=(cs.map (·.2.1)).sum
def Tr (H:Hp):Nat->V->Nat->Int->Prop
 | 0,_,_,_=>False
 | n+1,v,s,d =>
  (∃ (p m:Addr) (x:Str),v = .ref p/\H p=some (.tup [.str "ware",.str x,.ref m])/\Am H m 1/\s=1/\d=0) \/
  (∃ (p m q:Addr) (x:Str) (cs:List Pt),v = .ref p/\H p=some (.tup [.str "recipe",.str x,.ref m,.ref q])/\H q=some (.tup (cs.map (·.1)))/\1<=cs.length/\cs.length < 64 /\
   (∀ c ∈ cs,Tr H n c.1 c.2.1 c.2.2)/\s=1+szs cs/\Nd (cs.map (·.2.2)) d/\Am H m s)
def Bx (a:Addr)(H H':Hp):Prop:=∀ b o,b ≠ a->H b=some o->H' b=some o
def nzc (cs:List Int):Nat:=(cs.filter fun c=>c != 0).length
structure Pile (H:Hp)(cs:List Int)(j:Nat)(pl:List Pt):Prop where
 tr : ∀ c ∈ pl,Tr H (nzc (cs.drop (cs.length - j))+1) c.1 c.2.1 c.2.2
 sz:szs pl=j
 ln:(pl.length:Int)=av (cs.drop (cs.length - j))
 hd:1<=j->∃ pl' q,pl=pl' ++ [q]/\∀ c,cs[cs.length - j]?=some c->1<=c->1<=q.2.2
def AtP (H:Hp):V->List Nat->V->Prop
 | v,[],u=>v=u
 | v,k :: r,u=>∃ (p m q:Addr) (x:Str) (vs:List V) (c:V),v = .ref p/\H p=some (.tup [.str "recipe",.str x,.ref m,.ref q])/\H q=some (.tup vs)/\vs[k]?=some c/\AtP H c r u
abbrev pth (ks:List Nat):List V:=ks.map fun (k:Nat)=>V.int (k:Int)
def Ent (H:Hp)(root:V)(N:Nat)(e:Addr)(s:Nat):Prop:=∃ (pa:Addr) (ks:List Nat) (v:V) (n:Nat) (d:Int),H e=some (.tup [.ref pa,v])/\H pa=some (.tup (pth ks))/\AtP H root ks v/\Tr H n v s d/\ks.length+n<=N
end TR
namespace K34
open PySem PySem.Spec PyProof.Rows L2 GM TM TR
def rwb:Rw->Int
 | .draw _ _ _ b=>b
 | .fill _ _ _ b=>b
 | .pour _ _ _ b=>b
 | _=>1
inductive GR (H:Hp)(nb:Nat)(ws:List Str):Addr->Prop where
 | am {z:Addr} {wd:Str} {p x q t b}:wd = "draw" \/ wd = "fill" -> H z=some (.tup [.str wd,.int p,.str x,.ref q])->0<=p->p < (nb:Int)->x ∈ ws->H q=some (.tup [.int t,.int b])->Rm t b->b<=100->GR H nb ws z
 | pour {z p o q t b}:H z=some (.tup [.str "pour",.int p,.int o,.ref q])->0<=p->p < (nb:Int)->0<=o->o < (nb:Int)->p ≠ o->H q=some (.tup [.int t,.int b])->Rm t b->t<=b->b<=100->GR H nb ws z
 | one {z:Addr} {wd:Str} {p}:wd = "empty" \/ wd = "rinse" -> H z=some (.tup [.str wd,.int p])->0<=p->p < (nb:Int)->GR H nb ws z
def WsV (H:Hp)(wl:Addr)(ws:List Str):Prop:=H wl=some (.lst (ws.map V.str))/\ws.length=6/\∀ x ∈ ws,Wr x
theorem iA {p d nb:Int}(p0:0<=p)(pn:p < nb)(d0:0<=d)(dn:d < nb - 1):0<=(p+1+d) % nb/\(p+1+d) % nb < nb/\p ≠ (p+1+d) % nb:=by
 have e:=bJ (p+1+d) (m:=nb) (by omega);refine ⟨e.1,e.2,fun z => ?_⟩
 by_cases h:p+1+d < nb
 ·rw [Int.emod_eq_of_lt (by omega) h] at z
  omega
 ·have:(p+1+d) % nb=(p+1+d - nb) % nb:=by rw [Int.sub_emod,Int.emod_self,Int.sub_zero,Int.emod_emod]
  rw [this,Int.emod_eq_of_lt (by omega) (by omega)] at z;omega
theorem vH {d b:Int}(d0:0<=d)(db:d < b)(b1:1<=b)(b100:b<=100)(sb:Bt 100 b):Rm ((1+d) / G (1+d) b) (b / G (1+d) b)/\(1+d) / G (1+d) b<=b / G (1+d) b/\b / G (1+d) b<=100:=by
 have g:=nU (a:=1+d) (b:=b) (by omega);exact ⟨jT (by omega) b1 (sb.le (by omega) (by omega)) sb,Int.ediv_le_ediv g (by omega),Ej (BD _ (by omega)) b100⟩
theorem aF8 (h:WsV H wl ws)(l:Lf H a):wl ≠ a:=fun z=>by
 obtain ⟨n,e,_⟩:=l;obtain ⟨h1,h2,_⟩:=h;rw [z,e] at h1;have:=congrArg List.length (HO.lst.inj (AH h1));rw [Ag,h2] at this;simp at this
def iJ:Sp:=fun vs H Q _=>∃ b wl a nb ws,vs=[.ref b,.ref wl,.ref a]/\BnV H b nb/\1<=nb/\nb<=16/\WsV H wl ws/\Lf H a/\∀ z H',SmB a H H'->Lf H' a->GR H' nb ws z->Q (.ref z) H'
def aB5 (K:Aa):Sp:=fun vs H Q _=>∃ b wl sc nb ws,∃ (ns:List Int) (k:Nat),vs=[.ref b,.ref wl,.ref sc,.int (k:Nat)]/\BnV H b nb/\1<=nb/\nb<=16/\WsV H wl ws/\SqL K H sc (ns.map V.int)/\k < ns.length/\k<=900/\∀ z H',Same H H'->GR H' nb ws z->Q (.ref z) H'
theorem aGy {d:Int}(d0:0<=d)(d5:d < 5) : ∃ wd:Str,atI [V.str "draw",.str "fill",.str "pour",.str "empty",.str "rinse"] d=some (.str wd)/\(wd = "draw" \/ wd = "fill" \/ wd = "pour" \/ wd = "empty" \/ wd = "rinse"):=by
 have:d=0\/d=1\/d=2\/d=3\/d=4:=by omega
 rcases this with rfl | rfl | rfl | rfl | rfl
 ·exact ⟨"draw",rfl,.inl rfl⟩
 ·exact ⟨"fill",rfl,.inr (.inl rfl)⟩
 ·exact ⟨"pour",rfl,.inr (.inr (.inl rfl))⟩
 ·exact ⟨"empty",rfl,.inr (.inr (.inr (.inl rfl)))⟩
 ·exact ⟨"rinse",rfl,.inr (.inr (.inr (.inr rfl)))⟩
theorem aGx {d:Int}(d0:0<=d)(d9:d < 9) : ∃ wd:Str,atI [V.str "draw",.str "draw",.str "draw",.str "fill",.str "pour",.str "pour",.str "pour",.str "empty",.str "rinse"] d=some (.str wd)/\(wd = "draw" \/ wd = "fill" \/ wd = "pour" \/ wd = "empty" \/ wd = "rinse"):=by
 have:d=0\/d=1\/d=2\/d=3\/d=4\/d=5\/d=6\/d=7\/d=8:=by omega
 rcases this with rfl | rfl | rfl | rfl | rfl | rfl | rfl | rfl | rfl
 ·exact ⟨"draw",rfl,.inl rfl⟩
 ·exact ⟨"draw",rfl,.inl rfl⟩
 ·exact ⟨"draw",rfl,.inl rfl⟩
 ·exact ⟨"fill",rfl,.inr (.inl rfl)⟩
 ·exact ⟨"pour",rfl,.inr (.inr (.inl rfl))⟩
 ·exact ⟨"pour",rfl,.inr (.inr (.inl rfl))⟩
 ·exact ⟨"pour",rfl,.inr (.inr (.inl rfl))⟩
 ·exact ⟨"empty",rfl,.inr (.inr (.inr (.inl rfl)))⟩
 ·exact ⟨"rinse",rfl,.inr (.inr (.inr (.inr rfl)))⟩
theorem GR.good {nb:Nat}(h:GR H nb ws z) : ∃ rw,RwV H z rw/\GoodR nb ws rw/\rwb rw<=100:=by
 have ra : ∀ {t b:Int},Rm t b->RwA t b:=fun h=>⟨⟨by have:=h.1; omega,h.2,h.3⟩,h.4.mono (by decide),h.5.mono (by decide)⟩;cases h with
 | @am wd p x q t b a1 a2 a3 a4 a5 a6 a7 a8 =>
  obtain ⟨i,rfl⟩:=AN a3
  rcases a1 with rfl | rfl
  ·exact ⟨.draw i x t b,⟨q,a2,a6⟩,⟨by omega,a5,ra a7,a7.1⟩,a8⟩
  ·exact ⟨.fill i x t b,⟨q,a2,a6⟩,⟨by omega,a5,ra a7⟩,a8⟩
 | @pour p o q t b a1 a2 a3 a4 a5 a6 a7 a8 a9 a10 =>
  obtain ⟨i,rfl⟩:=AN a2;obtain ⟨j,rfl⟩:=AN a4;exact ⟨.pour i j t b,⟨q,a1,a7⟩,⟨by omega,by omega,fun e=>a6 (by rw [e]),ra a8,a8.1,a9⟩,a10⟩
 | @one wd p a1 a2 a3 a4 =>
  obtain ⟨i,rfl⟩:=AN a3
  rcases a1 with rfl | rfl
  ·exact ⟨.empty i,a2,(show i < nb by omega),(by show (1:Int)<=100; decide)⟩
  ·exact ⟨.rinse i,a2,(show i < nb by omega),(by show (1:Int)<=100; decide)⟩
section
variable {P:Ax}{w:World}{K:Aa}{mg:Str->Option Value}{base:Heap}
abbrev Nfr:List Str:=["_law_bench_here","_law_wares_here","_law_left","_law_many","_law_kind_here","_law_phial","_law_other","_law_bottom","_law_ware","_law_top"]
theorem dH:FnScope Nfr ["_law_bench_here","_law_wares_here","_law_left"] (aH sFreeRow):=fnScOk (by decide +kernel)
theorem sM (F:Fun K "_law_free_row" "_law_free_row" sFreeRow f fd)(T:Txt mg)(cD:Cal P w K mg base CX0 1 "_law_digit" ["_law_left","_law_many"] gD)(cL:Cal P w K mg base CX0 1 "_law_lowest" ["_law_top","_law_bottom"] dS):FnOk P w K mg base CX0 2 f fd ["_law_bench_here","_law_wares_here","_law_left"] iJ:=by
 refine F.ok dH (fun vs H Q E h => ?_) (fun cdv A outer s H vs Q E hr h => ?_)
 ·obtain ⟨_,_,_,_,_,rfl,_⟩:=h
  rfl
 ·obtain ⟨b,wl,a,nb,ws,rfl,bn,n1,n16,wv,lf,k⟩:=h
  refine ⟨_,(aC (aL (i:=3) dH.nd rfl (Or.inl rfl) (aR aZ rfl T.len Bz (aA (pit 0 0) aD)))
   (aC (aL (i:=4) dH.nd rfl (Or.inl rfl) (bU bG (dD (pa_c aS (pa_c aS (pa_c aS (pa_c aS (pa_c aS aD)))))) (aJ cD hr rfl aT (aA (pv 2) (aA aG aD))) (fun _ _=>rfl)))
   (aC (aL (i:=5) dH.nd rfl (Or.inl rfl) (aJ cD hr rfl aT (aA (pv 2) (aA (pv 3) aD))))
   (aC (bA (PW.pt (mB (aQ cJ (pv 4) aS (aU _)) (iO (aQ cJ (pv 3) aG (aU _)))))
    (aE (aL (i:=4) dH.nd rfl (Or.inl rfl) aS))
    aP)
   (aC (bA (PW.pt (hJ (aQ cJ (pv 4) aS (aU _)) (fB (aQ cJ (pv 4) aS (aU _)))))
    (aE (aM (aW (aA (pv 4) (aA (pv 5) aD)))))
    aP)
   (aC (bA (aQ cJ (pv 4) aS (aU _))
    (aC (aL (i:=6) dH.nd rfl (Or.inl rfl) (aK bD (aK bC (aK bC (pv 5) aG) (aJ cD hr rfl aT (aA (pv 2) (aA (aK jQ (pv 3) aG) aD)))) (pv 3)))
    (aC (aL (i:=7) dH.nd rfl (Or.inl rfl) (aK bC aG (aJ cD hr rfl aT (aA (pv 2) (aA aG aD)))))
    (aE (aM (aW (aA (pv 4) (aA (pv 5) (aA (pv 6) (aA (aJ cL hr rfl aT (aA (aK bC aG (aJ cD hr rfl aT (aA (pv 2) (aA (pv 7) aD)))) (aA (pv 7) aD))) aD)))))))))
    aP)
   (aC (aL (i:=8) dH.nd rfl (Or.inl rfl) (bU bG (pv 1) (aJ cD hr rfl aT (aA (pv 2) (aA aG aD))) (fun _ _=>rfl)))
   (aC (aL (i:=9) dH.nd rfl (Or.inl rfl) (aK bC aG (aJ cD hr rfl aT (aA (pv 2) (aA aG aD)))))
   (aE (aM (aW (aA (pv 4) (aA (pv 5) (aA (pv 8) (aA (aJ cL hr rfl aT (aA (pv 9) (aA (aK bC aG (aJ cD hr rfl aT (aA (pv 2) (aA aG aD)))) aD))) aD))))))))))))))),?_⟩
  refine cut9 ?_
  intros
  obtain ⟨r,q0,rs,hb,hrr,rl⟩:=id bn;have wne:=aF8 wv lf;refine ⟨b,_,_,rfl,SqT.of hb,rfl,r,_,rfl,.inr (SqT.of hrr),?_⟩;refine ⟨zLn5,fun z5 nz5 => ?_⟩;have s5:=Same.upd (o:=.lst [V.str "draw",.str "fill",.str "pour",.str "empty",.str "rinse"]) nz5;have h5:upd H z5 (.lst [V.str "draw",.str "fill",.str "pour",.str "empty",.str "rinse"]) z5=some (.lst [V.str "draw",.str "fill",.str "pour",.str "empty",.str "rinse"]):=aB;have z5a:z5 ≠ a:=lf.there nz5;generalize upd H z5 (.lst [V.str "draw",.str "fill",.str "pour",.str "empty",.str "rinse"])=H1 at s5 h5 ⊢;have lf1:=lf.keep s5;refine ⟨_,rfl,a,5,rfl,lf1,by decide,b9,fun d0 H2 d00 d05 sb2 lf2 => ?_⟩;obtain ⟨wd,hat,hwd⟩:=aGy d00 d05;refine ⟨z5,_,d0,.str wd,rfl,rfl,SqL.of (sb2 _ _ z5a h5),hat,?_⟩;have sb02:SmB a H H2:=(SmB.of s5).trans sb2;have bnb:Bt 9000 ((rs.length:Nat):Int):=b9 (by omega) (by omega);refine ⟨_,rfl,_,rfl,a,_,rfl,lf2,by omega,bnb,fun p H3 p0 pl sb3 lf3 => ?_⟩;have sb03:=sb02.trans sb3;have pn:p < (nb:Int):=by rw [<- rl]; exact pl
  dsimp only [gName];refine qB (fun σ' H'=>∃ wd':Str,σ'=[some (.ref b),some (.ref wl),some (.ref a),some (.int ((rs.length:Nat):Int)),some (.str wd'),some (.int p),none,none,none,none]/\H'=H3/\((wd' = "empty" \/ wd' = "rinse")\/(wd' = "pour" /\ 1 < nb)\/(wd' = "draw" \/ wd' = "fill"))) ?_ (fun N hN => ?_)
  ·intro σ' H' hh
   obtain ⟨wd',rfl,rfl,hw⟩:=hh
   rcases hw with hw | ⟨rfl,n2⟩ | hw
   ·have fin : ∀ z,H' z=none->Q (.ref z) (upd H' z (.tup [.str wd',.int p])):=fun z nz=>k z _ (sb03.own (sb03.none nz (lf3.there nz))) (lf3.keep (Same.upd nz)) (.one hw aB p0 pn)
    rcases hw with rfl | rfl
    ·exact ⟨_,rfl,rfl,_,rfl,iteT ⟨_,rfl,_,rfl,zLn2,fin⟩⟩
    ·exact ⟨_,rfl,rfl,_,rfl,iteF ⟨_,rfl,rfl,_,rfl,iteT ⟨_,rfl,_,rfl,zLn2,fin⟩⟩⟩
   ·refine ⟨_,rfl,rfl,_,rfl,iteF ⟨_,rfl,rfl,_,rfl,iteF ⟨_,rfl,rfl,_,rfl,iteT ?_⟩⟩⟩
    refine ⟨_,rfl,_,_,rfl,rfl,_,rfl,_,rfl,_,_,rfl,rfl,a,_,rfl,lf3,by omega,b9 (by omega) (by omega),fun d H4 d00 dl sb4 lf4 => ?_⟩;have sb04:=sb03.trans sb4;obtain ⟨o0,ol,po⟩:=iA p0 pn d00 (by rw [<- rl]; exact dl);refine ⟨_,_,rfl,rfl,_,rfl,_,_,rfl,rfl,by omega,?_⟩;refine ⟨_,rfl,a,100,rfl,lf4,by decide,b9,fun e H5 e0 el sb5 lf5=>⟨_,_,rfl,rfl,?_⟩⟩;have sb05:=sb04.trans sb5;have sbt:Bt 100 (1+e):=dE 100 (c:=101) (by omega) (by omega);refine ⟨_,rfl,_,rfl,_,rfl,_,rfl,_,rfl,a,_,rfl,lf5,by omega,sbt.mono (by decide),fun e2 H6 e20 e2l sb6 lf6=>⟨_,_,rfl,rfl,_,rfl,1+e2,1+e,rfl,by omega,by omega,sbt.mono (by decide),fun q H7 s7 nq hq=>⟨zLn4,fun z nz => ?_⟩⟩⟩;have sb06:=sb05.trans sb6;have sb07:=sb06.trans (SmB.of s7);have lf7:=lf6.keep s7;obtain ⟨rm,le,l1⟩:=vH e20 e2l (by omega) (by omega) sbt;rw [rl];refine k z _ (sb07.own (sb07.none nz (lf7.there nz))) (lf7.keep (Same.upd nz)) (.pour aB p0 pn o0 ol po (Same.upd nz _ _ hq) rm le l1)
   ·have fin : ∀ {wd':Str},(wd' = "draw" \/ wd' = "fill")->∀ (x:Str) q t b' H7 z,x ∈ ws->SmB a H H7->Lf H7 a->H7 q=some (.tup [.int t,.int b'])->Rm t b'->b'<=100->H7 z=none->Q (.ref z) (upd H7 z (.tup [.str wd',.int p,.str x,.ref q])):=fun {wd'} hw x q t b' H7 z wx sb7 lf7 hq rm l1 nz=>k z _ (sb7.own (sb7.none nz (lf7.there nz))) (lf7.keep (Same.upd nz)) (.am hw aB p0 pn wx (Same.upd nz _ _ hq) rm l1)
    have fin':=fin hw
    rcases hw with rfl | rfl <;>
    ·refine ⟨_,rfl,rfl,_,rfl,iteF ⟨_,rfl,rfl,_,rfl,iteF ⟨_,rfl,rfl,_,rfl,iteF ?_⟩⟩⟩
     refine ⟨_,rfl,_,rfl,a,6,rfl,lf3,by decide,b9,fun d H4 d00 dl sb4 lf4 => ?_⟩;have sb04:=sb03.trans sb4;obtain ⟨j,rfl⟩:=AN d00;obtain ⟨x,hx⟩ : ∃ x,ws[j]?=some x:=⟨_,Ae (by have:=wv.2.1; omega)⟩;refine ⟨wl,_,(j:Int),.str x,rfl,rfl,SqL.of (sb04 _ _ wne wv.1),bK (by rw [As,hx]; rfl),?_⟩;refine ⟨_,rfl,a,1000,rfl,lf4,by decide,b9,fun e H5 e0 el sb5 lf5=>⟨_,_,rfl,rfl,?_⟩⟩;refine ⟨_,rfl,_,rfl,_,rfl,_,rfl,_,rfl,a,100,rfl,lf5,by decide,b9,fun e2 H6 e20 e2l sb6 lf6=>⟨_,_,rfl,rfl,1+e,1+e2,rfl,by omega,by omega,(dE 100 (c:=101) (by omega) (by omega):Bt 100 (1+e2)).mono (by decide),fun q H7 s7 nq hq=>⟨zLn4,fun z nz => ?_⟩⟩⟩;exact fin' x q _ _ H7 z (Ay hx) (((sb04.trans sb5).trans sb6).trans (SmB.of s7)) (lf6.keep s7) hq (jT (by omega) (by omega) (dE 100 (c:=1001) (by omega) (by omega)) (dE 100 (c:=101) (by omega) (by omega))) (Ej (BD _ (by omega)) (by omega)) nz
  ·rcases hwd with rfl | rfl | rfl | rfl | rfl
   ·exact ⟨_,rfl,rfl,_,rfl,iteF (iteF (hN _ _ ⟨_,rfl,rfl,.inr (.inr (.inl rfl))⟩))⟩
   ·exact ⟨_,rfl,rfl,_,rfl,iteF (iteF (hN _ _ ⟨_,rfl,rfl,.inr (.inr (.inr rfl))⟩))⟩
   ·refine ⟨_,rfl,rfl,_,rfl,iteT ⟨_,rfl,rfl,_,rfl,ite2 (fun hc=>hN _ _ ⟨_,rfl,rfl,.inl (.inl rfl)⟩) (fun hc=>hN _ _ ⟨_,rfl,rfl,.inr (.inl ⟨rfl,?_⟩)⟩)⟩⟩
    have : ¬ ((rs.length:Nat):Int)=1:=fun z=>hc (decide_eq_true (by rw [z]));omega
   ·exact ⟨_,rfl,rfl,_,rfl,iteF (iteF (hN _ _ ⟨_,rfl,rfl,.inl (.inl rfl)⟩))⟩
   ·exact ⟨_,rfl,rfl,_,rfl,iteF (iteF (hN _ _ ⟨_,rfl,rfl,.inl (.inr rfl)⟩))⟩
abbrev Nrw:List Str:=["_law_bench_here","_law_wares_here","_law_script","_law_k","_law_number","_law_many","_law_phial","_law_ware","_law_kind_here","_law_other","_law_bottom"]
theorem lW:FnScope Nrw ["_law_bench_here","_law_wares_here","_law_script","_law_k"] (aH sRow):=fnScOk (by decide +kernel)
theorem aE9 (F:Fun K "_law_row" "_law_row" sRow f fd)(T:Txt mg)(cC:Cal P w K mg base CX0 2 "_law_cell_at" ["_law_script","_law_k"] (iK K))(cM:Cal P w K mg base CX0 2 "_law_mixed" ["_law_cell","_law_k"] fD)(cF:Cal P w K mg base CX0 2 "_law_free_row" ["_law_bench_here","_law_wares_here","_law_left"] iJ)(cU:Cal P w K mg base CX0 2 "_law_much" ["_law_number"] pY)(cL:Cal P w K mg base CX0 2 "_law_lowest" ["_law_top","_law_bottom"] dS):FnOk P w K mg base CX0 3 f fd ["_law_bench_here","_law_wares_here","_law_script","_law_k"] (aB5 K):=by
 refine F.ok lW (fun vs H Q E h => ?_) (fun cdv A outer s H vs Q E hr h => ?_)
 ·obtain ⟨_,_,_,_,_,_,_,rfl,_⟩:=h
  rfl
 ·obtain ⟨b,wl,sc,nb,ws,ns,kk,rfl,bn,n1,n16,wv,hS,kl,k9,k⟩:=h
  refine ⟨_,(aC (bA (aQ cJ (aK bD (aJ cC hr rfl aT (aA (pv 2) (aA aG aD))) aG) aG (aU _))
    (aE (aM (aJ cF hr rfl aT (aA (pv 0) (aA (pv 1) (aA (dD (aA (aR gB rfl T.abs' nK (aA (bU bG (pv 2) (pv 3) (fun _ _=>rfl)) aD)) aD)) aD))))))
    aP)
   (aC (aL (i:=4) lW.nd rfl (Or.inl rfl) (aJ cM hr rfl aT (aA (bU bG (pv 2) (pv 3) (fun _ _=>rfl)) (aA (pv 3) aD))))
   (aC (aL (i:=5) lW.nd rfl (Or.inl rfl) (aR aZ rfl T.len Bz (aA (pit 0 0) aD)))
   (aC (aL (i:=6) lW.nd rfl (Or.inl rfl) (aK bD (aK aY (pv 4) aG) (pv 5)))
   (aC (aL (i:=7) lW.nd rfl (Or.inl rfl) (bU bG (pv 1) (aK bD (aK aY (pv 4) aG) (aR aZ rfl T.len Bz (aA (pv 1) aD))) (fun _ _=>rfl)))
   (aC (aL (i:=8) lW.nd rfl (Or.inl rfl) (bU bG (dD (pa_c aS (pa_c aS (pa_c aS (pa_c aS (pa_c aS (pa_c aS (pa_c aS (pa_c aS (pa_c aS aD)))))))))) (aK bD (pv 4) aG) (fun _ _=>rfl)))
   (aC (bA (PW.pt (hJ (aQ cJ (pv 8) aS (aU _)) (fB (aQ cJ (pv 8) aS (aU _)))))
    (aE (aM (aW (aA (pv 8) (aA (pv 6) (aA (pv 7) (aA (aJ cU hr rfl aT (aA (aK aY (pv 4) aG) aD)) aD)))))))
    aP)
   (aC (bA (PW.pt (mB (aQ cJ (pv 8) aS (aU _)) (iO (aQ aE6 (pv 5) aG (aU _)))))
    (aC (aL (i:=9) lW.nd rfl (Or.inl rfl) (aK bD (aK bC (aK bC (pv 6) aG) (aK bD (aK aY (pv 4) aG) (aK jQ (pv 5) aG))) (pv 5)))
    (aC (aL (i:=10) lW.nd rfl (Or.inl rfl) (aK bC aG (aK bD (aK aY (pv 4) aG) aG)))
    (aE (aM (aW (aA (pv 8) (aA (pv 6) (aA (pv 9) (aA (aJ cL hr rfl aT (aA (aK bC aG (aK bD (aK aY (pv 4) aG) (pv 10))) (aA (pv 10) aD))) aD)))))))))
    aP)
   (aC (bA (aQ cJ (pv 8) aS (aU _))
    (aE (aM (aW (aA aS (aA (pv 6) aD)))))
    aP)
   (aE (aM (aW (aA (pv 8) (aA (pv 6) aD)))))))))))))),?_⟩
  refine aHj ?_
  intros
  obtain ⟨c,hc⟩ : ∃ c,ns[kk]?=some c:=⟨_,Ae kl⟩;have hcat:atI (ns.map V.int) (kk:Int)=some (.int c):=bK (by rw [As,hc]; rfl);obtain ⟨r,q0,rs,hb,hrr,rl⟩:=id bn;refine ⟨_,rfl,sc,ns,0,rfl,hS,by decide,fun c0=>⟨_,_,rfl,rfl,(by show (0:Int) < 2; decide),rfl,_,rfl,ite2 (fun _ => ?_) (fun _ => ?_)⟩⟩
  ·refine ⟨_,rfl,_,rfl,_,rfl,_,rfl,sc,_,(kk:Int),.int c,rfl,rfl,hS,hcat,c,rfl,zLn1,fun l nl => ?_⟩
   have c0':=abs_nonneg c;generalize (if c < 0 then -c else c)=n at *
   have sl:=Same.upd (o:=.lst [.int n]) nl;have hl:upd H l (.lst [.int n]) l=some (.lst [.int n]):=aB;generalize upd H l (.lst [.int n])=H1 at sl hl ⊢;refine ⟨b,wl,l,nb,ws,rfl,bn.keep sl,n1,n16,⟨sl _ _ wv.1,wv.2⟩,⟨n,hl,c0'⟩,fun z H' sb lf gr=>k z H' (eW sl sb nl) gr⟩
  ·refine ⟨_,rfl,_,rfl,sc,_,(kk:Int),.int c,rfl,rfl,hS,hcat,_,rfl,c,(kk:Int),rfl,by omega,by omega,fun n n0 nl => ?_⟩
   refine ⟨b,_,_,rfl,SqT.of hb,rfl,r,_,rfl,.inr (SqT.of hrr),?_⟩;have nbp:(0:Int) < ((rs.length:Nat):Int):=by omega
   obtain ⟨p0,pn⟩:=bJ (n / 16) nbp;refine ⟨_,rfl,_,_,rfl,rfl,⟨by decide,b9⟩,_,rfl,_,_,rfl,rfl,nbp,?_⟩;have wlen:(((ws.map V.str).length:Nat):Int)=6:=by rw [Ag,wv.2.1]; rfl
   obtain ⟨j0,jn⟩:=bJ (n / 256) (m:=6) (by decide);obtain ⟨j,ej⟩:=AN j0;obtain ⟨x,hx⟩ : ∃ x,ws[j]?=some x:=⟨_,Ae (by have:=wv.2.1; omega)⟩;refine ⟨_,rfl,_,rfl,_,_,rfl,rfl,⟨by decide,b9⟩,_,rfl,wl,_,rfl,.inl (SqL.of wv.1),_,_,rfl,rfl,by show (0:Int) < _; rw [wlen]; decide,wl,_,_,.str x,rfl,rfl,SqL.of wv.1,by rw [wlen,ej]; exact bK (by rw [As,hx]; rfl),?_⟩;refine ⟨zLn9,fun z9 nz9 => ?_⟩;have s9:=Same.upd (o:=.lst [V.str "draw",.str "draw",.str "draw",.str "fill",.str "pour",.str "pour",.str "pour",.str "empty",.str "rinse"]) nz9;have h9:upd H z9 (.lst [V.str "draw",.str "draw",.str "draw",.str "fill",.str "pour",.str "pour",.str "pour",.str "empty",.str "rinse"]) z9=some (.lst [V.str "draw",.str "draw",.str "draw",.str "fill",.str "pour",.str "pour",.str "pour",.str "empty",.str "rinse"]):=aB;generalize upd H z9 (.lst [V.str "draw",.str "draw",.str "draw",.str "fill",.str "pour",.str "pour",.str "pour",.str "empty",.str "rinse"])=H1 at s9 h9 ⊢;obtain ⟨m0,ml⟩:=bJ n (m:=9) (by decide);obtain ⟨wd,hat,hwd⟩:=aGx m0 ml;have pn':(n / 16 % ((rs.length:Nat):Int)) < (nb:Int):=by rw [<- rl]; exact pn
   refine ⟨_,rfl,_,_,rfl,rfl,(by show (0:Int) < 9; decide),z9,_,_,.str wd,rfl,rfl,SqL.of h9,hat,?_⟩;have wx:=Ay hx;have finO : ∀ {wd':Str},(wd' = "empty" \/ wd' = "rinse")->∀ z,H1 z=none->Q (.ref z) (upd H1 z (.tup [.str wd',.int (n / 16 % ((rs.length:Nat):Int))])):=fun {wd'} hw z nz=>k z _ (s9.trans (Same.upd nz)) (.one hw aB p0 pn');have finA : ∀ {wd':Str},(wd' = "draw" \/ wd' = "fill")->∀ q t b' H7 z,Same H H7->H7 q=some (.tup [.int t,.int b'])->Rm t b'->b'<=100->H7 z=none->Q (.ref z) (upd H7 z (.tup [.str wd',.int (n / 16 % ((rs.length:Nat):Int)),.str x,.ref q])):=fun {wd'} hw q t b' H7 z s7 hq rm l1 nz=>k z _ (s7.trans (Same.upd nz)) (.am hw aB p0 pn' wx (Same.upd nz _ _ hq) rm l1);have n4:0<=n / 4096/\n / 4096 < 2147483647:=⟨DM n0 (by decide),Fn (BD _ n0) nl⟩
   rcases hwd with rfl | rfl | rfl | rfl | rfl
   ·refine ⟨_,rfl,rfl,_,rfl,iteT ⟨_,rfl,_,rfl,_,rfl,_,rfl,_,_,rfl,rfl,⟨by decide,b9⟩,_,rfl,n4.1,n4.2,fun t b' q H7 rm l12 s7 nq hq=>⟨zLn4,fun z nz=>finA (.inl rfl) q t b' H7 z (s9.trans s7) hq rm (by omega) nz⟩⟩⟩
   ·refine ⟨_,rfl,rfl,_,rfl,iteF ⟨_,rfl,rfl,_,rfl,iteT ⟨_,rfl,_,rfl,_,rfl,_,rfl,_,_,rfl,rfl,⟨by decide,b9⟩,_,rfl,n4.1,n4.2,fun t b' q H7 rm l12 s7 nq hq=>⟨zLn4,fun z nz=>finA (.inr rfl) q t b' H7 z (s9.trans s7) hq rm (by omega) nz⟩⟩⟩⟩
   ·refine ⟨_,rfl,rfl,_,rfl,iteF ⟨_,rfl,rfl,_,rfl,iteF ⟨_,rfl,rfl,_,rfl,iteT ⟨_,rfl,_,_,rfl,rfl,_,rfl,ite2 (fun hc2 => ?_) (fun hc2 => ?_)⟩⟩⟩⟩
    ·have n2:(1:Int) < ((rs.length:Nat):Int):=of_decide_eq_true hc2
     have m1:(0:Int) < ((rs.length:Nat):Int) - 1:=by omega
     obtain ⟨d0,dl⟩:=bJ (n / 256) m1;obtain ⟨o0,ol,po⟩:=iA p0 pn d0 dl;refine ⟨_,rfl,_,_,rfl,rfl,_,rfl,_,_,rfl,rfl,⟨by decide,b9⟩,_,rfl,_,_,rfl,rfl,_,_,rfl,rfl,m1,_,_,rfl,rfl,_,rfl,_,_,rfl,rfl,nbp,?_⟩;obtain ⟨e0,el⟩:=bJ (n / 4096) (m:=7) (by decide);refine ⟨_,rfl,_,_,rfl,rfl,⟨by decide,b9⟩,_,_,rfl,rfl,(by show (0:Int) < 7; decide),_,_,rfl,rfl,?_⟩;have bp:(0:Int) < 1+n / 4096 % 7:=by omega
     obtain ⟨f0,fl⟩:=bJ (n / 32768) bp;have sbt:Bt 100 (1+n / 4096 % 7):=dE 100 (c:=101) (by omega) (by omega);obtain ⟨rm,le,l1⟩:=vH f0 fl (by omega) (by omega) sbt;refine ⟨_,rfl,_,rfl,_,rfl,_,rfl,_,_,rfl,rfl,⟨by decide,b9⟩,_,rfl,_,_,rfl,rfl,bp,_,_,rfl,rfl,_,rfl,_,_,rfl,by omega,by omega,sbt.mono (by decide),fun q H7 s7 nq hq=>⟨zLn4,fun z nz => ?_⟩⟩;exact k z _ ((s9.trans s7).trans (Same.upd nz)) (.pour aB p0 pn' o0 (by rw [<- rl]; exact ol) po (Same.upd nz _ _ hq) rm le l1)
    ·refine ⟨_,rfl,rfl,_,rfl,iteT ⟨_,rfl,zLn2,fun z nz=>finO (.inl rfl) z nz⟩⟩
   ·exact ⟨_,rfl,rfl,_,rfl,iteF ⟨_,rfl,rfl,_,rfl,iteF ⟨_,rfl,rfl,_,rfl,iteF (iteF ⟨_,rfl,rfl,_,rfl,iteF ⟨_,rfl,_,rfl,zLn2,fun z nz=>finO (.inl rfl) z nz⟩⟩)⟩⟩⟩
   ·exact ⟨_,rfl,rfl,_,rfl,iteF ⟨_,rfl,rfl,_,rfl,iteF ⟨_,rfl,rfl,_,rfl,iteF (iteF ⟨_,rfl,rfl,_,rfl,iteF ⟨_,rfl,_,rfl,zLn2,fun z nz=>finO (.inr rfl) z nz⟩⟩)⟩⟩⟩
end
end K34
namespace K34
open PySem PySem.Spec PyProof.Rows L2 GM TM
inductive Fat where
 | dry (i:Nat)
 | low (i:Nat)
 | wet (i:Nat)
 | spilt (i:Nat) (M N:Int) (rb:Int × Int)
 | touch (i:Nat) (pa:Addr)
abbrev Ou:Type:=Fat ⊕ List PF
def BadF (c0 c1 c2 c3 c4:Addr)(n:Nat)(H:Hp)(E:XK):Fat->Prop
 | .dry i=>BadE c0 [("phial",.int (i:Nat)),("place",.int (n:Nat))] H E
 | .low _=>True
 | .wet _=>True
 | .spilt i M N rb=>BadO c3 n i M N rb H E
 | .touch i pa=>BadE c4 [("pair",.ref pa),("phial",.int (i:Nat)),("place",.int (n:Nat))] H E
def RfV (H:Hp)(t3:Addr):Fat->Prop
 | .dry i=>H t3=some (.tup [.str "dry",.int ((i:Nat):Int),.non])
 | .low i=>H t3=some (.tup [.str "low",.int ((i:Nat):Int),.non])
 | .wet i=>H t3=some (.tup [.str "wet",.int ((i:Nat):Int),.non])
 | .spilt i M N rb=>∃ a t b,H t3=some (.tup [.str "spilt",.int ((i:Nat):Int),.ref a])/\H a=some (.tup [.int t,.int b])/\Fr (M*rb.2) t b (N*rb.2 - rb.1*M)
 | .touch i pa=>H t3=some (.tup [.str "touch",.int ((i:Nat):Int),.ref pa])
def OutP (c0 c1 c2 c3 c4:Addr)(n:Nat)(M:Int)(H:Hp)(Q:VK)(E:XK):Ou->Prop
 | .inl f=>BadF c0 c1 c2 c3 c4 n H E f
 | .inr S=>∀ l' H',Same H H'->H l'=none->StV H' l' M S->Q (.ref l') H'
def OutL (M:Int)(H:Hp)(Q:VK):Ou->Prop
 | .inl f=>∀ z t3 H',Same H H'->H' z=some (.tup [.ref t3,.non])->RfV H' t3 f->Q (.ref z) H'
 | .inr S=>∀ z l' H',Same H H'->H l'=none->H' z=some (.tup [.non,.ref l'])->StV H' l' M S->Q (.ref z) H'
def IntoO (us:List V)(ps:List (Str × Str))(ws:List Str)(M:Int)(S:List PF)(i:Nat)(d:PF)(rb:Int × Int)(add:Str->Int)(xs:List Str)(o:Ou):Prop :=
 (rb.1*M < tot ws (fun y=>d.1 y+add y)*rb.2/\o = .inl (.spilt i M (tot ws (fun y=>d.1 y+add y)) rb)) \/
 (¬ rb.1*M < tot ws (fun y=>d.1 y+add y)*rb.2/\∃ nm',NmU d.2 xs nm'/\((∃ pa,pairOf us ps nm' = .ref pa/\o = .inl (.touch i pa))\/(pairOf us ps nm' = .non/\o = .inr (S.set i (fun y=>d.1 y+add y,nm')))))
def RowO (us:List V)(ps:List (Str × Str))(rbs:List (Int × Int))(ws:List Str)(M:Int)(S:List PF)(o:Ou):Rw->Prop
 | .draw i x t b=>∃ d rb,S[i]?=some d/\rbs[i]?=some rb/\IntoO us ps ws (M*b) (scl b S) i (fun y=>d.1 y*b,d.2) rb (oneW x (t*M)) [x] o
 | .fill i x t b=>∃ d rb,S[i]?=some d/\rbs[i]?=some rb/\((¬ tot ws d.1*b < t*M/\o = .inl (.low i))\/(tot ws d.1*b < t*M/\IntoO us ps ws (M*b) (scl b S) i (fun y=>d.1 y*b,d.2) rb (oneW x (t*M - tot ws d.1*b)) [x] o))
 | .pour i j t b=>∃ di dj rbj,S[i]?=some di/\S[j]?=some dj/\rbs[j]?=some rbj/\(((∀ y,di.1 y=0)/\o = .inl (.dry i))\/(¬ (∀ y,di.1 y=0)/\IntoO us ps ws (M*b) ((scl b S).set i (fun y=>di.1 y*b - di.1 y*t,di.2)) j (fun y=>dj.1 y*b,dj.2) rbj (fun y=>di.1 y*t) di.2 o))
 | .empty i=>∃ d,S[i]?=some d/\o = .inr (S.set i (fun _=>0,d.2))
 | .rinse i=>∃ d,S[i]?=some d/\((¬ (∀ y,d.1 y=0)/\o = .inl (.wet i))\/((∀ y,d.1 y=0)/\o = .inr (S.set i (fun _=>0,[]))))
def knd:Rw->Bool
 | .pour .. => true
 | _=>false
def rwM (M:Int):Rw->Int
 | .draw _ _ _ b=>M*b
 | .fill _ _ _ b=>M*b
 | .pour _ _ _ b=>M*b
 | _=>M
theorem aFg (a b:List Str) : ∃ c,NmU a b c:=by
 have tr : ∀ x y z:Str,decide (leS x y)=true->decide (leS y z)=true->decide (leS x z)=true:=fun x y z h1 h2=>decide_eq_true (List.le_trans (of_decide_eq_true h1) (of_decide_eq_true h2));have to : ∀ x y:Str,(decide (leS x y) || decide (leS y x))=true:=fun x y=>by
  rcases List.le_total x.cps.toList y.cps.toList with h | h
  ·rw [decide_eq_true (show leS x y from h)]; rfl
  ·rw [decide_eq_true (show leS y x from h),Bool.or_true]
 have p:=List.mergeSort_perm (SX.ddl (a ++ b)) fun x y=>decide (leS x y);have s:=List.pairwise_mergeSort tr to (SX.ddl (a ++ b));generalize (SX.ddl (a ++ b)).mergeSort (fun x y=>decide (leS x y))=ss at p s;have nd:ss.Nodup:=p.nodup_iff.mpr (SX.ddl_nodup _);refine ⟨ss,?_,fun y=>by rw [p.mem_iff,SX.ddl_mem,Bi]⟩;refine (List.pairwise_and_iff.mpr ⟨s,nd⟩).imp fun {x y} h => ?_;exact Bl fun z=>h.2 (TM.ext (EJ (of_decide_eq_true h.1) (List.not_lt.mp z)))
section
variable {us:List V}{ps:List (Str × Str)}{rbs:List (Int × Int)}{ws:List Str}{M:Int}{S:List PF}{H:Hp}{Q:VK}{E:XK}{c0 c1 c2 c3 c4:Addr}{n:Nat}
theorem oX {i:Nat}{rb:Int × Int}{add:Str->Int}(pt:PsT H us ps) : ∃ o,IntoO us ps ws M S i d rb add xs o:=by
 by_cases c:rb.1*M < tot ws (fun y=>d.1 y+add y)*rb.2
 ·exact ⟨_,.inl ⟨c,rfl⟩⟩
 ·obtain ⟨nm,u⟩:=aFg d.2 xs
  rcases fU (xs:=nm) pt with e | ⟨pa,p,e,_,_⟩
  ·exact ⟨_,.inr ⟨c,nm,u,.inr ⟨e,rfl⟩⟩⟩
  ·exact ⟨_,.inr ⟨c,nm,u,.inl ⟨pa,e,rfl⟩⟩⟩
theorem IntoO.r {i:Nat}{rb:Int × Int}{add:Str->Int}(h:IntoO us ps ws M S i d rb add xs o)(k:OutP c0 c1 c2 c3 c4 n M H Q E o):IntoR c3 c4 us ps ws M S i d rb add xs n H Q E:=by
 rcases h with ⟨c,rfl⟩ | ⟨c,nm',u,⟨pa,e,rfl⟩ | ⟨e,rfl⟩⟩
 ·exact ⟨fun _=>k,fun c'=>absurd c c'⟩
 ·refine ⟨fun c'=>absurd c' c,fun _ nm2 u2 => ?_⟩
  cases u.uniq u2;exact ⟨fun pa' e'=>by rw [e] at e'; cases e'; exact k,fun e'=>by rw [e] at e'; cases e'⟩
 ·refine ⟨fun c'=>absurd c' c,fun _ nm2 u2 => ?_⟩
  cases u.uniq u2;exact ⟨fun pa' e'=>(by rw [e] at e'; cases e'),fun _=>k⟩
theorem IntoO.l {i:Nat}{rb:Int × Int}{add:Str->Int}(h:IntoO us ps ws M S i d rb add xs o)(k:OutL M H Q o):IntoL us ps ws M S i d rb add xs H Q:=by
 rcases h with ⟨c,rfl⟩ | ⟨c,nm',u,⟨pa,e,rfl⟩ | ⟨e,rfl⟩⟩
 ·exact ⟨fun _ z t3 a t b H' s h1 h2 h3 h4=>k z t3 H' s h1 ⟨a,t,b,h2,h3,h4⟩,fun c'=>absurd c c'⟩
 ·refine ⟨fun c'=>absurd c' c,fun _ nm2 u2 => ?_⟩
  cases u.uniq u2;exact ⟨fun pa' e' z t3 H' s h1 h2=>by rw [e] at e'; cases e'; exact k z t3 H' s h1 h2,fun e'=>by rw [e] at e'; cases e'⟩
 ·refine ⟨fun c'=>absurd c' c,fun _ nm2 u2 => ?_⟩
  cases u.uniq u2;exact ⟨fun pa' e'=>(by rw [e] at e'; cases e'),fun _=>k⟩
theorem IntoO.sok {β i:Nat}{rb:Int × Int}{add:Str->Int}(so:Sok ws rbs M S β)(hd:S[i]?=some d)(hr:rbs[i]?=some rb)(a0 : ∀ y,0<=add y)(aw : ∀ y,add y ≠ 0->y ∈ ws)(xw : ∀ x ∈ xs,x ∈ ws)(h:IntoO us ps ws M S i d rb add xs (.inr S')):Sok ws rbs M S' β:=by
 rcases h with ⟨c,e⟩ | ⟨c,nm',u,⟨pa,e,e2⟩ | ⟨e,e2⟩⟩
 ·cases e
 ·cases e2
 ·cases e2
  have ok:=so.ok d (Ay hd);refine ⟨so.m0,so.bm,by rw [Cn]; exact so.sl,fun d' hd' => ?_,fun k d' rb' hd' hr' => ?_⟩
  ·rcases Fk hd' with h | h
   ·exact so.ok d' h
   ·rw [h]
    refine ⟨fun y=>Int.add_nonneg (ok.nn y) (a0 y),fun y hy => ?_,u.srt,fun y hy => ?_⟩
    ·rcases (u.mem y).mp hy with h | h
     ·exact ok.nin y h
     ·exact xw y h
    ·by_cases z:d.1 y=0
     ·exact aw y fun z2=>hy (by show d.1 y+add y=0; omega)
     ·exact ok.inw y z
  ·by_cases ik:i=k
   ·subst ik
    rw [BY (Ad.mp hd).1] at hd';cases hd';rw [hr] at hr';cases hr';show tot ws (fun y=>d.1 y+add y)*rb.2<=_;omega
   ·rw [BR ik] at hd'
    exact so.fit k d' rb' hd' hr'
theorem aA1 {nb:Nat}(pt:PsT H us ps)(nS:S.length=nb)(nr:rbs.length=nb)(g:GoodR nb ws rw) : ∃ o,RowO us ps rbs ws M S o rw:=by
 have gS : ∀ {i:Nat},i < nb->∃ d rb,S[i]?=some d/\rbs[i]?=some rb:=fun {i} h=>⟨_,_,Ae (by omega),Ae (by omega)⟩;cases rw with
 | draw i x t b =>
  obtain ⟨d,rb,h1,h2⟩:=gS g.1;obtain ⟨o,ho⟩:=oX (ws:=ws) (M:=M*b) (S:=scl b S) (i:=i) (d:=(fun y=>d.1 y*b,d.2)) (rb:=rb) (add:=oneW x (t*M)) (xs:=[x]) pt;exact ⟨o,d,rb,h1,h2,ho⟩
 | fill i x t b =>
  obtain ⟨d,rb,h1,h2⟩:=gS g.1
  by_cases c:tot ws d.1*b < t*M
  ·obtain ⟨o,ho⟩:=oX (ws:=ws) (M:=M*b) (S:=scl b S) (i:=i) (d:=(fun y=>d.1 y*b,d.2)) (rb:=rb) (add:=oneW x (t*M - tot ws d.1*b)) (xs:=[x]) pt
   exact ⟨o,d,rb,h1,h2,.inr ⟨c,ho⟩⟩
  ·exact ⟨_,d,rb,h1,h2,.inl ⟨c,rfl⟩⟩
 | pour i j t b =>
  obtain ⟨di,_,h1,_⟩:=gS g.1;obtain ⟨dj,rbj,h2,h3⟩:=gS g.2.1
  by_cases c : ∀ y,di.1 y=0
  ·exact ⟨_,di,dj,rbj,h1,h2,h3,.inl ⟨c,rfl⟩⟩
  ·obtain ⟨o,ho⟩:=oX (ws:=ws) (M:=M*b) (S:=(scl b S).set i (fun y=>di.1 y*b - di.1 y*t,di.2)) (i:=j) (d:=(fun y=>dj.1 y*b,dj.2)) (rb:=rbj) (add:=fun y=>di.1 y*t) (xs:=di.2) pt
   exact ⟨o,di,dj,rbj,h1,h2,h3,.inr ⟨c,ho⟩⟩
 | empty i =>
  obtain ⟨d,_,h1,_⟩:=gS (show i < nb from g);exact ⟨_,d,h1,rfl⟩
 | rinse i =>
  obtain ⟨d,_,h1,_⟩:=gS (show i < nb from g)
  by_cases c : ∀ y,d.1 y=0
  ·exact ⟨_,d,h1,.inr ⟨c,rfl⟩⟩
  ·exact ⟨_,d,h1,.inl ⟨c,rfl⟩⟩
theorem RowO.p (hk:knd rw=true)(h:RowO us ps rbs ws M S o rw)(k:OutP c0 c1 c2 c3 c4 n (rwM M rw) H Q E o):ResP c0 c1 c2 c3 c4 us ps rbs ws M S n H Q E rw:=by
 cases rw with
 | draw i x t b=>exact absurd hk Az
 | fill i x t b=>exact absurd hk Az
 | pour i j t b =>
  obtain ⟨di,dj,rbj,h1,h2,h3,h4⟩:=h;refine ⟨di,dj,rbj,h1,h2,h3,?_⟩
  rcases h4 with ⟨c,rfl⟩ | ⟨c,h4⟩
  ·exact ⟨fun _=>k,fun c'=>absurd c c'⟩
  ·exact ⟨fun c'=>absurd c' c,fun _=>h4.r k⟩
 | empty i=>exact absurd hk Az
 | rinse i=>exact absurd hk Az
theorem RowO.l (h:RowO us ps rbs ws M S o rw)(k:OutL (rwM M rw) H Q o):ResL us ps rbs ws M S H Q rw:=by
 cases rw with
 | draw i x t b =>
  obtain ⟨d,rb,h1,h2,h3⟩:=h;exact ⟨d,rb,h1,h2,h3.l k⟩
 | fill i x t b =>
  obtain ⟨d,rb,h1,h2,h3⟩:=h;refine ⟨d,rb,h1,h2,?_⟩
  rcases h3 with ⟨c,rfl⟩ | ⟨c,h3⟩
  ·exact ⟨fun _=>k,fun c'=>absurd c' c⟩
  ·exact ⟨fun c'=>absurd c c',fun _=>h3.l k⟩
 | pour i j t b =>
  obtain ⟨di,dj,rbj,h1,h2,h3,h4⟩:=h;refine ⟨di,dj,rbj,h1,h2,h3,?_⟩
  rcases h4 with ⟨c,rfl⟩ | ⟨c,h4⟩
  ·exact ⟨fun _=>k,fun c'=>absurd c c'⟩
  ·exact ⟨fun c'=>absurd c' c,fun _=>h4.l k⟩
 | empty i =>
  obtain ⟨d,h1,rfl⟩:=h;exact ⟨d,h1,k⟩
 | rinse i =>
  obtain ⟨d,h1,h2⟩:=h;refine ⟨d,h1,?_⟩
  rcases h2 with ⟨c,rfl⟩ | ⟨c,rfl⟩
  ·exact ⟨fun _=>k,fun c'=>absurd c' c⟩
  ·exact ⟨fun c'=>absurd c c',fun _=>k⟩
theorem aAu {f g:Str->Int}(h : ∀ y,f y<=g y) : ∀ ws:List Str,tot ws f<=tot ws g
 | []=>Du _
 | y :: r=>by
  have ih:=aAu h r;have:=h y;unfold tot at ih ⊢;rw [Ai,Ai,AI,AI];omega
theorem pQ : ∀ ws:List Str,tot ws (fun _=>0)=0
 | []=>rfl
 | y :: r=>by
  have ih:=pQ r;unfold tot at ih ⊢;rw [Ai,AI,ih];rfl
theorem Sok.put {β i:Nat}(so:Sok ws rbs M S β)(rp : ∀ (i:Nat) rb,rbs[i]?=some rb->0<=rb.2)(hd:S[i]?=some d)(ok:Okf ws d')(le : ∀ y,d'.1 y<=d.1 y):Sok ws rbs M (S.set i d') β:=by
 refine ⟨so.m0,so.bm,by rw [Cn]; exact so.sl,fun e he => ?_,fun k e rb he hr => ?_⟩
 ·rcases Fk he with h | h
  ·exact so.ok e h
  ·rw [h]; exact ok
 ·by_cases ik:i=k
  ·subst ik
   rw [BY (Ad.mp hd).1] at he;cases he;exact Ej (EH (aAu le ws) (rp i rb hr)) (so.fit i d rb hd hr)
  ·rw [BR ik] at he
   exact so.fit k e rb he hr
theorem Sok.mono {β γ:Nat}(so:Sok ws rbs M S β)(h:β<=γ):Sok ws rbs M S γ:=⟨so.m0,so.bm.mono h,so.sl,so.ok,so.fit⟩
theorem vO {n:Int}(h:0<=n)(y:Str):0<=oneW x n y:=by
 unfold oneW;split
 ·exact h
 ·exact Du _
theorem vP {n:Int}(h:x ∈ ws)(y:Str)(hy:oneW x n y ≠ 0):y ∈ ws:=by
 unfold oneW at hy;split at hy
 ·rename_i e; rw [<- e]; exact h
 ·exact absurd rfl hy
theorem uH (h:x ∈ ws) : ∀ y ∈ [x],y ∈ ws:=fun y hy=>by rw [AE.mp hy]; exact h
theorem RowO.sok {β nb:Nat}(so:Sok ws rbs M S β)(rp : ∀ (i:Nat) rb,rbs[i]?=some rb->0<=rb.2)(g:GoodR nb ws rw)(l1:rwb rw<=10000)(h:RowO us ps rbs ws M S (.inr S') rw):Sok ws rbs (rwM M rw) S' (β+14):=by
 have M0:=so.m0;have b7 : ∀ {t b:Int},RwA t b->b<=10000->0 < b/\Bt 14 b:=fun {t b} a l=>by
  have:=a.am.b1;exact ⟨by omega,dE 14 (c:=10001) (by omega) (by omega)⟩
 cases rw with
 | draw i x t b =>
  obtain ⟨d,rb,h1,h2,h3⟩:=h;obtain ⟨g1,g2,g3,g4⟩:=g;obtain ⟨b0,bb⟩:=b7 g3 l1;exact IntoO.sok (so.scale b0 bb) (fE h1) h2 (vO (BA (by omega) (by omega))) (vP g2) (uH g2) h3
 | fill i x t b =>
  obtain ⟨d,rb,h1,h2,h3⟩:=h;obtain ⟨g1,g2,g3⟩:=g;obtain ⟨b0,bb⟩:=b7 g3 l1
  rcases h3 with ⟨c,e⟩ | ⟨c,h3⟩
  ·cases e
  ·exact IntoO.sok (so.scale b0 bb) (fE h1) h2 (vO (by omega)) (vP g2) (uH g2) h3
 | pour i j t b =>
  obtain ⟨di,dj,rbj,h1,h2,h3,h4⟩:=h;obtain ⟨g1,g2,g3,g4,g5,g6⟩:=g;obtain ⟨b0,bb⟩:=b7 g4 l1
  rcases h4 with ⟨c,e⟩ | ⟨c,h4⟩
  ·cases e
  ·have ok:=so.ok di (Ay h1)
   have tn : ∀ y,0<=di.1 y*t:=fun y=>BA (ok.nn y) (by omega);have s1:=(so.scale b0 bb).put (d':=(fun y=>di.1 y*b - di.1 y*t,di.2)) rp (fE h1) ⟨fun y=>by
    have:=CI g6 (ok.nn y);show 0<=di.1 y*b - di.1 y*t;omega,ok.nin,ok.srt,fun y hy=>ok.inw y fun e=>hy (by show di.1 y*b - di.1 y*t=0; rw [e,BN,BN]; rfl)⟩ (fun y=>by
    have:=tn y;show di.1 y*b - di.1 y*t<=di.1 y*b;omega)
   exact IntoO.sok s1 (by rw [BR g3]; exact fE h2) h3 tn (fun y hy=>ok.inw y fun e=>hy (by show di.1 y*t=0; rw [e,BN])) ok.nin h4
 | empty i =>
  obtain ⟨d,h1,e⟩:=h;cases e;have ok:=so.ok d (Ay h1);exact (so.put (d':=(fun _=>0,d.2)) rp h1 ⟨fun _=>Du _,ok.nin,ok.srt,fun y hy=>absurd rfl hy⟩ ok.nn).mono (Nat.le_add_right ..)
 | rinse i =>
  obtain ⟨d,h1,h2⟩:=h;have ok:=so.ok d (Ay h1)
  rcases h2 with ⟨c,e⟩ | ⟨c,e⟩
  ·cases e
  ·cases e
   exact (so.put (d':=(fun _=>0,[])) rp h1 ⟨fun _=>Du _,(fun y hy=>by cases hy),.nil,fun y hy=>absurd rfl hy⟩ ok.nn).mono (Nat.le_add_right ..)
def dPh (M:Int)(d:PF)(D:Dt):Prop:=∃ ys,IsMx M d.1 ys/\D = .t [.t (ys.map dOf),.t (d.2.map Dt.s)]
theorem Pr.dv2 {K:Aa}{v:V}{x:Str × Int × Int}(h:Pr H v x):Dv K H 2 v (dOf x):=by
 obtain ⟨p,q,rfl,h1,h2⟩:=h;exact .two (SqZ.of h1) .s (.two (SqZ.of h2) .i .i)
theorem PrL.dl2 {K:Aa}{vs:List V}{xs:List (Str × Int × Int)}(h:PrL H vs xs):DL K H 2 vs (xs.map dOf):=by
 induction h with
 | nil=>exact DL.nil
 | cons p _ ih=>exact DL.cons (Pr.dv2 p) ih
theorem xE {K:Aa}{m:Nat} : ∀ (xs:List Str),DL K H m (xs.map V.str) (xs.map Dt.s)
 | []=>DL.nil
 | x :: r=>DL.cons .s (xE r)
theorem PhA.dv {K:Aa}{v:V}{d:PF}{D:Dt}(M0:0 < M)(h:PhA H M v d)(k:dPh M d D):Dv K H 4 v D:=by
 obtain ⟨a,m,n,us,ys,rfl,h1,h2,h3,h4,h5⟩:=h;obtain ⟨zs,h6,rfl⟩:=k;cases h4.uniq M0 h6;exact .two (SqZ.of h1) (.tup (SqZ.of h2) (PrL.dl2 h3)) (.tup (SqZ.of h5) (xE _))
theorem PhA.dph (h:PhA H M v d) : ∃ D,dPh M d D:=by
 obtain ⟨a,m,n,us,ys,rfl,h1,h2,h3,h4,h5⟩:=h;exact ⟨_,ys,h4,rfl⟩
theorem xA {α β:Type}{p:α->β->Prop} : ∀ l:List α,(∀ a ∈ l,∃ b,p a b)->∃ bs:List β,bs.length=l.length/\∀ (i:Nat) a b,l[i]?=some a->bs[i]?=some b->p a b
 | [],_=>⟨[],rfl,fun i a b h=>by simp at h⟩
 | a :: l,h=>by
  obtain ⟨b,hb⟩:=h a (Au ..);obtain ⟨bs,h1,h2⟩:=xA l fun x hx=>h x (Al _ hx);refine ⟨b :: bs,by rw [AG,AG,h1],fun i x y hx hy => ?_⟩;cases i with
  | zero=>cases hx; cases hy; exact hb
  | succ i=>exact h2 i x y (by simpa using hx) (by simpa using hy)
theorem StV.ds {l:Addr}(h:StV H l M S) : ∃ ds:List Dt,ds.length=S.length/\∀ (i:Nat) d D,S[i]?=some d->ds[i]?=some D->dPh M d D:=xA S fun d hd=>by
 obtain ⟨i,hi⟩:=EV hd;obtain ⟨vs,v,_,_,_,ph⟩:=h.get hi;exact ph.dph
theorem StV.dl {K:Aa}{l:Addr}{ds:List Dt}(M0:0 < M)(h:StV H l M S)(dl:ds.length=S.length)(hd : ∀ (i:Nat) d D,S[i]?=some d->ds[i]?=some D->dPh M d D) : ∃ vs,H l=some (.lst vs)/\DL K H 40 vs ds:=by
 obtain ⟨vs,h1,h2,h3⟩:=h;refine ⟨vs,h1,by omega,fun i v D hv hD => ?_⟩;obtain ⟨d,hd'⟩ : ∃ d,S[i]?=some d:=⟨_,Ae (by have:=(Ad.mp hv).1; omega)⟩;exact ((h3 i v d hv hd').dv M0 (hd i d D hd' hD)).mono (by decide)
theorem StV.same {K:Aa}{l l':Addr}(M0:0 < M)(h:StV H l M S)(h':StV H l' M S) : ∃ vs vs' ds,H l=some (.lst vs)/\H l'=some (.lst vs')/\DL K H 40 vs ds/\DL K H 40 vs' ds:=by
 obtain ⟨ds,h1,h2⟩:=h.ds;obtain ⟨vs,a1,a2⟩:=h.dl (K:=K) M0 h1 h2;obtain ⟨vs',b1,b2⟩:=h'.dl (K:=K) M0 h1 h2;exact ⟨vs,vs',ds,a1,b1,a2,b2⟩
end
end K34
namespace K34
open PySem PySem.Spec PyProof.Rows L2 GM TM TR
def kM (K:Aa):Sp:=fun vs H Q _=>∃ sc b wl r q rs us ps rbs ws,∃ (ns:List Int) (st la:Nat),vs=[.ref sc,.ref b,.ref wl,.int ((st:Nat):Int),.int ((la:Nat):Int)]/\SqL K H sc (ns.map V.int)/\ns.length<=63/\BS H b r q rs us ps rbs ws/\WsV H wl ws/\st<=la/\la<=63/\∀ l M S β H',Same H H'->H l=none->StV H' l M S->Sok ws rbs M S β->β<=14*(la - st)+1->Q (.ref l) H'
def fw:Fat->Str
 | .dry _ => "dry"
 | .low _ => "low"
 | .wet _ => "wet"
 | .spilt .. => "spilt"
 | .touch .. => "touch"
def fcl (c0 c1 c2 c3 c4:Addr):Fat->Addr
 | .dry _=>c0
 | .low _=>c0
 | .wet _=>c0
 | .spilt .. => c3
 | .touch .. => c4
def ErV (c0 c1 c2 c3 c4:Addr)(H:Hp)(e:Addr)(n:Nat):Fat->Prop
 | .dry i=>∃ dx,H e=some (excD e c0 (some dx))/\H dx=some (xdE dx [("phial",.int (i:Nat)),("place",.int (n:Nat))])
 | .low _=>False
 | .wet _=>False
 | .spilt i M N rb=>∃ dx a t b,H e=some (excD e c3 (some dx))/\H dx=some (xdE dx [("over",.ref a),("phial",.int (i:Nat)),("place",.int (n:Nat))])/\H a=some (.tup [.int t,.int b])/\Fr (M*rb.2) t b (N*rb.2 - rb.1*M)
 | .touch i pa=>∃ dx,H e=some (excD e c4 (some dx))/\H dx=some (xdE dx [("pair",.ref pa),("phial",.int (i:Nat)),("place",.int (n:Nat))])
def FtG (H:Hp):Fat->Prop
 | .spilt _ M _ rb=>0 < M*rb.2
 | .touch _ pa=>∃ x y:Str,H pa=some (.tup [.str x,.str y])
 | _=>True
theorem FtG.keep (s:Same H H')(h:FtG H f):FtG H' f:=by
 cases f with
 | touch i pa=>obtain ⟨x,y,h⟩:=h; exact ⟨x,y,s _ _ h⟩
 | _=>exact h
theorem RfV.keep (s:Same H H')(h:RfV H z f):RfV H' z f:=by
 cases f with
 | spilt i M N rb=>obtain ⟨a,t,b,h1,h2,h3⟩:=h; exact ⟨a,t,b,s _ _ h1,s _ _ h2,h3⟩
 | dry i=>exact s _ _ h
 | low i=>exact s _ _ h
 | wet i=>exact s _ _ h
 | touch i pa=>exact s _ _ h
theorem IntoO.ftg {M:Int}{i:Nat}{rb:Int × Int}{add:Str->Int}(pt:PsT H us ps)(M0:0 < M)(r0:0 < rb.2)(h:IntoO us ps ws M S i d rb add xs (.inl f)):FtG H f:=by
 rcases h with ⟨c,e⟩ | ⟨c,nm',u,⟨pa,e,e2⟩ | ⟨e,e2⟩⟩
 ·cases e
  exact Cf M0 r0
 ·cases e2
  rcases fU (xs:=nm') pt with e3 | ⟨pa',p,e3,_,hp⟩
  ·rw [e] at e3; cases e3
  ·rw [e] at e3; cases e3
   exact ⟨_,_,hp⟩
 ·cases e2
theorem RowO.ftg {M:Int}{nb:Nat}(pt:PsT H us ps)(M0:0 < M)(rp : ∀ (i:Nat) rb,rbs[i]?=some rb->0 < rb.2)(g:GoodR nb ws rw)(h:RowO us ps rbs ws M S (.inl f) rw):FtG H f:=by
 cases rw with
 | draw i x t b =>
  obtain ⟨d,rb,h1,h2,h3⟩:=h;exact h3.ftg pt (Cf M0 (by have:=g.2.2.1.am.b1; omega)) (rp i rb h2)
 | fill i x t b =>
  obtain ⟨d,rb,h1,h2,h3⟩:=h
  rcases h3 with ⟨c,e⟩ | ⟨c,h3⟩
  ·cases e; trivial
  ·exact h3.ftg pt (Cf M0 (by have:=g.2.2.am.b1; omega)) (rp i rb h2)
 | pour i j t b =>
  obtain ⟨di,dj,rbj,h1,h2,h3,h4⟩:=h
  rcases h4 with ⟨c,e⟩ | ⟨c,h4⟩
  ·cases e; trivial
  ·exact h4.ftg pt (Cf M0 (by have:=g.2.2.2.1.am.b1; omega)) (rp j rbj h3)
 | empty i=>obtain ⟨d,h1,e⟩:=h; cases e
 | rinse i =>
  obtain ⟨d,h1,h2⟩:=h
  rcases h2 with ⟨c,e⟩ | ⟨c,e⟩
  ·cases e; trivial
  ·cases e
theorem aDv {n:Nat}(h : ∀ dx H',Same H H'->(∀ e,H' e=none->ErV c0 c1 c2 c3 c4 (upd H' e (excD e (fcl c0 c1 c2 c3 c4 f) (some dx))) e n f)->E (.ref (fcl c0 c1 c2 c3 c4 f)) (some dx) H'):BadF c0 c1 c2 c3 c4 n H E f:=by
 cases f with
 | dry i=>exact fun dx H' s hd=>h dx H' s fun e he=>⟨dx,aB,Same.upd he _ _ hd⟩
 | low i=>trivial
 | wet i=>trivial
 | spilt i M N rb=>exact fun a t b dx H' s ha fr hd=>h dx H' s fun e he=>⟨dx,a,t,b,aB,Same.upd he _ _ hd,Same.upd he _ _ ha,fr⟩
 | touch i pa=>exact fun dx H' s hd=>h dx H' s fun e he=>⟨dx,aB,Same.upd he _ _ hd⟩
def fkd:Fat->Prop
 | .dry .. => True
 | .low .. => False
 | .wet .. => False
 | .spilt .. => True
 | .touch .. => True
def uE (c0 c1 c2 c3 c4:Addr):Sp:=fun vs H Q _=>∃ a dd f,vs=[.ref a]/\fkd f/\H a=some (excD a (fcl c0 c1 c2 c3 c4 f) dd)/\∀ l H',Same H H'->H' l=some (.lst [.str (fw f)])->Q (.ref l) H'
def iI (c0 c1 c2 c3 c4:Addr):Sp:=fun vs H Q _=>∃ (a z:Addr) (n:Nat) (f:Fat),vs=[.ref a,.ref z,.int (n:Nat)]/\ErV c0 c1 c2 c3 c4 H a n f/\RfV H z f/\FtG H f/\∀ H',Same H H'->Q (.bl true) H'
section
variable {P:Ax}{w:World}{K:Aa}{mg:Str->Option Value}{base:Heap}{cP c0 c1 c2 c3 c4 c5 f0 f3 f4:Addr}
theorem aFi:(["_law_room"]:List Str).Nodup:=by decide +kernel
abbrev Nphs:List Str:=["_law_script","_law_bench_here","_law_wares_here","_law_start","_law_last","_law_state","_law_k","_law_refusal","_law_found"]
theorem rX:FnScope Nphs ["_law_script","_law_bench_here","_law_wares_here","_law_start","_law_last"] (aH sPhials):=fnScOk (by decide +kernel)
theorem vS (F:Fun K "_law_phials" "_law_phials" sPhials f fd)(T:Txt mg)(cA:Cal P w K mg base CX0 6 "_law_after" ["_law_bench_here","_law_state","_law_row_here"] (kX K))(cR:Cal P w K mg base CX0 6 "_law_row" ["_law_bench_here","_law_wares_here","_law_script","_law_k"] (aB5 K)):FnOk P w K mg base CX0 7 f fd ["_law_script","_law_bench_here","_law_wares_here","_law_start","_law_last"] (kM K):=by
 refine F.ok rX (fun vs H Q E h => ?_) (fun cdv A outer s H vs Q E hr h => ?_)
 ·obtain ⟨_,_,_,_,_,_,_,_,_,_,_,_,_,rfl,_⟩:=h
  rfl
 ·obtain ⟨sc,b,wl,r,q,rs,us,ps,rbs,ws,ns,st,la,rfl,hS,n63,bs,wv,sl,l63,k⟩:=h
  refine ⟨_,(aC (uS (iy:=5) (N':=["_law_room"]) (cl:=[]) (g:=L2.gName 0) (fun _=>[none]) rfl rfl (by decide +kernel) (by decide +kernel) (jW (by decide +kernel)) (fun _ _=>nN)
    (gR (pit 1 0)) (fun _ _ _ _ _=>aV (i:=0) aFi rfl (Or.inl rfl) (Or.inr rfl)) (fun _ _ _ _ _=>eN) (fun _ _ _ _ _=>aW (aA (aW aD) (aA (aW aD) aD))) rX.nd rfl (Or.inl rfl) (Or.inr rfl) rfl)
   (aC (dI AU rfl (fR rfl T.range (aA (pv 3) (aA (aR (nG rfl) rfl T.min' boot_min (aA (aR aZ rfl T.len Bz (aA (pv 0) aD)) (aA (pv 4) aD))) aD))) (aV (i:=6) rX.nd rfl (Or.inl rfl))
    (aC (gQ (aJ cA hr rfl aT (aA (pv 1) (aA (pv 5) (aA (aJ cR hr rfl aT (aA (pv 1) (aA (pv 2) (aA (pv 0) (aA (pv 6) aD))))) aD)))) (fS rfl (bR (aV (i:=7) rX.nd rfl (Or.inl rfl)) (bR (aV (i:=8) rX.nd rfl (Or.inl rfl)) eO))))
    (aE (bA (aQ aA8 (pv 7) dP (aU _))
     (aE (aL (i:=5) rX.nd rfl (Or.inl rfl) (pv 8)))
     aP))))
   (aE (aM (pv 5))))),?_⟩
  refine cut3 ?_
  intros
  have l16:=bs.bn.l16;refine ⟨b,_,_,rfl,SqT.of bs.bn.hp,rfl,r,rfl,⟨_,SqT.of bs.bn.hr⟩,fun ph nph => ?_⟩;refine gA (Ys.tup (SqT.of bs.bn.hr)) (fun _ _ y H'=>PhA H' 1 y (fun _=>0,[])) (fun _ _ _ _ _ h t=>by obtain ⟨a,m,n,us,ys,e,h1,h2,h3,h4,h5⟩:=h; exact ⟨a,m,n,us,ys,e,t _ _ h1,t _ _ h2,h3.keep t,h4,t _ _ h5⟩) nph (by omega) (fun i x H' R hx sm hR => ?_) (fun ys H3 s3 hph yl hy => ?_)
  ·refine ⟨(Keep.refl _).set rfl,zLn0,fun e1 ne1=>⟨zLn0,fun e2 ne2=>⟨zLn2,fun z nz => ?_⟩⟩⟩
   have t1:=Same.upd (o:=.tup []) ne1;have t2:=Same.upd (o:=.tup []) ne2;have t3:=Same.upd (o:=.tup [.ref e1,.ref e2]) nz;exact hR _ _ ((t1.trans t2).trans t3) ⟨z,e1,e2,[],[],rfl,aB,(t2.trans t3) _ _ aB,.nil,qU,t3 _ _ aB⟩
  have rl:=bs.rm.1;have st0:StV H3 ph 1 (CL rbs.length (fun _=>0,[])):=⟨ys,hph,by rw [List.length_replicate]; omega,fun i v d hv hd=>by
   obtain ⟨x,hx⟩ : ∃ x,rs[i]?=some x:=⟨_,Ae (by have:=(Ad.mp hv).1; omega)⟩;rw [Eo] at hd;split at hd
   ·cases hd; exact hy i x v hx hv
   ·cases hd⟩
  have rp0 : ∀ (i:Nat) rb,rbs[i]?=some rb->0<=rb.2/\0<=rb.1:=fun i rb h=>by
   have:=bs.rm.at h;exact ⟨by have:=this.b1; omega,by have:=this.t1; omega⟩
  have so0:Sok ws rbs 1 (CL rbs.length (fun _=>0,[])) 1:=⟨by decide,dE 1 (c:=2) (by decide) (by decide),by rw [List.length_replicate],fun d hd=>by
   rw [(List.mem_replicate.mp hd).2];exact ⟨fun _=>Du _,(fun y hy=>by cases hy),.nil,fun y hy=>absurd rfl hy⟩,fun i d rb hd hr=>by
   rw [Eo] at hd;split at hd
   ·cases hd
    show tot ws (fun _=>0)*rb.2<=rb.1*1;rw [pQ,BN,Int.mul_one];exact (rp0 i rb hr).2
   ·cases hd⟩
  refine ⟨_,rfl,_,rfl,sc,_,rfl,.inl (s3.seq hS),_,rfl,_,_,rfl,_,_,rfl,⟨by omega,by omega,by split <;> omega,by split <;> omega⟩,?_⟩;refine jV (fun i σ H'=>∃ (l:Addr) (M:Int) (S:List PF) (β:Nat) (v6 v7 v8:Option V),σ=[some (.ref sc),some (.ref b),some (.ref wl),some (.int ((st:Nat):Int)),some (.int ((la:Nat):Int)),some (.ref l),v6,v7,v8]/\Same H H'/\H l=none/\StV H' l M S/\Sok ws rbs M S β/\β<=14*i+1) ⟨ph,1,_,1,none,none,none,rfl,s3,nph,st0,so0,by omega⟩ ?_ ?_
  rotate_left
  ·intro σ H4 hh
   obtain ⟨l,M,S,β,v6,v7,v8,rfl,s4,nl,st4,so4,bl⟩:=hh;refine ⟨_,rfl,k l M S β H4 s4 nl st4 so4 ?_⟩;refine AX bl ?_;have:((if ((la:Nat):Int) < (((ns.map V.int).length:Nat):Int) then ((la:Nat):Int) else (((ns.map V.int).length:Nat):Int)) - ((st:Nat):Int)).toNat<=la - st:=by split <;> omega
   omega
  intro i σ H4 D' hN hi hh;obtain ⟨l,M,S,β,v6,v7,v8,rfl,s4,nl,st4,so4,bl⟩:=hh;have ki:st+i < ns.length/\st+i < la:=by
   have h2:i < ((if ((la:Nat):Int) < (((ns.map V.int).length:Nat):Int) then ((la:Nat):Int) else (((ns.map V.int).length:Nat):Int)) - ((st:Nat):Int)).toNat:=hi;rw [Ag] at h2;split at h2 <;> omega
  have ek:((st:Nat):Int)+(i:Int)=((st+i:Nat):Int):=by omega
  rw [ek];have bn:BnV H4 b rs.length:=⟨r,_,rs,s4 _ _ bs.bn.hp,s4 _ _ bs.bn.hr,rfl⟩;refine ⟨_,rfl,_,rfl,_,rfl,_,rfl,_,rfl,_,rfl,b,wl,sc,rs.length,ws,ns,st+i,rfl,bn,bs.bn.l1,l16,⟨s4 _ _ wv.1,wv.2⟩,s4.seq hS,ki.1,by omega,fun z H5 s5 gr => ?_⟩;obtain ⟨rw',rv,gd,l1⟩:=gr.good;have s05:=s4.trans s5;have bs5:=bs.keep s05;have o5:OnIn H5 b r q l rs us ps rbs ws M S β:=⟨bs5,st4.keep s5,so4,by omega⟩;have rp : ∀ (i:Nat) rb,rbs[i]?=some rb->0<=rb.2:=fun i rb h=>(rp0 i rb h).1;obtain ⟨o,ro⟩:=aA1 (H:=H5) (us:=us) (ps:=ps) (rbs:=rbs) (ws:=ws) (M:=M) (S:=S) bs5.bn.pt (by rw [so4.sl,<- rl]) (by omega) gd;refine ⟨b,r,q,l,z,rs,us,ps,rbs,ws,M,S,β,rw',rfl,o5,rv,gd,ro.l ?_⟩;cases o with
  | inl f =>
   intro zz t3 H6 s6 hz _;refine ⟨zz,_,rfl,SqT.of hz,rfl,_,_,rfl,_,_,rfl,rfl,_,rfl,rfl,_,rfl,iteF (hN _ _ ⟨l,M,S,β,_,_,_,rfl,s05.trans s6,nl,(st4.keep s5).keep s6,so4,by omega⟩)⟩
  | inr S' =>
   intro zz l' H6 s6 nl' hz st6;refine ⟨zz,_,rfl,SqT.of hz,rfl,_,_,rfl,_,_,rfl,rfl,_,rfl,rfl,_,rfl,iteT ⟨_,rfl,hN _ _ ⟨l',_,S',β+14,_,_,_,rfl,s05.trans s6,sm0 s05 nl',st6,RowO.sok so4 rp gd (by omega) ro,by omega⟩⟩⟩
theorem aCa:FnScope ["_law_found"] ["_law_found"] (aH sWhole):=fnScOk (by decide +kernel)
theorem zH (F:Fun K "_law_whole" "_law_whole" sWhole f fd)(T:Txt mg):FnOk P w K mg base CX0 1 f fd ["_law_found"] (spWh K):=by
 refine F.ok aCa (fun vs H Q E h => ?_) (fun cdv A outer s H vs Q E hr h => ?_)
 ·obtain ⟨_,_,rfl,_⟩:=h
  rfl
 ·obtain ⟨v,β,rfl,h,k⟩:=h
  refine ⟨_,aE (aM (iT (aR dY rfl T.isi Bu (aA (pv 0) (aA (eE (v:=.ty "int") rfl T.int' xW rfl) aD)))
   (fT (vD (aR dY rfl T.isi Bu (aA (pv 0) (aA (eE (v:=.ty "bool") rfl T.bool' xY rfl) aD))))))),?_⟩
  cases h with
  | int=>exact ⟨_,rfl,_,"int",true,rfl,.int_int,_,rfl,iteT ⟨_,rfl,_,"bool",false,rfl,.int_bool,_,rfl,k⟩⟩
  | bl=>exact ⟨_,rfl,_,"int",true,rfl,.bl_int,_,rfl,iteT ⟨_,rfl,_,"bool",true,rfl,.bl_bool,_,rfl,k⟩⟩
  | oth h=>exact ⟨_,rfl,_,"int",false,rfl,h,_,rfl,iteF k⟩
theorem aAz:FnScope ["_law_error","_law_found"] ["_law_error"] (aH sKind):=fnScOk (by decide +kernel)
theorem aC8 (F:Fun K "_law_kind" "_law_kind" sKind f fd)(T:Txt mg)(R:ErB K mg cP c0 c1 c2 c3 c4 c5 f0 f3 f4):FnOk P w K mg base CX0 1 f fd ["_law_error"] (uE c0 c1 c2 c3 c4):=by
 refine F.ok aAz (fun vs H Q E h => ?_) (fun cdv A outer s H vs Q E hr h => ?_)
 ·obtain ⟨_,_,_,rfl,_⟩:=h
  rfl
 ·obtain ⟨a,dd,ft,rfl,fk,ha,k⟩:=h
  refine ⟨_,(aC (aL (i:=1) aAz.nd rfl (Or.inl rfl) (dD aD))
   (aC (bA (bY (aR eC rfl T.isi Bu (aA (pv 0) (aA (dA (v:=.ref c0) rfl R.r0.m rfl) aD)))) (aE (dJ (iS Bg Ba AZ bW (pv 1) (aA aS aD)))) aP)
   (aC (bA (bY (aR eC rfl T.isi Bu (aA (pv 0) (aA (dA (v:=.ref c1) rfl R.m1 rfl) aD)))) (aE (dJ (iS Bg Ba AZ bW (pv 1) (aA aS aD)))) aP)
   (aC (bA (bY (aR eC rfl T.isi Bu (aA (pv 0) (aA (dA (v:=.ref c2) rfl R.m2 rfl) aD)))) (aE (dJ (iS Bg Ba AZ bW (pv 1) (aA aS aD)))) aP)
   (aC (bA (bY (aR eC rfl T.isi Bu (aA (pv 0) (aA (dA (v:=.ref c3) rfl R.r3.m rfl) aD)))) (aE (dJ (iS Bg Ba AZ bW (pv 1) (aA aS aD)))) aP)
   (aC (bA (bY (aR eC rfl T.isi Bu (aA (pv 0) (aA (dA (v:=.ref c4) rfl R.r4.m rfl) aD)))) (aE (dJ (iS Bg Ba AZ bW (pv 1) (aA aS aD)))) aP)
   (aC (bA (bY (aR eC rfl T.isi Bu (aA (pv 0) (aA (dA (v:=.ref c5) rfl R.m5 rfl) aD)))) mC aP)
   (aE (aM (pv 1)))))))))),?_⟩
  refine cut8 ?_
  intros
  refine ⟨zLn0,fun l nl => ?_⟩;have sl:=Same.upd (o:=.lst []) nl;have hl:upd H l (.lst []) l=some (.lst []):=aB;have nl0:=nl;have kk : ∀ x:Str,x=fw ft->Q (.ref l) (upd (upd H l (.lst [])) l (.lst [.str x])):=fun x e=>k l _ (fun b o e=>by rw [aI (bE e nl0)]; exact sl _ _ e) (by rw [e]; exact aB);have la : ∀ x:Str,∀ p o,p ≠ l->(upd H l (.lst [])) p=some o->upd (upd H l (.lst [])) l (.lst [.str x]) p=some o:=fun x p o n h=>by rw [aI n]; exact h
  generalize upd H l (.lst [])=H1 at sl hl kk la ⊢;have h1:=sl _ _ ha;have al:a ≠ l:=fun e=>by rw [e] at ha; rw [ha] at nl0; cases nl0
  cases ft with
  | dry i =>
   have ck:=(R.r0.e "place" (by simp)).i.k;have h2:=la "dry" _ _ al h1;refine ⟨_,rfl,a,c0,dd,.ref c0,.ref c0,true,rfl,h1,ck,rfl,R.i00,_,rfl,iteT ?_⟩;refine ⟨_,rfl,.inl ⟨rfl,_,SqL.of hl⟩,l,_,_,rfl,rfl,hl,bO (by show 0<=1000; decide),?_⟩;refine ⟨_,rfl,a,c0,dd,.ref c1,.ref c1,false,rfl,h2,ck,rfl,R.i01,_,rfl,iteF ?_⟩;refine ⟨_,rfl,a,c0,dd,.ref c2,.ref c2,false,rfl,h2,ck,rfl,R.i02,_,rfl,iteF ?_⟩;refine ⟨_,rfl,a,c0,dd,.ref c3,.ref c3,false,rfl,h2,ck,rfl,R.i03,_,rfl,iteF ?_⟩;refine ⟨_,rfl,a,c0,dd,.ref c4,.ref c4,false,rfl,h2,ck,rfl,R.i04,_,rfl,iteF ?_⟩;refine ⟨_,rfl,a,c0,dd,.ref c5,.ref c5,false,rfl,h2,ck,rfl,R.i05,_,rfl,iteF ?_⟩;exact ⟨_,rfl,kk _ rfl⟩
  | low i=>exact fk.elim
  | wet i=>exact fk.elim
  | spilt i M N rb =>
   have ck:=(R.r3.e "place" (by simp)).i.k;have h2:=la "spilt" _ _ al h1;refine ⟨_,rfl,a,c3,dd,.ref c0,.ref c0,false,rfl,h1,ck,rfl,R.i30,_,rfl,iteF ?_⟩;refine ⟨_,rfl,a,c3,dd,.ref c1,.ref c1,false,rfl,h1,ck,rfl,R.i31,_,rfl,iteF ?_⟩;refine ⟨_,rfl,a,c3,dd,.ref c2,.ref c2,false,rfl,h1,ck,rfl,R.i32,_,rfl,iteF ?_⟩;refine ⟨_,rfl,a,c3,dd,.ref c3,.ref c3,true,rfl,h1,ck,rfl,R.i33,_,rfl,iteT ?_⟩;refine ⟨_,rfl,.inl ⟨rfl,_,SqL.of hl⟩,l,_,_,rfl,rfl,hl,bO (by show 0<=1000; decide),?_⟩;refine ⟨_,rfl,a,c3,dd,.ref c4,.ref c4,false,rfl,h2,ck,rfl,R.i34,_,rfl,iteF ?_⟩;refine ⟨_,rfl,a,c3,dd,.ref c5,.ref c5,false,rfl,h2,ck,rfl,R.i35,_,rfl,iteF ?_⟩;exact ⟨_,rfl,kk _ rfl⟩
  | touch i pa =>
   have ck:=(R.r4.e "place" (by simp)).i.k;have h2:=la "touch" _ _ al h1;refine ⟨_,rfl,a,c4,dd,.ref c0,.ref c0,false,rfl,h1,ck,rfl,R.i40,_,rfl,iteF ?_⟩;refine ⟨_,rfl,a,c4,dd,.ref c1,.ref c1,false,rfl,h1,ck,rfl,R.i41,_,rfl,iteF ?_⟩;refine ⟨_,rfl,a,c4,dd,.ref c2,.ref c2,false,rfl,h1,ck,rfl,R.i42,_,rfl,iteF ?_⟩;refine ⟨_,rfl,a,c4,dd,.ref c3,.ref c3,false,rfl,h1,ck,rfl,R.i43,_,rfl,iteF ?_⟩;refine ⟨_,rfl,a,c4,dd,.ref c4,.ref c4,true,rfl,h1,ck,rfl,R.i44,_,rfl,iteT ?_⟩;refine ⟨_,rfl,.inl ⟨rfl,_,SqL.of hl⟩,l,_,_,rfl,rfl,hl,bO (by show 0<=1000; decide),?_⟩;refine ⟨_,rfl,a,c4,dd,.ref c5,.ref c5,false,rfl,h2,ck,rfl,R.i45,_,rfl,iteF ?_⟩;exact ⟨_,rfl,kk _ rfl⟩
theorem uK:FnScope ["_law_error","_law_due","_law_place"] ["_law_error","_law_due","_law_place"] (aH sRefused):=fnScOk (by decide +kernel)
theorem sJ (F:Fun K "_law_refused" "_law_refused" sRefused f fd)(T:Txt mg)(R:ErB K mg cP c0 c1 c2 c3 c4 c5 f0 f3 f4)(cK:Cal P w K mg base CX0 1 "_law_kind" ["_law_error"] (uE c0 c1 c2 c3 c4))(cW:Cal P w K mg base CX0 1 "_law_whole" ["_law_found"] (spWh K)):FnOk P w K mg base CX0 2 f fd ["_law_error","_law_due","_law_place"] (iI c0 c1 c2 c3 c4):=by
 refine F.ok uK (fun vs H Q E h => ?_) (fun cdv A outer s H vs Q E hr h => ?_)
 ·obtain ⟨_,_,_,_,rfl,_⟩:=h
  rfl
 ·obtain ⟨a,z,n,ft,rfl,er,rf,fg,k⟩:=h
  refine ⟨_,(aC (bA (PW.pt (hJ (eA (bY (aR eC rfl T.isi Bu (aA (pv 0) (aA (eE (v:=.ty "ValueError") rfl T.val aF3 rfl) aD))))) (fB (aQ (aCx hr.units) (aJ cK hr rfl aT (aA (pv 0) aD)) (dD (aA (pit 1 0) aD)) (aU _)))))
    (aE (aM eZ))
    aP)
   (aC (bA (PW.pt (hJ (eA (bY (aJ cW hr rfl aT (aA (jP (pv 0) rfl) aD)))) (fB (aQ mJ (jP (pv 0) rfl) (pv 2) (aU _)))))
    (aE (aM eZ))
    aP)
   (aC (bA (aQ cJ (pit 1 0) aS (aU _))
    (aE (aM eZ))
    aP)
   (aC (bA (PW.pt (hJ (eA (bY (aJ cW hr rfl aT (aA (jP (pv 0) rfl) aD)))) (fB (aQ mJ (jP (pv 0) rfl) (pit 1 1) (aU _)))))
    (aE (aM eZ))
    aP)
   (aC (bA (aQ cJ (pit 1 0) aS (aU _))
    (aE (aM (dB (aBa hr.units) (jP (pv 0) rfl) (pit 1 2) (aU _))))
    aP)
   (aE (aM (aCq (dB mJ (pit 1 0) aS (aU _)) (fT (dB (aC0 hr.units) (jP (pv 0) rfl) (pit 1 2) (aU _))))))))))),?_⟩
  refine cut6 ?_
  intros
  cases ft with
  | dry i =>
   obtain ⟨dx,ha,hdx⟩:=er;have hz:H z=some (.tup [.str "dry",.int ((i:Nat):Int),.non]):=rf;have ck:=(R.r0.e "place" (by simp)).i.k;have e1:=R.r0.e "place" (by simp);have e2:=R.r0.e "phial" (by simp);refine ⟨_,rfl,a,c0,some dx,.type "ValueError",.ty "ValueError",true,rfl,ha,ck,rfl,R.r0.v,_,rfl,iteF ?_⟩;refine ⟨_,rfl,a,some dx,.dry i,rfl,trivial,ha,fun l H1 s1 hl => ?_⟩;refine ⟨z,_,_,rfl,SqT.of (s1 _ _ hz),rfl,zLn1,fun l2 n2 => ?_⟩;have s2:=Same.upd (o:=.lst [.str "dry"]) n2;have h2:upd H1 l2 (.lst [.str "dry"]) l2=some (.lst [.str "dry"]):=aB;generalize upd H1 l2 (.lst [.str "dry"])=H2 at s2 h2 ⊢;have s02:=s1.trans s2;refine ⟨l,l2,_,rfl,rfl,SqL.of (s2 _ _ hl),SqL.of h2,fun v hv=>by rw [AE.mp hv]; exact .inl rfl,_,rfl,iteF ?_⟩;have ha2:=s02 _ _ ha;have hx2:=s02 _ _ hdx;have sz:=SqT.of (K:=K) (s02 _ _ hz);refine ⟨_,rfl,a,c0,cP,f0,dx,_,.int (n:Nat),rfl,ha2,hx2,e1,rfl,_,true,rfl,.int,_,rfl,iteF ⟨_,rfl,a,c0,cP,f0,dx,_,.int (n:Nat),rfl,ha2,hx2,e1,rfl,_,rfl,rfl,_,rfl,ite2 (fun hc=>by simp at hc) (fun _ => ?_)⟩⟩;refine ⟨z,_,_,rfl,sz,rfl,rfl,_,rfl,iteF ?_⟩;refine ⟨_,rfl,a,c0,cP,f0,dx,_,.int (i:Nat),rfl,ha2,hx2,e2,rfl,_,true,rfl,.int,_,rfl,iteF ⟨_,rfl,a,c0,cP,f0,dx,_,.int (i:Nat),rfl,ha2,hx2,e2,rfl,z,_,_,rfl,sz,rfl,rfl,_,rfl,ite2 (fun hc=>by simp at hc) (fun _ => ?_)⟩⟩;exact ⟨z,_,_,rfl,sz,rfl,rfl,_,rfl,iteF ⟨z,_,_,rfl,sz,rfl,rfl,_,rfl,iteT (k _ s02)⟩⟩
  | low i=>exact er.elim
  | wet i=>exact er.elim
  | spilt i M N rb =>
   obtain ⟨dx,ea,te,be,ha,hdx,hea,fre⟩:=er;obtain ⟨oa,to,bo,hz,hoa,fro⟩:=rf;have ck:=(R.r3.e "place" (by simp)).i.k;have e1:=R.r3.e "place" (by simp);have e2:=R.r3.e "phial" (by simp);refine ⟨_,rfl,a,c3,some dx,.type "ValueError",.ty "ValueError",true,rfl,ha,ck,rfl,R.r3.v,_,rfl,iteF ?_⟩;refine ⟨_,rfl,a,some dx,.spilt i M N rb,rfl,trivial,ha,fun l H1 s1 hl => ?_⟩;refine ⟨z,_,_,rfl,SqT.of (s1 _ _ hz),rfl,zLn1,fun l2 n2 => ?_⟩;have s2:=Same.upd (o:=.lst [.str "spilt"]) n2;have h2:upd H1 l2 (.lst [.str "spilt"]) l2=some (.lst [.str "spilt"]):=aB;generalize upd H1 l2 (.lst [.str "spilt"])=H2 at s2 h2 ⊢;have s02:=s1.trans s2;refine ⟨l,l2,_,rfl,rfl,SqL.of (s2 _ _ hl),SqL.of h2,fun v hv=>by rw [AE.mp hv]; exact .inl rfl,_,rfl,iteF ?_⟩;have ha2:=s02 _ _ ha;have hx2:=s02 _ _ hdx;have sz:=SqT.of (K:=K) (s02 _ _ hz);refine ⟨_,rfl,a,c3,cP,f3,dx,_,.int (n:Nat),rfl,ha2,hx2,e1,rfl,_,true,rfl,.int,_,rfl,iteF ⟨_,rfl,a,c3,cP,f3,dx,_,.int (n:Nat),rfl,ha2,hx2,e1,rfl,_,rfl,rfl,_,rfl,ite2 (fun hc=>by simp at hc) (fun _ => ?_)⟩⟩;refine ⟨z,_,_,rfl,sz,rfl,rfl,_,rfl,iteF ?_⟩;refine ⟨_,rfl,a,c3,cP,f3,dx,_,.int (i:Nat),rfl,ha2,hx2,e2,rfl,_,true,rfl,.int,_,rfl,iteF ⟨_,rfl,a,c3,cP,f3,dx,_,.int (i:Nat),rfl,ha2,hx2,e2,rfl,z,_,_,rfl,sz,rfl,rfl,_,rfl,ite2 (fun hc=>by simp at hc) (fun _ => ?_)⟩⟩;refine ⟨z,_,_,rfl,sz,rfl,rfl,_,rfl,iteT ⟨_,rfl,a,c3,cP,f3,dx,_,.ref ea,rfl,ha2,hx2,R.r3.e "over" (by simp),rfl,z,_,_,rfl,sz,rfl,ea,oa,[te,be],[to,bo],rfl,rfl,SqT.of (s02 _ _ hea),SqT.of (s02 _ _ hoa),?_⟩⟩;obtain ⟨u1,u2⟩:=fre.uniq fg fro;rw [u1,u2,decide_eq_true rfl];exact k _ s02
  | touch i pa =>
   obtain ⟨dx,ha,hdx⟩:=er;have hz:H z=some (.tup [.str "touch",.int ((i:Nat):Int),.ref pa]):=rf;obtain ⟨x,y,hpa⟩:=fg;have ck:=(R.r4.e "place" (by simp)).i.k;have e1:=R.r4.e "place" (by simp);have e2:=R.r4.e "phial" (by simp);refine ⟨_,rfl,a,c4,some dx,.type "ValueError",.ty "ValueError",true,rfl,ha,ck,rfl,R.r4.v,_,rfl,iteF ?_⟩;refine ⟨_,rfl,a,some dx,.touch i pa,rfl,trivial,ha,fun l H1 s1 hl => ?_⟩;refine ⟨z,_,_,rfl,SqT.of (s1 _ _ hz),rfl,zLn1,fun l2 n2 => ?_⟩;have s2:=Same.upd (o:=.lst [.str "touch"]) n2;have h2:upd H1 l2 (.lst [.str "touch"]) l2=some (.lst [.str "touch"]):=aB;generalize upd H1 l2 (.lst [.str "touch"])=H2 at s2 h2 ⊢;have s02:=s1.trans s2;refine ⟨l,l2,_,rfl,rfl,SqL.of (s2 _ _ hl),SqL.of h2,fun v hv=>by rw [AE.mp hv]; exact .inl rfl,_,rfl,iteF ?_⟩;have ha2:=s02 _ _ ha;have hx2:=s02 _ _ hdx;have sz:=SqT.of (K:=K) (s02 _ _ hz);refine ⟨_,rfl,a,c4,cP,f4,dx,_,.int (n:Nat),rfl,ha2,hx2,e1,rfl,_,true,rfl,.int,_,rfl,iteF ⟨_,rfl,a,c4,cP,f4,dx,_,.int (n:Nat),rfl,ha2,hx2,e1,rfl,_,rfl,rfl,_,rfl,ite2 (fun hc=>by simp at hc) (fun _ => ?_)⟩⟩;refine ⟨z,_,_,rfl,sz,rfl,rfl,_,rfl,iteF ?_⟩;refine ⟨_,rfl,a,c4,cP,f4,dx,_,.int (i:Nat),rfl,ha2,hx2,e2,rfl,_,true,rfl,.int,_,rfl,iteF ⟨_,rfl,a,c4,cP,f4,dx,_,.int (i:Nat),rfl,ha2,hx2,e2,rfl,z,_,_,rfl,sz,rfl,rfl,_,rfl,ite2 (fun hc=>by simp at hc) (fun _ => ?_)⟩⟩;refine ⟨z,_,_,rfl,sz,rfl,rfl,_,rfl,iteF ⟨z,_,_,rfl,sz,rfl,rfl,_,rfl,iteF ⟨_,rfl,a,c4,cP,f4,dx,_,.ref pa,rfl,ha2,hx2,R.r4.e "pair" (by simp),rfl,z,_,_,rfl,sz,rfl,pa,pa,_,_,[.s x,.s y],rfl,rfl,SqT.of (s02 _ _ hpa),SqT.of (s02 _ _ hpa),.cons .s (.cons .s .nil),.cons .s (.cons .s .nil),k _ s02⟩⟩⟩
end
def uD (K:Aa):Sp:=fun vs H Q _=>∃ (a:Addr) (ns:List Int),vs=[.ref a]/\SqL K H a (ns.map V.int)/\ns.length<=63/\∀ H',Q (.bl true) H'
theorem StV.copy {l l':Addr}{M:Int}(h:StV H l M S)(hl:H l=some (.lst vs))(s:Same H H')(hl':H' l'=some (.lst vs)):StV H' l' M S:=by
 obtain ⟨vs',h1,h2,h3⟩:=h;rw [hl] at h1;cases h1;exact ⟨vs,hl',h2,fun i v d hv hd=>(h3 i v d hv hd).keep s⟩
theorem ErB.ck {K:Aa}{mg:Str->Option Value}{cP c0 c1 c2 c3 c4 c5 f0 f3 f4:Addr}(R:ErB K mg cP c0 c1 c2 c3 c4 c5 f0 f3 f4)(f:Fat):PySem.W.subIn K (.ref (fcl c0 c1 c2 c3 c4 f)) (.ref cP)=some true/\∃ g,ExI K (fcl c0 c1 c2 c3 c4 f) cP g:=by
 cases f with
 | dry i=>exact ⟨R.r0.s,_,(R.r0.e "place" (by simp)).i⟩
 | low i=>exact ⟨R.r0.s,_,(R.r0.e "place" (by simp)).i⟩
 | wet i=>exact ⟨R.r0.s,_,(R.r0.e "place" (by simp)).i⟩
 | spilt i M N rb=>exact ⟨R.r3.s,_,(R.r3.e "place" (by simp)).i⟩
 | touch i pa=>exact ⟨R.r4.s,_,(R.r4.e "place" (by simp)).i⟩
def spPw (K:Aa):Sp:=fun vs H Q _=>∃ sc,∃ (ns:List Int) (nb k:Nat),vs=[.int (nb:Nat),.ref sc,.int (k:Nat)]/\SqL K H sc (ns.map V.int)/\2<=nb/\nb<=16/\k < ns.length/\k<=900/\∀ z rw H',Same H H'->RwV H' z rw->(∀ ws,GoodR nb ws rw)->rwb rw<=10000->knd rw=true->Q (.ref z) H'
theorem qN {d b:Int}(d0:0<=d)(db:d < b)(b1:1<=b)(bB:b<=10000):RwA ((1+d) / G (1+d) b) (b / G (1+d) b)/\1<=(1+d) / G (1+d) b/\(1+d) / G (1+d) b<=b / G (1+d) b/\b / G (1+d) b<=10000:=by
 have g:=nU (a:=1+d) (b:=b) (by omega);have rm:=jT (t:=1+d) (b:=b) (by omega) b1 (dE 100 (c:=10001) (by omega) (by omega)) (dE 100 (c:=10001) (by omega) (by omega));exact ⟨⟨⟨by have:=rm.1; omega,rm.2,rm.3⟩,rm.4.mono (by decide),rm.5.mono (by decide)⟩,rm.1,Int.ediv_le_ediv g (by omega),Ej (BD _ (by omega)) bB⟩
theorem uU {nb:Nat}{p o t b:Int}(hz:H z=some (.tup [.str "pour",.int p,.int o,.ref q]))(hq:H q=some (.tup [.int t,.int b]))(p0:0<=p)(pn:p < (nb:Int))(o0:0<=o)(ol:o < (nb:Int))(po:p ≠ o)(ra:RwA t b)(t1:1<=t)(tb:t<=b)(bB:b<=10000) : ∃ rw,RwV H z rw/\(∀ ws,GoodR nb ws rw)/\rwb rw<=10000/\knd rw=true:=by
 obtain ⟨i,rfl⟩:=AN p0;obtain ⟨j,rfl⟩:=AN o0;exact ⟨.pour i j t b,⟨q,hz,hq⟩,fun ws=>⟨by omega,by omega,fun e=>po (by rw [e]),ra,t1,tb⟩,bB,rfl⟩
theorem e4:(10:Int) ^ Int.toNat 4=10000:=by decide +kernel
theorem catV {K:Aa}{H:Hp}{a:Addr}{xs:List V}{Q:VK}(ha:H a=some (.tup xs))(ne:xs ≠ [])(hz:xs.length<=100)(h : ∀ p,H p=none->Q (.ref p) (upd H p (.tup (xs ++ xs)))):uO K (.ref a) (.ref a) H Q :=
 .inr ⟨a,a,_,_,rfl,rfl,SqT.of ha,SqT.of ha,ne,bL (by omega),fun z=>absurd z ne,fun _ p np=>h p np⟩
section
variable {P:Ax}{w:World}{K:Aa}{mg:Str->Option Value}{base:Heap}{cP c0 c1 c2 c3 c4 c5 f0 f3 f4:Addr}
abbrev Npw:List Str:=["_law_many","_law_script","_law_k","_law_left","_law_one","_law_other","_law_bottom","_law_number"]
theorem scPw:FnScope Npw ["_law_many","_law_script","_law_k"] (aH sPourW):=fnScOk (by decide +kernel)
theorem aG0 (F:Fun K "_law_pour" "_law_pour" sPourW f fd)(T:Txt mg)(cC:Cal P w K mg base CX0 2 "_law_cell_at" ["_law_script","_law_k"] (iK K))(cM:Cal P w K mg base CX0 2 "_law_mixed" ["_law_cell","_law_k"] fD)(cDi:Cal P w K mg base CX0 2 "_law_digit" ["_law_left","_law_many"] gD)(cL:Cal P w K mg base CX0 2 "_law_lowest" ["_law_top","_law_bottom"] dS):FnOk P w K mg base CX0 3 f fd ["_law_many","_law_script","_law_k"] (spPw K):=by
 refine F.ok scPw (fun vs H Q E h => ?_) (fun cdv A outer s H vs Q E hr h => ?_)
 ·obtain ⟨_,_,_,_,rfl,_⟩:=h
  rfl
 ·obtain ⟨sc,ns,nb,kk,rfl,hS,n2,n16,kl,k9,k⟩:=h
  refine ⟨_,(aC (bA (aQ cJ (aK bD (aJ cC hr rfl aT (aA (pv 1) (aA aG aD))) aG) aG (aU _)) (aC (aL (i:=3) scPw.nd rfl (Or.inl rfl) (dD (aA (aR gB rfl T.abs' nK (aA (bU bG (pv 1) (pv 2) (fun _ _=>rfl)) aD)) aD)))
   (aC (aL (i:=4) scPw.nd rfl (Or.inl rfl) (aJ cDi hr rfl aT (aA (pv 3) (aA (pv 0) aD))))
   (aC (aL (i:=5) scPw.nd rfl (Or.inl rfl) (aK bD (aK bC (aK bC (pv 4) aG) (aJ cDi hr rfl aT (aA (pv 3) (aA (aK jQ (pv 0) aG) aD)))) (pv 0)))
   (aC (aL (i:=6) scPw.nd rfl (Or.inl rfl) (aK bC aG (aJ cDi hr rfl aT (aA (pv 3) (aA (aK iV aG aG) aD)))))
   (aE (aM (aW (aA aS (aA (pv 4) (aA (pv 5) (aA (aJ cL hr rfl aT (aA (aK bC aG (aJ cDi hr rfl aT (aA (pv 3) (aA (pv 6) aD)))) (aA (pv 6) aD))) aD))))))))))) aP)
   (aC (aL (i:=7) scPw.nd rfl (Or.inl rfl) (aJ cM hr rfl aT (aA (bU bG (pv 1) (pv 2) (fun _ _=>rfl)) (aA (pv 2) aD))))
   (aC (aL (i:=4) scPw.nd rfl (Or.inl rfl) (aK bD (aK aY (pv 7) aG) (pv 0)))
   (aC (aL (i:=5) scPw.nd rfl (Or.inl rfl) (aK bD (aK bC (aK bC (pv 4) aG) (aK bD (aK aY (pv 7) aG) (aK jQ (pv 0) aG))) (pv 0)))
   (aC (aL (i:=6) scPw.nd rfl (Or.inl rfl) (aK bC aG (aK bD (aK aY (pv 7) aG) aG)))
   (aC (bA (aQ cJ (aK bD (pv 7) aG) aG (aU _)) (aE (aL (i:=6) scPw.nd rfl (Or.inl rfl) aG)) aP)
   (aC (bA (aQ cJ (aK bD (pv 7) aG) aG (aU _)) (aE (aL (i:=6) scPw.nd rfl (Or.inl rfl) aG)) aP)
   (aE (aM (aW (aA aS (aA (pv 4) (aA (pv 5) (aA (aJ cL hr rfl aT (aA (aK bC aG (aK bD (aK bI (aK aY (pv 7) aG) aG) (pv 6))) (aA (pv 6) aD))) aD)))))))))))))),?_⟩
  refine cut8 ?_
  intros
  obtain ⟨c,hc⟩ : ∃ c,ns[kk]?=some c:=⟨_,Ae kl⟩;have hcat:atI (ns.map V.int) (kk:Int)=some (.int c):=bK (by rw [As,hc]; rfl);have nbp:(0:Int) < ((nb:Nat):Int):=by omega
  have m1:(0:Int) < ((nb:Nat):Int) - 1:=by omega
  refine ⟨_,rfl,sc,ns,0,rfl,hS,by decide,fun c0=>⟨_,_,rfl,rfl,(by show (0:Int) < 2; decide),rfl,_,rfl,ite2 (fun _ => ?_) (fun _ => ?_)⟩⟩
  ·refine ⟨_,rfl,_,rfl,sc,_,(kk:Int),.int c,rfl,rfl,hS,hcat,c,rfl,zLn1,fun l nl => ?_⟩
   have c0':=abs_nonneg c;generalize (if c < 0 then -c else c)=n at *
   have sl:=Same.upd (o:=.lst [.int n]) nl;have lf1:Lf (upd H l (.lst [.int n])) l:=⟨n,aB,c0'⟩;generalize upd H l (.lst [.int n])=H1 at sl lf1 ⊢;refine ⟨_,rfl,_,rfl,l,_,rfl,lf1,by omega,b9 (by omega) (by omega),fun p H2 p0 pl sb2 lf2 => ?_⟩;refine ⟨_,rfl,_,_,rfl,rfl,_,rfl,_,rfl,_,_,rfl,rfl,l,_,rfl,lf2,by omega,b9 (by omega) (by omega),fun d H3 d0 dl sb3 lf3 => ?_⟩;obtain ⟨o0,ol,po⟩:=iA p0 pl d0 dl;refine ⟨_,_,rfl,rfl,_,rfl,_,_,rfl,rfl,nbp,?_⟩;refine ⟨_,rfl,_,_,rfl,rfl,⟨by decide,by decide,bk⟩,l,_,rfl,lf3,(by show (1:Int)<=10 ^ Int.toNat 4; rw [e4]; decide),(by show Bt 9000 (10 ^ Int.toNat 4); rw [e4]; exact b9),fun e H4 e0 el' sb4 lf4=>⟨_,_,rfl,rfl,?_⟩⟩;have el:e < 10000:=by
    have:e < (10:Int) ^ Int.toNat 4:=el';rwa [e4] at this
   refine ⟨_,rfl,_,rfl,_,rfl,_,rfl,l,_,rfl,lf4,by omega,b9 (by omega) (by omega),fun e2 H5 e20 e2l sb5 lf5=>⟨_,_,rfl,rfl,_,rfl,1+e2,1+e,rfl,by omega,by omega,b9 (by omega) (by omega),fun q H6 s6 nq hq=>⟨zLn4,fun z nz => ?_⟩⟩⟩;obtain ⟨ra,t1,tb,bB⟩:=qN e20 e2l (by omega) (by omega);obtain ⟨rw',rv,gd,l1,kd⟩:=uU (aB (H:=H6) (a:=z) (o:=.tup [.str "pour",.int p,.int ((p+1+d) % ((nb:Nat):Int)),.ref q])) (Same.upd nz _ _ hq) p0 pl o0 ol po ra t1 tb bB;exact k z rw' _ ((eW sl (((sb2.trans sb3).trans sb4).trans sb5) nl).trans (s6.trans (Same.upd nz))) rv gd l1 kd
  ·refine ⟨_,rfl,_,rfl,sc,_,(kk:Int),.int c,rfl,rfl,hS,hcat,_,rfl,c,(kk:Int),rfl,by omega,by omega,fun n n0 nl => ?_⟩
   obtain ⟨p0,pl⟩:=bJ (n / 16) nbp;obtain ⟨d0,dl⟩:=bJ (n / 256) m1;obtain ⟨o0,ol,po⟩:=iA p0 pl d0 dl;obtain ⟨e0,el⟩:=bJ (n / 4096) (m:=12) (by decide);refine ⟨_,rfl,_,_,rfl,rfl,⟨by decide,b9⟩,_,rfl,_,_,rfl,rfl,nbp,?_⟩;refine ⟨_,rfl,_,_,rfl,rfl,_,rfl,_,_,rfl,rfl,⟨by decide,b9⟩,_,rfl,_,_,rfl,rfl,_,_,rfl,rfl,m1,_,_,rfl,rfl,_,rfl,_,_,rfl,rfl,nbp,?_⟩;refine ⟨_,rfl,_,_,rfl,rfl,⟨by decide,b9⟩,_,_,rfl,rfl,(by show (0:Int) < 12; decide),_,_,rfl,rfl,?_⟩;dsimp only [gName];refine qB (fun σ' H'=>∃ bo:Int,σ'=[some (.int ((nb:Nat):Int)),some (.ref sc),some (.int ((kk:Nat):Int)),none,some (.int (n / 16 % ((nb:Nat):Int))),some (.int ((n / 16 % ((nb:Nat):Int)+1+n / 256 % (((nb:Nat):Int) - 1)) % ((nb:Nat):Int))),some (.int bo),some (.int n)]/\H'=H/\1<=bo/\bo<=10000) ?_ (fun N hN => ?_)
   rotate_left
   ·exact ⟨_,rfl,_,_,rfl,rfl,(by show (0:Int) < 3; decide),rfl,_,rfl,ite2 (fun _=>hN _ _ ⟨1,rfl,rfl,by decide,by decide⟩) (fun _=>hN _ _ ⟨_,rfl,rfl,by omega,by omega⟩)⟩
   intro σ' H' hh;obtain ⟨bo,rfl,rfl,b1,b2⟩:=hh;refine qB (fun σ' H''=>∃ bo:Int,σ'=[some (.int ((nb:Nat):Int)),some (.ref sc),some (.int ((kk:Nat):Int)),none,some (.int (n / 16 % ((nb:Nat):Int))),some (.int ((n / 16 % ((nb:Nat):Int)+1+n / 256 % (((nb:Nat):Int) - 1)) % ((nb:Nat):Int))),some (.int bo),some (.int n)]/\H''=H'/\1<=bo/\bo<=10000) ?_ (fun N hN => ?_)
   rotate_left
   ·exact ⟨_,rfl,_,_,rfl,rfl,(by show (0:Int) < 7; decide),rfl,_,rfl,ite2 (fun _=>hN _ _ ⟨9973,rfl,rfl,by decide,by decide⟩) (fun _=>hN _ _ ⟨bo,rfl,rfl,b1,b2⟩)⟩
   intro σ' H'' hh;obtain ⟨bo,rfl,rfl,b1,b2⟩:=hh;obtain ⟨g0,gl⟩:=bJ (n / 65536*16807) (m:=bo) (by omega);have q0:0<=n / 65536:=DM n0 (by decide);have ql:n / 65536 < 2147483647:=Fn (BD _ n0) nl;have bq:Bt 64 (n / 65536):=dE 64 q0 (Int.lt_trans ql (by decide:(2147483647:Int) < 2147483648));refine ⟨_,rfl,_,rfl,_,rfl,_,_,rfl,rfl,⟨by decide,b9⟩,_,_,rfl,rfl,⟨b6 bq,bl⟩,_,rfl,_,_,rfl,rfl,by omega,_,_,rfl,rfl,_,rfl,_,_,rfl,by omega,by omega,b9 (by omega) (by omega),fun q H6 s6 nq hq=>⟨zLn4,fun z nz => ?_⟩⟩;obtain ⟨ra,t1,tb,bB⟩:=qN g0 gl b1 b2;obtain ⟨rw',rv,gd,l1,kd⟩:=uU (aB (H:=H6) (a:=z) (o:=.tup [.str "pour",.int (n / 16 % ((nb:Nat):Int)),.int ((n / 16 % ((nb:Nat):Int)+1+n / 256 % (((nb:Nat):Int) - 1)) % ((nb:Nat):Int)),.ref q])) (Same.upd nz _ _ hq) p0 pl o0 ol po ra t1 tb bB;exact k z rw' _ (s6.trans (Same.upd nz)) rv gd l1 kd
abbrev Nlaw:List Str:=["_law_script","_law_wares_here","_law_bench_here","_law_state","_law_k","_law_row_here","_law_refusal","_law_due","_law_handed","_law_error","_law_found","e"]
theorem fG:FnScope Nlaw ["_law_script"] (aH sLaw):=fnScOk (by decide +kernel)
theorem aFb {f:Addr}{fd:Bf}(F:Fun K "law" "law" sLaw f fd)(T:Txt mg)(R:ErB K mg cP c0 c1 c2 c3 c4 c5 f0 f3 f4)
  (cA:Cal P w K mg base CX0 9 "_law_after" ["_law_bench_here","_law_state","_law_row_here"] (kX K)) (cDn:Cal P w K mg base (CXg P w) 9 "done" ["bench","phials","row"] (uG K c0 c1 c2 c3 c4)) (cRf:Cal P w K mg base CX0 9 "_law_refused" ["_law_error","_law_due","_law_place"] (iI c0 c1 c2 c3 c4)) (cPh:Cal P w K mg base CX0 9 "_law_phials" ["_law_script","_law_bench_here","_law_wares_here","_law_start","_law_last"] (kM K)) (cC:Cal P w K mg base CX0 9 "_law_cell_at" ["_law_script","_law_k"] (iK K)) (cWs:Cal P w K mg base CX0 9 "_law_wares" ["_law_cell"] oE) (cB:Cal P w K mg base CX0 9 "_law_bench" ["_law_script","_law_wares_here"] (gE K)) (cPw:Cal P w K mg base CX0 9 "_law_pour" ["_law_many","_law_script","_law_k"] (spPw K)):FnOk P w K mg base CX0 10 f fd ["_law_script"] (uD K):=by
 refine F.ok fG (fun vs H Q E h => ?_) (fun cdv A outer s H vs Q E hr h => ?_)
 ·obtain ⟨_,_,rfl,_⟩:=h
  rfl
 ·obtain ⟨sc,ns,rfl,hS,hlen,k⟩:=h
  refine ⟨_,(aC (aL (i:=1) fG.nd rfl (Or.inl rfl) (aJ cWs hr rfl aT (aA (aJ cC hr rfl aT (aA (pv 0) (aA aG aD))) aD)))
   (aC (aL (i:=2) fG.nd rfl (Or.inl rfl) (aJ cB hr rfl aT (aA (pv 0) (aA (pv 1) aD))))
   (aC (bA (aQ cJ (aR aZ rfl T.len Bz (aA (pit 2 0) aD)) aG (aU _)) (aE (aL (i:=2) fG.nd rfl (Or.inl rfl) (aW (aA (aK qQ (pit 2 0) (pit 2 0)) (aA (pit 2 1) aD))))) aP)
   (aC (aL (i:=3) fG.nd rfl (Or.inl rfl) (aJ cPh hr rfl aT (aA (pv 0) (aA (pv 2) (aA (pv 1) (aA aG (aA aG aD)))))))
   (aC (dI AU rfl (fR rfl T.range (aA aG (aA (aR (nG rfl) rfl T.min' boot_min (aA (aR aZ rfl T.len Bz (aA (pv 0) aD)) (aA aG aD))) aD))) (aV (i:=4) fG.nd rfl (Or.inl rfl)) (aC (aL (i:=5) fG.nd rfl (Or.inl rfl) (aJ cPw hr rfl aT (aA (aR aZ rfl T.len Bz (aA (pit 2 0) aD)) (aA (pv 0) (aA (pv 4) aD)))))
   (aC (gQ (aJ cA hr rfl aT (aA (pv 2) (aA (pv 3) (aA (pv 5) aD)))) (fS rfl (bR (aV (i:=6) fG.nd rfl (Or.inl rfl)) (bR (aV (i:=7) fG.nd rfl (Or.inl rfl)) eO))))
   (aC (aL (i:=8) fG.nd rfl (Or.inl rfl) (aX bV rfl T.list' eG (aA (pv 3) aD)))
   (aC (aL (i:=9) fG.nd rfl (Or.inl rfl) dP)
   (aC (aL (i:=10) fG.nd rfl (Or.inl rfl) dP)
   (aC (aCm (i:=11) (j:=9) ⟨rfl,rfl,rfl⟩ rfl R.mP R.ct fG.nd rfl rfl rfl rfl (by decide) (fun pins E' σ Ec hp=>aE (aL (i:=10) fG.nd rfl (Or.inl rfl) (aCv cDn hr rfl hp (aA (pv 2) (aA (pv 8) (aA (pv 5) aD)))))))
   (aC (bA (aQ (vK hr.units) (pv 8) (pv 3) (aU _)) (aE (aM eZ)) aP)
   (aE (bA (aQ oQ (pv 6) dP (aU _)) (aE (bA (eA (bY (aJ cRf hr rfl aT (aA (pv 9) (aA (pv 6) (aA aG aD)))))) (aE (aM eZ)) aP)) (aC (bA (PW.pt (hJ (aQ oQ (pv 9) dP (aU _)) (hJ (eA (bY (aR dY rfl T.isi Bu (aA (pv 10) (aA (eE (v:=.ty "list") rfl T.list' eG rfl) aD))))) (fB (aQ (vK hr.units) (pv 10) (pv 7) (aU _)))))) (aE (aM eZ)) aP)
   (aE (aL (i:=3) fG.nd rfl (Or.inl rfl) (pv 7))))))))))))))
   (aE (aM eZ))))))),?_⟩
  refine cut6 ?_
  intros
  refine ⟨_,rfl,sc,ns,0,rfl,hS,by decide,fun c00=>⟨c00,rfl,fun ws wl H1 wlen wnd wwr s1 nwl hwl => ?_⟩⟩;refine ⟨_,rfl,_,rfl,sc,ns,wl,ws,rfl,s1.seq hS,SqL.of hwl,⟨wlen,wnd,wwr⟩,fun b0 r0 q0 rs0 us ps HB sB bnB => ?_⟩;dsimp only [gName];refine qB (fun σ' H'=>∃ (b r q:Addr) (rs:List V),σ'=[some (.ref sc),some (.ref wl),some (.ref b),none,none,none,none,none,none,none,none,none]/\Same H1 H'/\Bn H' b r q rs us ps/\2<=rs.length) ?_ (fun N hN2 => ?_)
  rotate_left
  ·refine ⟨b0,_,_,rfl,SqT.of bnB.hp,rfl,r0,_,rfl,.inr (SqT.of bnB.hr),rfl,_,rfl,ite2 (fun hc => ?_) (fun hc => ?_)⟩
   ·have l1:rs0.length=1:=by
     have:=of_decide_eq_true hc;injection this with this;omega
    refine ⟨b0,_,_,rfl,SqT.of bnB.hp,rfl,b0,_,_,rfl,SqT.of bnB.hp,rfl,catV bnB.hr (fun e=>by rw [e] at l1; cases l1) (by omega) fun r' nr' => ?_⟩;have t1:=Same.upd (o:=.tup (rs0 ++ rs0)) nr';refine ⟨b0,_,_,rfl,SqT.of (t1 _ _ bnB.hp),rfl,zLn2,fun b' nb' => ?_⟩;have t2:=Same.upd (o:=.tup [.ref r',.ref q0]) nb';have t:=t1.trans t2;have bt:=bnB.keep t;refine hN2 _ _ ⟨b',r',q0,rs0 ++ rs0,rfl,sB.trans t,⟨aB,t2 _ _ aB,fun v hv=>bt.rm v ((Bi.mp hv).elim id id),by rw [AB]; omega,by rw [AB]; omega,bt.hq,bt.pt,bt.g⟩,by rw [AB]; omega⟩
   ·have l1:rs0.length ≠ 1:=fun e=>hc (decide_eq_true (by rw [e]; rfl))
    exact hN2 _ _ ⟨b0,r0,q0,rs0,rfl,sB,bnB,by have:=bnB.l1; omega⟩
  intro σ' H2 hh;obtain ⟨b,r,q,rs,rfl,s2,bn2,rs2⟩:=hh;obtain ⟨rbs,rml⟩:=bn2.rm.list;have bs2:BS H2 b r q rs us ps rbs ws:=⟨bn2,rml,⟨wnd,by omega,wwr⟩⟩;have s02:=s1.trans s2;have wv2:WsV H2 wl ws:=⟨s2 _ _ hwl,wlen,wwr⟩;refine ⟨_,rfl,_,rfl,_,rfl,sc,b,wl,r,q,rs,us,ps,rbs,ws,ns,3,19,rfl,s02.seq hS,hlen,bs2,wv2,by decide,by decide,fun l0 M0 S0 β0 H3 s3 nl0 st0 so0 bl0 => ?_⟩;have s03:=s02.trans s3;have n16:=bn2.l16;refine ⟨_,rfl,sc,_,rfl,.inl (s03.seq hS),_,_,rfl,19,_,rfl,⟨by decide,by decide,by split <;> omega,by split <;> omega⟩,?_⟩;refine jV (fun i σ H'=>∃ (l:Addr) (M:Int) (S:List PF) (β:Nat) (v4 v5 v6 v7 v8 v9 v10 v11:Option V),σ=[some (.ref sc),some (.ref wl),some (.ref b),some (.ref l),v4,v5,v6,v7,v8,v9,v10,v11]/\Same H3 H'/\StV H' l M S/\Sok ws rbs M S β/\β<=14*(16+i)+1) ⟨l0,M0,S0,β0,none,none,none,none,none,none,none,none,rfl,Same.refl _,st0,so0,by omega⟩ ?_ ?_
  rotate_left
  ·intro σ H4 hh
   exact k _
  intro i σ H4 D' hN hi hh;obtain ⟨l,M,S,β,v4,v5,v6,v7,v8,v9,v10,v11,rfl,s4,st4,so4,bl⟩:=hh;have ki:19+i < ns.length/\19+i < 51:=by
   have h2:i < ((if (51:Int) < (((ns.map V.int).length:Nat):Int) then 51 else (((ns.map V.int).length:Nat):Int)) - 19).toNat:=hi;rw [Ag] at h2;split at h2 <;> omega
  have ek:(19:Int)+(i:Int)=((19+i:Nat):Int):=by omega
  rw [ek];refine cut8 ?_
  intros
  have s04:=s03.trans s4;have bn4:=bn2.keep (s3.trans s4);refine ⟨b,_,_,rfl,SqT.of bn4.hp,rfl,r,_,rfl,.inr (SqT.of bn4.hr),_,rfl,_,rfl,sc,ns,rs.length,19+i,rfl,s04.seq hS,rs2,n16,ki.1,by omega,fun z rw' H5 s5 rv gdA l1 kd => ?_⟩;have gd:=gdA ws;have s35:=s4.trans s5;have o5:OnIn H5 b r q l rs us ps rbs ws M S β:=⟨bs2.keep (s3.trans s35),st4.keep s5,so4,by omega⟩;have bs5:=o5.bs;obtain ⟨o,ro⟩:=aA1 (H:=H5) (us:=us) (ps:=ps) (rbs:=rbs) (ws:=ws) (M:=M) (S:=S) bs5.bn.pt (by rw [so4.sl,<- bs5.rm.1]) (by have:=bs5.rm.1; omega) gd;have rp1 : ∀ (i:Nat) rb,rbs[i]?=some rb->0 < rb.2:=fun i rb h=>by have:=(bs5.rm.at h).b1; omega
  have rp : ∀ (i:Nat) rb,rbs[i]?=some rb->0<=rb.2:=fun i rb h=>Int.le_of_lt (rp1 i rb h);refine ⟨_,rfl,_,rfl,_,rfl,b,r,q,l,z,rs,us,ps,rbs,ws,M,S,β,rw',rfl,o5,rv,gd,ro.l ?_⟩;cases o with
  | inl ft =>
   intro zz t3 H6 s6 hz rf6;have fg:=ro.ftg bs5.bn.pt so4.m0 rp1 gd;refine ⟨zz,_,rfl,SqT.of hz,rfl,_,_,rfl,_,_,rfl,rfl,?_⟩;obtain ⟨vs,hl6,vl6,_⟩:=(o5.st.keep s6).ex;refine ⟨_,rfl,l,_,rfl,.inl (SqL.of hl6),fun ha nha => ?_⟩;have s7:=Same.upd (o:=.lst vs) nha;have hha:upd H6 ha (.lst vs) ha=some (.lst vs):=aB;generalize upd H6 ha (.lst vs)=H7 at s7 hha ⊢;have s57:=s6.trans s7;have o7:OnIn H7 b r q ha rs us ps rbs ws M S β:=⟨o5.bs.keep s57,(o5.st.keep s6).copy hl6 s7 hha,o5.so,o5.b24⟩;have st7:=o5.st.keep s57;obtain ⟨sub,g,ck⟩:=R.ck ft;refine ⟨rfl,_,rfl,_,rfl,_,rfl,b,r,q,ha,z,rs,us,ps,rbs,ws,M,S,β,rw',rfl,o7,rv.keep s57,gd,ro.p kd (aDv fun dx H8 s8 er=>⟨fcl c0 c1 c2 c3 c4 ft,rfl,ck.k,sub,fun e he=>⟨_,rfl,?_⟩⟩)⟩;have er9:=er e he;have s9:=Same.upd (o:=excD e (fcl c0 c1 c2 c3 c4 ft) (some dx)) he;generalize upd H8 e (excD e (fcl c0 c1 c2 c3 c4 ft) (some dx))=H9 at s9 er9 ⊢;have s79:=s8.trans s9;obtain ⟨v1,v2,ds,a1,a2,a3,a4⟩:=StV.same (K:=K) so4.m0 (o7.st.keep s79) (st7.keep s79);refine ⟨_,rfl,ha,l,v1,v2,ds,rfl,rfl,SqL.of a1,SqL.of a2,a3,a4,_,rfl,iteF ?_⟩;exact ⟨_,rfl,rfl,_,rfl,iteT ⟨_,rfl,_,rfl,e,t3,0,ft,rfl,er9,rf6.keep (s7.trans s79),fg.keep (s57.trans s79),fun HA sA=>⟨_,rfl,iteF (hN _ _ ⟨l,M,S,β,_,_,_,_,_,_,_,_,rfl,((s35.trans s57).trans s79).trans sA,(st7.keep s79).keep sA,so4,by omega⟩)⟩⟩⟩
  | inr S' =>
   intro zz ld H6 s6 nld hz st6;have so6:=RowO.sok so4 rp gd (by omega) ro;refine ⟨zz,_,rfl,SqT.of hz,rfl,_,_,rfl,_,_,rfl,rfl,?_⟩;obtain ⟨vs,hl6,vl6,_⟩:=(o5.st.keep s6).ex;refine ⟨_,rfl,l,_,rfl,.inl (SqL.of hl6),fun ha nha => ?_⟩;have s7:=Same.upd (o:=.lst vs) nha;have hha:upd H6 ha (.lst vs) ha=some (.lst vs):=aB;generalize upd H6 ha (.lst vs)=H7 at s7 hha ⊢;have s57:=s6.trans s7;have o7:OnIn H7 b r q ha rs us ps rbs ws M S β:=⟨o5.bs.keep s57,(o5.st.keep s6).copy hl6 s7 hha,o5.so,o5.b24⟩;have st7:=o5.st.keep s57;refine ⟨rfl,_,rfl,_,rfl,_,rfl,b,r,q,ha,z,rs,us,ps,rbs,ws,M,S,β,rw',rfl,o7,rv.keep s57,gd,ro.p kd ?_⟩;intro lf H8 s8 nlf st8;have st68:=(st6.keep s7).keep s8;obtain ⟨v1,v2,ds,a1,a2,a3,a4⟩:=StV.same (K:=K) so4.m0 (o7.st.keep s8) (st7.keep s8);obtain ⟨w1,w2,es,b1,b2,b3,b4⟩:=StV.same (K:=K) so6.m0 st8 st68;refine ⟨_,rfl,_,rfl,ha,l,v1,v2,ds,rfl,rfl,SqL.of a1,SqL.of a2,a3,a4,_,rfl,iteF ?_⟩;refine ⟨_,rfl,rfl,_,rfl,iteF ⟨_,rfl,rfl,_,rfl,iteF ⟨_,rfl,_,"list",true,rfl,.lst_list (SqL.of b1),_,rfl,iteF ⟨_,rfl,_,rfl,lf,ld,w1,w2,es,rfl,rfl,SqL.of b1,SqL.of b2,b3,b4,_,rfl,iteF ?_⟩⟩⟩⟩;exact ⟨_,rfl,hN _ _ ⟨ld,_,S',β+14,_,_,_,_,_,_,_,_,rfl,(s35.trans s57).trans s8,st68,so6,by omega⟩⟩
end
theorem bA1 {p:List Value->Prop}(h : ∀ a0,p [a0]) : ∀ us:List Value,us.length=1->p us:=fun us e=>by
 obtain _ | ⟨a0,us⟩:=us
 ·cases e
 obtain _ | ⟨b,us⟩:=us
 ·exact h a0
 ·simp at e
theorem bA2 {p:List Value->Prop}(h : ∀ a0 a1,p [a0,a1]) : ∀ us:List Value,us.length=2->p us:=fun us e=>by
 obtain _ | ⟨a0,us⟩:=us
 ·cases e
 obtain _ | ⟨a1,us⟩:=us
 ·cases e
 obtain _ | ⟨b,us⟩:=us
 ·exact h a0 a1
 ·simp at e
theorem bA3 {p:List Value->Prop}(h : ∀ a0 a1 a2,p [a0,a1,a2]) : ∀ us:List Value,us.length=3->p us:=fun us e=>by
 obtain _ | ⟨a0,us⟩:=us
 ·cases e
 obtain _ | ⟨a1,us⟩:=us
 ·cases e
 obtain _ | ⟨a2,us⟩:=us
 ·cases e
 obtain _ | ⟨b,us⟩:=us
 ·exact h a0 a1 a2
 ·simp at e
theorem bA4 {p:List Value->Prop}(h : ∀ a0 a1 a2 a3,p [a0,a1,a2,a3]) : ∀ us:List Value,us.length=4->p us:=fun us e=>by
 obtain _ | ⟨a0,us⟩:=us
 ·cases e
 obtain _ | ⟨a1,us⟩:=us
 ·cases e
 obtain _ | ⟨a2,us⟩:=us
 ·cases e
 obtain _ | ⟨a3,us⟩:=us
 ·cases e
 obtain _ | ⟨b,us⟩:=us
 ·exact h a0 a1 a2 a3
 ·simp at e
theorem bA5 {p:List Value->Prop}(h : ∀ a0 a1 a2 a3 a4,p [a0,a1,a2,a3,a4]) : ∀ us:List Value,us.length=5->p us:=fun us e=>by
 obtain _ | ⟨a0,us⟩:=us
 ·cases e
 obtain _ | ⟨a1,us⟩:=us
 ·cases e
 obtain _ | ⟨a2,us⟩:=us
 ·cases e
 obtain _ | ⟨a3,us⟩:=us
 ·cases e
 obtain _ | ⟨a4,us⟩:=us
 ·cases e
 obtain _ | ⟨b,us⟩:=us
 ·exact h a0 a1 a2 a3 a4
 ·simp at e
theorem bA6 {p:List Value->Prop}(h : ∀ a0 a1 a2 a3 a4 a5,p [a0,a1,a2,a3,a4,a5]) : ∀ us:List Value,us.length=6->p us:=fun us e=>by
 obtain _ | ⟨a0,us⟩:=us
 ·cases e
 obtain _ | ⟨a1,us⟩:=us
 ·cases e
 obtain _ | ⟨a2,us⟩:=us
 ·cases e
 obtain _ | ⟨a3,us⟩:=us
 ·cases e
 obtain _ | ⟨a4,us⟩:=us
 ·cases e
 obtain _ | ⟨a5,us⟩:=us
 ·cases e
 obtain _ | ⟨b,us⟩:=us
 ·exact h a0 a1 a2 a3 a4 a5
 ·simp at e
structure Dn (K:Aa)(x:Str)(st:Stmt)(ps:List Str):Prop where
 ex : ∃ (f:Addr) (fd:Bf),Ar K An x=some (some (.ref f))/\Fun K x x st f fd/\Binds K fd ps []
theorem Dn.mk' {K:Aa}{x:Str}{st:Stmt}{ps:List Str}{f:Addr}{oc:Value}{od an:Option Addr}{osl:Array (Option Value)}{kV doc pm cdv ct:Value}(a:Ar K An x=some (some (.ref f)))
  (l:K.lookup f=some ⟨oc,od,.func (Cm x x (dX st) (dN st) (aH st) .none kV doc pm an cdv ct),osl⟩) (c:DR K cdv x=true) (k:Cw K (.ref f)=true)
  (hb : ∀ (kV doc pm:Value) (an:Option Addr) (cdv ct:Value) (us:List Value),us.length=ps.length->bindArgs (Cm x x (dX st) (dN st) (aH st) .none kV doc pm an cdv ct) ⟨us,[]⟩=pure (ps.zip us)):Dn K x st ps :=
 ⟨f,_,a,jD (st:=st) l c k,(jD (st:=st) l c k).binds hb⟩
theorem Dn.cal {P:Ax}{w:World}{K:Aa}{mg:Str->Option Value}{base h:Heap}{CX:CXT}{k:Nat}{x:Str}{st:Stmt}{ps:List Str}{sp:Sp}(D:Dn K x st ps)(X:K.In h)(G:h.Ns An mg)
  (ok : ∀ {f:Addr} {fd:Bf},Fun K x x st f fd->FnOk P w K mg base CX k f fd ps sp):Cal P w K mg base CX k x ps sp:=by
 obtain ⟨f,fd,a,F,b⟩:=D.ex;exact ⟨f,fd,BL X G a,F.kp,b,ok F⟩
structure NouK (K:Aa)(aN:Addr):Prop where
 m:Ar K An "NOUGHT" = some (some (.ref aN))
 s : ∀ H:Hp,SqT K H aN [.int 0,.int 1]
theorem NouK.mk' {K:Aa}{aN:Addr}{od:Option Addr}{t0 t1:Tok}{n:Nat}{sl:Array (Option Value)}(a:Ar K An "NOUGHT" = some (some (.ref aN)))
  (l:K.lookup aN=some ⟨.type "tuple",od,.seq #[.int 0 t0,.int 1 t1] n,sl⟩) : ∃ aN:Addr,NouK K aN :=
 ⟨aN,a,fun _=>.inr ⟨_,_,_,l,rfl,rfl,zLn2,.cons ⟨_,rfl⟩ (.cons ⟨_,rfl⟩ .nil)⟩⟩
structure OneK (K:Aa)(aO:Addr):Prop where
 m:Ar K An "ONE" = some (some (.ref aO))
 s : ∀ H:Hp,SqT K H aO [.int 1,.int 1]
theorem OneK.mk' {K:Aa}{aO:Addr}{od:Option Addr}{t0 t1:Tok}{n:Nat}{sl:Array (Option Value)}(a:Ar K An "ONE" = some (some (.ref aO)))
  (l:K.lookup aO=some ⟨.type "tuple",od,.seq #[.int 1 t0,.int 1 t1] n,sl⟩) : ∃ aO:Addr,OneK K aO :=
 ⟨aO,a,fun _=>.inr ⟨_,_,_,l,rfl,rfl,zLn2,.cons ⟨_,rfl⟩ (.cons ⟨_,rfl⟩ .nil)⟩⟩
theorem mst_mk {K:Aa}{tk:Tok}{x:Str}{n:Int}(h:Ar K An x=some (some (.int n tk))) : ∃ tk:Tok,Ar K An x=some (some (.int n tk)):=⟨_,h⟩
theorem fgs_mk {K:Aa}{tk:Tok}{x y z:Str}(h:Ar K An z=some (some (.str x tk)))(e:x=y) : ∃ tk:Tok,Ar K An z=some (some (.str y tk)):=⟨_,e ▸ h⟩
structure MDn (K:Aa)(C:Addr)(m qual:Str)(st:Stmt)(ps:List Str):Prop where
 ex : ∃ (f:Addr) (fd:Bf),Meth K C m f/\Fun K m qual st f fd/\Binds K fd ps []
theorem MDn.mk' {K:Aa}{C:Addr}{m qual:Str}{st:Stmt}{ps:List Str}{f:Addr}{oc:Value}{od an:Option Addr}{osl:Array (Option Value)}{kV doc pm cdv ct:Value}(a:Bb K (.ref C) m=some (some (.ref f)))(i:PySem.W.isFn K (.ref f)=true)
  (l:K.lookup f=some ⟨oc,od,.func (Cm m qual (dX st) (dN st) (aH st) .none kV doc pm an cdv ct),osl⟩) (c:DR K cdv qual=true) (k:Cw K (.ref f)=true)
  (hb : ∀ (kV doc pm:Value) (an:Option Addr) (cdv ct:Value) (us:List Value),us.length=ps.length->bindArgs (Cm m qual (dX st) (dN st) (aH st) .none kV doc pm an cdv ct) ⟨us,[]⟩=pure (ps.zip us)):MDn K C m qual st ps :=
 ⟨f,_,⟨a,i,k⟩,jD (st:=st) l c k,(jD (st:=st) l c k).binds hb⟩
theorem MDn.cal {P:Ax}{w:World}{K:Aa}{mg:Str->Option Value}{base:Heap}{CX:CXT}{k:Nat}{C:Addr}{m qual:Str}{st:Stmt}{ps:List Str}{sp:Sp}(D:MDn K C m qual st ps)(ok : ∀ {f:Addr} {fd:Bf},Fun K m qual st f fd->FnOk P w K mg base CX k f fd ps sp):MCal P w K mg base CX k C m ps sp:=by
 obtain ⟨f,fd,hm,F,b⟩:=D.ex;exact ⟨f,fd,hm,b,ok F⟩
structure Er1K (K:Aa)(cP c f:Addr)(nm qn:Str)(sE:Stmt)(fs ps:List Str):Prop where
 e : ∀ x ∈ fs,ExF K c cP f x
 s:PySem.W.subIn K (.ref c) (.ref cP)=some true
 v:Ao K (.ref c) (.type "ValueError")=some true
 m:Ar K An nm=some (some (.ref c))
 fn : ∃ fd:Bf,Fun K "__init__" qn sE f fd/\Binds K fd ps []
theorem fn_mkE {K:Aa}{f:Addr}{oc:Value}{od an:Option Addr}{osl:Array (Option Value)}{kV doc pm cdv ct:Value}{qn:Str}{st:Stmt}{ps:List Str}
  (l:K.lookup f=some ⟨oc,od,.func (Cm "__init__" qn (dX st) (dN st) (aH st) .none kV doc pm an cdv ct),osl⟩) (c:DR K cdv qn=true) (k:Cw K (.ref f)=true)
  (hb : ∀ (kV doc pm:Value) (an:Option Addr) (cdv ct:Value) (us:List Value),us.length=ps.length->bindArgs (Cm "__init__" qn (dX st) (dN st) (aH st) .none kV doc pm an cdv ct) ⟨us,[]⟩=pure (ps.zip us)) :
  ∃ fd:Bf,Fun K "__init__" qn st f fd/\Binds K fd ps [] :=
 ⟨_,jD (st:=st) l c k,(jD (st:=st) l c k).binds hb⟩
theorem ex1 {K:Aa}{c cP f:Addr}{x:Str}(e:ExF K c cP f x) : ∀ y ∈ [x],ExF K c cP f y:=fun y h=>by
 cases AE.mp h;exact e
theorem ex2 {K:Aa}{c cP f:Addr}{x y:Str}(e:ExF K c cP f x)(n:Bb K (.ref c) y=some none) : ∀ z ∈ [x,y],ExF K c cP f z:=DU.mpr ⟨e,ex1 ⟨e.i,e.sa,n⟩⟩
theorem ex3 {K:Aa}{c cP f:Addr}{x y z:Str}(e:ExF K c cP f x)(n:Bb K (.ref c) y=some none)(o:Bb K (.ref c) z=some none) : ∀ u ∈ [x,y,z],ExF K c cP f u:=DU.mpr ⟨e,ex2 ⟨e.i,e.sa,n⟩ o⟩
theorem er1_mk {K:Aa}{cP c f:Addr}{od:Option Addr}{cd:ClassData}{sl:Array (Option Value)}{nm qn:Str}{sE:Stmt}{fs ps:List Str}(m:Ar K An nm=some (some (.ref c)))(_lk:K.lookup c=some ⟨.type "type",od,.cls cd,sl⟩)(_ni:Ar K cd.ns "__init__" = some (some (.ref f)))
  (e : ∀ x ∈ fs,ExF K c cP f x) (s:PySem.W.subIn K (.ref c) (.ref cP)=some true) (v:Ao K (.ref c) (.type "ValueError")=some true) (fn : ∃ fd:Bf,Fun K "__init__" qn sE f fd/\Binds K fd ps []):Er1K K cP c f nm qn sE fs ps:=⟨e,s,v,m,fn⟩
structure ErBK (K:Aa)(cP c0 c1 c2 c3 c4 c5 f0 f3 f4:Addr):Prop where
 ct:CtK K cP
 bi:BaseI K cP
 mP:Ar K An "PhialError" = some (some (.ref cP))
 r0:Er1K K cP c0 f0 "Dry" "Dry.__init__" sE0 ["place","phial"] ["self","place","phial"]
 r3:Er1K K cP c3 f3 "Spilt" "Spilt.__init__" sE3 ["place","phial","over"] ["self","place","phial","over"]
 r4:Er1K K cP c4 f4 "Touch" "Touch.__init__" sE4 ["place","phial","pair"] ["self","place","phial","pair"]
 m1:Ar K An "Low" = some (some (.ref c1))
 m2:Ar K An "Wet" = some (some (.ref c2))
 m5:Ar K An "NoDeed" = some (some (.ref c5))
 i00:Ao K (.ref c0) (.ref c0)=some true
 i01:Ao K (.ref c0) (.ref c1)=some false
 i02:Ao K (.ref c0) (.ref c2)=some false
 i03:Ao K (.ref c0) (.ref c3)=some false
 i04:Ao K (.ref c0) (.ref c4)=some false
 i05:Ao K (.ref c0) (.ref c5)=some false
 i30:Ao K (.ref c3) (.ref c0)=some false
 i31:Ao K (.ref c3) (.ref c1)=some false
 i32:Ao K (.ref c3) (.ref c2)=some false
 i33:Ao K (.ref c3) (.ref c3)=some true
 i34:Ao K (.ref c3) (.ref c4)=some false
 i35:Ao K (.ref c3) (.ref c5)=some false
 i40:Ao K (.ref c4) (.ref c0)=some false
 i41:Ao K (.ref c4) (.ref c1)=some false
 i42:Ao K (.ref c4) (.ref c2)=some false
 i43:Ao K (.ref c4) (.ref c3)=some false
 i44:Ao K (.ref c4) (.ref c4)=some true
 i45:Ao K (.ref c4) (.ref c5)=some false
theorem ErBK.er {K:Aa}{mg:Str->Option Value}{h:Heap}{cP c0 c1 c2 c3 c4 c5 f0 f3 f4:Addr}(E:ErBK K cP c0 c1 c2 c3 c4 c5 f0 f3 f4)(X:K.In h)(G:h.Ns An mg):ErB K mg cP c0 c1 c2 c3 c4 c5 f0 f3 f4 :=
 { ct:=E.ct,bi:=E.bi,mP:=BL X G E.mP,r0:=⟨E.r0.e,E.r0.s,E.r0.v,BL X G E.r0.m⟩,r3:=⟨E.r3.e,E.r3.s,E.r3.v,BL X G E.r3.m⟩,r4:=⟨E.r4.e,E.r4.s,E.r4.v,BL X G E.r4.m⟩,m1:=BL X G E.m1,m2:=BL X G E.m2,m5:=BL X G E.m5,i00:=E.i00,i01:=E.i01,i02:=E.i02,i03:=E.i03,i04:=E.i04,i05:=E.i05,i30:=E.i30,i31:=E.i31,i32:=E.i32,i33:=E.i33,i34:=E.i34,i35:=E.i35,i40:=E.i40,i41:=E.i41,i42:=E.i42,i43:=E.i43,i44:=E.i44,i45:=E.i45 }
theorem errb_mk {K:Aa}{cP c0 c1 c2 c3 c4 c5 f0 f3 f4:Addr}(mP:Ar K An "PhialError" = some (some (.ref cP)))(ct:CtK K cP)(bi:BaseI K cP)
  (r0:Er1K K cP c0 f0 "Dry" "Dry.__init__" sE0 ["place","phial"] ["self","place","phial"]) (r3:Er1K K cP c3 f3 "Spilt" "Spilt.__init__" sE3 ["place","phial","over"] ["self","place","phial","over"]) (r4:Er1K K cP c4 f4 "Touch" "Touch.__init__" sE4 ["place","phial","pair"] ["self","place","phial","pair"])
  (m1:Ar K An "Low" = some (some (.ref c1))) (m2:Ar K An "Wet" = some (some (.ref c2))) (m5:Ar K An "NoDeed" = some (some (.ref c5))) (i00:Ao K (.ref c0) (.ref c0)=some true) (i01:Ao K (.ref c0) (.ref c1)=some false) (i02:Ao K (.ref c0) (.ref c2)=some false) (i03:Ao K (.ref c0) (.ref c3)=some false) (i04:Ao K (.ref c0) (.ref c4)=some false) (i05:Ao K (.ref c0) (.ref c5)=some false) (i30:Ao K (.ref c3) (.ref c0)=some false) (i31:Ao K (.ref c3) (.ref c1)=some false) (i32:Ao K (.ref c3) (.ref c2)=some false) (i33:Ao K (.ref c3) (.ref c3)=some true) (i34:Ao K (.ref c3) (.ref c4)=some false) (i35:Ao K (.ref c3) (.ref c5)=some false) (i40:Ao K (.ref c4) (.ref c0)=some false) (i41:Ao K (.ref c4) (.ref c1)=some false) (i42:Ao K (.ref c4) (.ref c2)=some false) (i43:Ao K (.ref c4) (.ref c3)=some false) (i44:Ao K (.ref c4) (.ref c4)=some true) (i45:Ao K (.ref c4) (.ref c5)=some false) : ∃ cP c0 c1 c2 c3 c4 c5 f0 f3 f4:Addr,ErBK K cP c0 c1 c2 c3 c4 c5 f0 f3 f4 :=
 ⟨_,_,_,_,_,_,_,_,_,_,{ ct:=ct,bi:=bi,mP:=mP,r0:=r0,r3:=r3,r4:=r4,m1:=m1,m2:=m2,m5:=m5,i00:=i00,i01:=i01,i02:=i02,i03:=i03,i04:=i04,i05:=i05,i30:=i30,i31:=i31,i32:=i32,i33:=i33,i34:=i34,i35:=i35,i40:=i40,i41:=i41,i42:=i42,i43:=i43,i44:=i44,i45:=i45 }⟩
def frmA (f0 f1 f2 f3 f4:Addr)(x:Str):Option Addr:=if x = "draw" then some f0 else if x = "fill" then some f1 else if x = "pour" then some f2 else if x = "empty" then some f3 else if x = "rinse" then some f4 else none
structure FormsW (w:World)(K:Aa)(aF:Addr)(f:Str->Option Addr):Prop where
 d:KDict w K aF f
 m:Ar K An "FORMS" = some (some (.ref aF))
 y : ∀ x ks,frm x=some ks->∃ a,f x=some a/\∀ H:Hp,SqT K H a (ks.map V.str)
 n : ∀ x,frm x=none->f x=none
theorem beqS (a b:Str):(a == b)=decide (b=a):=by
 by_cases h:b=a
 ·subst h
  rw [decide_eq_true rfl,beq_self_eq_true]
 ·rw [decide_eq_false h,beq_eq_false_iff_ne]
  exact AM h
theorem aHh {h1 h2 h3 h4 h5:Int}(x:Str):findBy ES #[⟨h1,.str a1 t1,.ref v1⟩,⟨h2,.str a2 t2,.ref v2⟩,⟨h3,.str a3 t3,.ref v3⟩,⟨h4,.str a4 t4,.ref v4⟩,⟨h5,.str a5 t5,.ref v5⟩] x=(if x=a1 then some v1 else if x=a2 then some v2 else if x=a3 then some v3 else if x=a4 then some v4 else if x=a5 then some v5 else none:Option Addr).map AC:=by
 unfold findBy;rw [List.find?_toArray];simp only [Dl,ES,beqS,List.find?_nil]
 by_cases e1:x=a1
 ·rw [decide_eq_true e1,if_pos e1]; rfl
 rw [decide_eq_false e1,if_neg e1]
 by_cases e2:x=a2
 ·rw [decide_eq_true e2,if_pos e2]; rfl
 rw [decide_eq_false e2,if_neg e2]
 by_cases e3:x=a3
 ·rw [decide_eq_true e3,if_pos e3]; rfl
 rw [decide_eq_false e3,if_neg e3]
 by_cases e4:x=a4
 ·rw [decide_eq_true e4,if_pos e4]; rfl
 rw [decide_eq_false e4,if_neg e4]
 by_cases e5:x=a5
 ·rw [decide_eq_true e5,if_pos e5]; rfl
 rw [decide_eq_false e5,if_neg e5];rfl
theorem sq1 {K:Aa}{a:Addr}{od:Option Addr}{x:Str}{t0:Tok}{n:Nat}{sl:Array (Option Value)}(l:K.lookup a=some ⟨.type "tuple",od,.seq #[.str x t0] n,sl⟩) : ∀ H:Hp,SqT K H a [.str x] :=
 fun _=>.inr ⟨_,_,_,l,rfl,rfl,zLn1,.cons ⟨_,rfl⟩ .nil⟩
theorem sq3 {K:Aa}{a:Addr}{od:Option Addr}{x y z:Str}{t0 t1 t2:Tok}{n:Nat}{sl:Array (Option Value)}(l:K.lookup a=some ⟨.type "tuple",od,.seq #[.str x t0,.str y t1,.str z t2] n,sl⟩) : ∀ H:Hp,SqT K H a [.str x,.str y,.str z] :=
 fun _=>.inr ⟨_,_,_,l,rfl,rfl,zLn3,.cons ⟨_,rfl⟩ (.cons ⟨_,rfl⟩ (.cons ⟨_,rfl⟩ .nil))⟩
theorem forms_mk {w:World}{K:Aa}{aF f0 f1 f2 f3 f4:Addr}{t0 t1 t2 t3 t4:Tok}{h0 h1 h2 h3 h4:Int}{n:Nat}(m:Ar K An "FORMS" = some (some (.ref aF)))(lo:(aF == DG)=false)(l:K.lookup aF=some ⟨.type "dict",none,.dict #[⟨h0,.str "draw" t0,.ref f0⟩,⟨h1,.str "fill" t1,.ref f1⟩,⟨h2,.str "pour" t2,.ref f2⟩,⟨h3,.str "empty" t3,.ref f3⟩,⟨h4,.str "rinse" t4,.ref f4⟩] n,#[]⟩)(k:PySem.W.KeysLit w.params ([⟨h0,.str "draw" t0,.ref f0⟩,⟨h1,.str "fill" t1,.ref f1⟩,⟨h2,.str "pour" t2,.ref f2⟩,⟨h3,.str "empty" t3,.ref f3⟩,⟨h4,.str "rinse" t4,.ref f4⟩]:List DictEntry))
  (s0 : ∀ H:Hp,SqT K H f0 [.str "phial",.str "ware",.str "amount"]) (s1 : ∀ H:Hp,SqT K H f1 [.str "phial",.str "ware",.str "level"]) (s2 : ∀ H:Hp,SqT K H f2 [.str "phial",.str "phial",.str "part"]) (s3 : ∀ H:Hp,SqT K H f3 [.str "phial"]) (s4 : ∀ H:Hp,SqT K H f4 [.str "phial"]) : ∃ (aF:Addr) (f:Str->Option Addr),FormsW w K aF f:=by
 refine ⟨aF,frmA f0 f1 f2 f3 f4,⟨lo,_,_,l,k,fun x => ?_⟩,m,fun x ks h => ?_,fun x h => ?_⟩
 ·unfold frmA
  exact aHh x
 ·unfold frm at h
  unfold frmA
  by_cases e0:x = "draw"
  ·rw [if_pos e0] at h ⊢
   cases h;exact ⟨f0,rfl,s0⟩
  rw [if_neg e0] at h ⊢
  by_cases e1:x = "fill"
  ·rw [if_pos e1] at h ⊢
   cases h;exact ⟨f1,rfl,s1⟩
  rw [if_neg e1] at h ⊢
  by_cases e2:x = "pour"
  ·rw [if_pos e2] at h ⊢
   cases h;exact ⟨f2,rfl,s2⟩
  rw [if_neg e2] at h ⊢
  by_cases e3:x = "empty"
  ·rw [if_pos e3] at h ⊢
   cases h;exact ⟨f3,rfl,s3⟩
  rw [if_neg e3] at h ⊢
  by_cases e4:x = "rinse"
  ·rw [if_pos e4] at h ⊢
   cases h;exact ⟨f4,rfl,s4⟩
  rw [if_neg e4] at h ⊢;cases h
 ·unfold frm at h
  unfold frmA
  by_cases e0:x = "draw"
  ·rw [if_pos e0] at h
   cases h
  rw [if_neg e0] at h ⊢
  by_cases e1:x = "fill"
  ·rw [if_pos e1] at h
   cases h
  rw [if_neg e1] at h ⊢
  by_cases e2:x = "pour"
  ·rw [if_pos e2] at h
   cases h
  rw [if_neg e2] at h ⊢
  by_cases e3:x = "empty"
  ·rw [if_pos e3] at h
   cases h
  rw [if_neg e3] at h ⊢
  by_cases e4:x = "rinse"
  ·rw [if_pos e4] at h
   cases h
  rw [if_neg e4] at h ⊢
structure ClsB (K:Aa)(nm:Str)(fs:List Str)(qI qO:Str)(sI sO:Stmt)(ps:List Str)(C:Addr):Prop where
 mgC:Ar K An nm=some (some (.ref C))
 na : ∀ f ∈ fs,NoAttr K C f
 cl:Cls K C
 mks:PySem.W.makesIn K C=true
 kc:Cw K (.ref C)=true
 mI:MDn K C "__init__" qI sI ps
 mO:MDn K C "onto_at" qO sO ["self","bench","phials","place"]
theorem na1 {K:Aa}{C:Addr}{x:Str}(a:Bb K (.ref C) x=some none) : ∀ f ∈ [x],NoAttr K C f:=fun f h=>by
 cases AE.mp h;exact a
theorem na3 {K:Aa}{C:Addr}{x y z:Str}(a:Bb K (.ref C) x=some none)(b:Bb K (.ref C) y=some none)(c:Bb K (.ref C) z=some none) : ∀ f ∈ [x,y,z],NoAttr K C f :=
 DU.mpr ⟨a,DU.mpr ⟨b,na1 c⟩⟩
theorem ClsB.init {P:Ax}{w:World}{K:Aa}{mg:Str->Option Value}{base h:Heap}{nm:Str}{fs:List Str}{qI qO:Str}{sI sO:Stmt}{ps:List Str}{C:Addr}{sp:Sp}(D:ClsB K nm fs qI qO sI sO ps C)(X:K.In h)(G:h.Ns An mg)
  (ok : ∀ {f:Addr} {fd:Bf},Fun K "__init__" qI sI f fd->FnOk P w K mg base CX0 1 f fd ps sp):MkD P w K mg base C nm ps sp:=by
 obtain ⟨f,fd,hm,F,b⟩:=D.mI.ex;exact ⟨f,fd,⟨D.mks,hm.at_,hm.fn,D.kc⟩,(ok F).mono (by decide),b,BL X G D.mgC⟩
theorem ClsB.dcl {K:Aa}{nm:Str}{fs:List Str}{qI qO:Str}{sI sO:Stmt}{ps:List Str}{C:Addr}(D:ClsB K nm fs qI qO sI sO ps C):DCl K C fs:=⟨D.cl,D.na⟩
structure AllC (K:Aa)(CP:Addr):Prop where
 dPour:ClsB K "Pour" ["one","other","part"] "Pour.__init__" "Pour.onto_at" qD gP ["self","one","other","part"] CP
theorem allc_mk {K:Aa}{CP:Addr}(dPour:ClsB K "Pour" ["one","other","part"] "Pour.__init__" "Pour.onto_at" qD gP ["self","one","other","part"] CP) : ∃ CP:Addr,AllC K CP:=⟨_,⟨dPour⟩⟩
structure AllD (w:World)(K:Aa):Prop where
 dIsWh:Dn K "is_whole_number" sIsWh ["thing"]
 dGcd:Dn K "common_divisor" sGcd ["one","other"]
 dLow:Dn K "lowest_terms" sLow ["top","bottom"]
 dIsAm:Dn K "is_amount" sIsAm ["thing"]
 dPlus:Dn K "plus" sPlus ["one","other"]
 dMinus:Dn K "minus" sMinus ["one","other"]
 dTimes:Dn K "times" sTimes ["one","other"]
 dLess:Dn K "less" sLess ["one","other"]
 dIsWare:Dn K "is_ware" sIsWare ["thing"]
 dMixture:Dn K "mixture" sMixture ["pairs"]
 dWholeM:Dn K "whole" sWholeM ["one"]
 dTogether:Dn K "together" sTogether ["one","other"]
 dPairIn:Dn K "pair_in" sPairIn ["bench","names"]
 dWithPh:Dn K "with_phial" sWithPh ["phials","phial","holds","names"]
 dWithMore:Dn K "with_more" sWithMore ["bench","phials","phial","comes","names","place"]
 dDeedAt:Dn K "deed_at" sDeedAt ["bench","row","place"]
 dIsRow:Dn K "is_row" sIsRow ["bench","row"]
 dOfKind:Dn K "is_of_kind" sOfKind ["bench","kind","thing"]
 dDoneAt:Dn K "done_at" sDoneAt ["bench","phials","row","place"]
 dDone:Dn K "done" sDone ["bench","phials","row"]
 dCell:Dn K "_law_cell_at" sCell ["_law_script","_law_k"]
 dMixed:Dn K "_law_mixed" sMixed ["_law_cell","_law_k"]
 dLowest:Dn K "_law_lowest" sLowest ["_law_top","_law_bottom"]
 dAdd:Dn K "_law_add" sAdd ["_law_one","_law_other"]
 dTake:Dn K "_law_take" sTake ["_law_one","_law_other"]
 dBy:Dn K "_law_by" sBy ["_law_one","_law_other"]
 dUnder:Dn K "_law_under" sUnder ["_law_one","_law_other"]
 dDigit:Dn K "_law_digit" sDigit ["_law_left","_law_many"]
 dNames:Dn K "_law_names" sNames ["_law_left"]
 dWares:Dn K "_law_wares" sWares ["_law_cell"]
 dSum:Dn K "_law_sum" sSum ["_law_held"]
 dInto:Dn K "_law_into" sInto ["_law_bench_here","_law_state","_law_phial","_law_more","_law_names_here"]
 dPoured:Dn K "_law_poured" sPoured ["_law_bench_here","_law_state","_law_row_here"]
 dAfter:Dn K "_law_after" sAfter ["_law_bench_here","_law_state","_law_row_here"]
 dMuch:Dn K "_law_much" sMuch ["_law_number"]
 dApart:Dn K "_law_apart" sApart ["_law_wares_here","_law_cell","_law_often"]
 dFree:Dn K "_law_free_bench" sFree ["_law_script","_law_wares_here"]
 dBench:Dn K "_law_bench" sBench ["_law_script","_law_wares_here"]
 dFreeRow:Dn K "_law_free_row" sFreeRow ["_law_bench_here","_law_wares_here","_law_left"]
 dRow:Dn K "_law_row" sRow ["_law_bench_here","_law_wares_here","_law_script","_law_k"]
 dPhials:Dn K "_law_phials" sPhials ["_law_script","_law_bench_here","_law_wares_here","_law_start","_law_last"]
 dWhole:Dn K "_law_whole" sWhole ["_law_found"]
 dKind:Dn K "_law_kind" sKind ["_law_error"]
 dRefused:Dn K "_law_refused" sRefused ["_law_error","_law_due","_law_place"]
 dPourW:Dn K "_law_pour" sPourW ["_law_many","_law_script","_law_k"]
 z0:Ar K An "isinstance" = some none
 z1:Ar K An "int" = some none
 z2:Ar K An "bool" = some none
 z3:Ar K An "tuple" = some none
 z4:Ar K An "str" = some none
 z5:Ar K An "len" = some none
 z6:Ar K An "range" = some none
 z7:Ar K An "min" = some none
 z8:Ar K An "max" = some none
 z9:Ar K An "abs" = some none
 z10:Ar K An "list" = some none
 z11:Ar K An "sorted" = some none
 z12:Ar K An "zip" = some none
 z13:Ar K An "set" = some none
 z14:Ar K An "all" = some none
 z15:Ar K An "enumerate" = some none
 z16:Ar K An "ValueError" = some none
 z17:Ar K An "dict" = some none
 nou : ∃ aN:Addr,NouK K aN
 one : ∃ aO:Addr,OneK K aO
 err : ∃ cP c0 c1 c2 c3 c4 c5 f0 f3 f4:Addr,ErBK K cP c0 c1 c2 c3 c4 c5 f0 f3 f4
 forms : ∃ (aF:Addr) (f:Str->Option Addr),FormsW w K aF f
 cls : ∃ CP:Addr,AllC K CP
 mM : ∃ t:Tok,Ar K An "MOST_LETTERS" = some (some (.int 8 t))
 mL : ∃ t:Tok,Ar K An "LETTERS" = some (some (.str LET t))
theorem AllD.txt {w:World}{K:Aa}{mg:Str->Option Value}{h:Heap}(A:AllD w K)(X:K.In h)(G:h.Ns An mg):Txt mg:=⟨AO X G A.z0,AO X G A.z1,AO X G A.z2,AO X G A.z3,AO X G A.z4,AO X G A.z5,AO X G A.z6,AO X G A.z7,AO X G A.z8,AO X G A.z9,AO X G A.z10,AO X G A.z11,AO X G A.z12,AO X G A.z13,AO X G A.z14,AO X G A.z15,AO X G A.z16,AO X G A.z17⟩
theorem aFo {P:Ax}{w:World}{K:Aa}{mg:Str->Option Value}{base h:Heap}{f:Addr}{fd:Bf}(X:K.In h)(G:h.Ns An mg)(A:AllD w K)(F:Fun K "law" "law" sLaw f fd):FnOk P w K mg base CX0 10 f fd ["_law_script"] (uD K):=by
 have T:Txt mg:=A.txt X G;obtain ⟨aN,NK⟩:=A.nou;have mN:=BL X G NK.m;obtain ⟨aO,OK⟩:=A.one;have mO:=BL X G OK.m;obtain ⟨cP,c0,c1,c2,c3,c4,c5,f0,f3,f4,EK⟩:=A.err;have R:=EK.er X G;obtain ⟨g0,F0,b0⟩:=EK.r0.fn;obtain ⟨g3,F3,b3⟩:=EK.r3.fn;obtain ⟨g4,F4,b4⟩:=EK.r4.fn;obtain ⟨aF,fF,FW⟩:=A.forms;have FK:FormsK w K mg aF fF:=⟨FW.d,BL X G FW.m,FW.y,FW.n⟩;obtain ⟨CP,CK⟩:=A.cls;obtain ⟨t1,h1⟩:=A.mM;have mM:=BL X G h1;obtain ⟨t2,h2⟩:=A.mL;have mL:=BL X G h2;have e0:=aG3 (P:=P) (w:=w) (base:=base) F0 R;have e3:=aG2 (P:=P) (w:=w) (base:=base) F3 R;have e4:=aG1 (P:=P) (w:=w) (base:=base) F4 R;have cG:Cal P w K mg base CX0 1 "common_divisor" ["one","other"] yP:=A.dGcd.cal X G aFc;have cWh:Cal P w K mg base CX0 1 "is_whole_number" ["thing"] (spWh K):=A.dIsWh.cal X G fun F=>aC9 F T;have cWr:Cal P w K mg base CX0 1 "is_ware" ["thing"] (kR K):=A.dIsWare.cal X G fun F=>vW F T mM mL;have cAm:Cal P w K mg base CX0 2 "is_amount" ["thing"] (uF K):=A.dIsAm.cal X G fun F=>aDa F T cWh cG;have cL1:Cal P w K mg base CX0 1 "less" ["one","other"] (oH K aO):=A.dLess.cal X G fun F=>zQ F OK.s;have cLs:Cal P w K mg base CX0 1 "less" ["one","other"] (gO K):=A.dLess.cal X G aC7;have cKd:Cal P w K mg base CX0 3 "is_of_kind" ["bench","kind","thing"] (kP K):=A.dOfKind.cal X G fun F=>vU F T mN NK.s mO (cWh.mono (by decide)) (cWr.mono (by decide)) cAm (cL1.mono (by decide));have cIr:Cal P w K mg base CX0 4 "is_row" ["bench","row"] (oI K):=A.dIsRow.cal X G fun F=>zR F T FK cKd;have cLt:Cal P w K mg base CX0 2 "lowest_terms" ["top","bottom"] uC:=A.dLow.cal X G fun F=>aFa F cG;have cPl:Cal P w K mg base CX0 3 "plus" ["one","other"] (pX K):=A.dPlus.cal X G fun F=>aC4 F mN NK.s cLt;have cMi:Cal P w K mg base CX0 3 "minus" ["one","other"] (kQ K):=A.dMinus.cal X G fun F=>zP F (cLs.mono (by decide)) cLt;have cTi:Cal P w K mg base CX0 3 "times" ["one","other"] (oF K):=A.dTimes.cal X G fun F=>zK F cLt;have cMx:Cal P w K mg base CX0 4 "mixture" ["pairs"] (fK K):=A.dMixture.cal X G fun F=>sL F T mN NK.s cPl;have cWm:Cal P w K mg base CX0 4 "whole" ["one"] (kJ K):=A.dWholeM.cal X G fun F=>vQ F mN NK.s cPl;have cTg:Cal P w K mg base CX0 5 "together" ["one","other"] (aB4 K):=A.dTogether.cal X G fun F=>oR F T cMx;have cPi:Cal P w K mg base CX0 1 "pair_in" ["bench","names"] (kN K):=A.dPairIn.cal X G vT;have kCP:MkD P w K mg base CP "Pour" ["self","one","other","part"] (aB6 CP "one" "other" "part"):=CK.dPour.init X G fun F=>zT F CK.dPour.dcl;have cDa:Cal P w K mg base (CXg P w) 6 "deed_at" ["bench","row","place"] (kW K CP):=A.dDeedAt.cal X G fun F=>vY F (cIr.mono (by decide)) kCP;have cWp:Cal P w K mg base CX0 1 "with_phial" ["phials","phial","holds","names"] pW:=A.dWithPh.cal X G fun F=>aC2 F T;have cMo:Cal P w K mg base (CXg P w) 6 "with_more" ["bench","phials","phial","comes","names","place"] (uB K c3 c4):=A.dWithMore.cal X G fun F=>aC6 F T R e3 b3 e4 b4 cTg (cWm.mono (by decide)) (cLs.mono (by decide)) (cMi.mono (by decide)) (cPi.mono (by decide)) (cWp.mono (by decide));have hT : ∀ c ∈ aBc CP c0 c1 c2 c3 c4,Cls K c.1/\MCal P w K mg base (CXg P w) 7 c.1 "onto_at" Non c.2 :=
  DU.mpr ⟨⟨CK.dPour.cl,CK.dPour.mO.cal fun F=>zM F T CK.dPour.dcl mO OK.s R e0 b0 (cTi.mono (by decide)) (cMi.mono (by decide)) (cMx.mono (by decide)) (cWp.mono (by decide)) cMo⟩,fun _ h=>nomatch h⟩
 have cDt:Cal P w K mg base (CXg P w) 8 "done_at" ["bench","phials","row","place"] (kU K c0 c1 c2 c3 c4):=A.dDoneAt.cal X G fun F=>vX F (cDa.mono (by decide)) hT;have cDn:Cal P w K mg base (CXg P w) 9 "done" ["bench","phials","row"] (uG K c0 c1 c2 c3 c4):=A.dDone.cal X G fun F=>aDd F cDt;have cC:Cal P w K mg base CX0 1 "_law_cell_at" ["_law_script","_law_k"] (iK K):=A.dCell.cal X G fun F=>aDe F T;have cX:Cal P w K mg base CX0 1 "_law_mixed" ["_law_cell","_law_k"] fD:=A.dMixed.cal X G zO;have cLo:Cal P w K mg base CX0 1 "_law_lowest" ["_law_top","_law_bottom"] dS:=A.dLowest.cal X G vV;have cDi:Cal P w K mg base CX0 1 "_law_digit" ["_law_left","_law_many"] gD:=A.dDigit.cal X G zU;have cNa:Cal P w K mg base CX0 2 "_law_names" ["_law_left"] oG:=A.dNames.cal X G fun F=>zN F T cDi;have cWa:Cal P w K mg base CX0 3 "_law_wares" ["_law_cell"] oE:=A.dWares.cal X G fun F=>zI F T cNa (cX.mono (by decide));have cAd:Cal P w K mg base CX0 2 "_law_add" ["_law_one","_law_other"] (yQ K):=A.dAdd.cal X G fun F=>aFd F cLo;have cTa:Cal P w K mg base CX0 2 "_law_take" ["_law_one","_law_other"] (lU K):=A.dTake.cal X G fun F=>aC3 F cLo;have cBy:Cal P w K mg base CX0 2 "_law_by" ["_law_one","_law_other"] (spBy K):=A.dBy.cal X G fun F=>aG4 F cLo;have cUn:Cal P w K mg base CX0 1 "_law_under" ["_law_one","_law_other"] (gO K):=A.dUnder.cal X G zJ;have cSu:Cal P w K mg base CX0 3 "_law_sum" ["_law_held"] (yO K):=A.dSum.cal X G fun F=>aE8 F cAd;have cIn:Cal P w K mg base CX0 4 "_law_into" ["_law_bench_here","_law_state","_law_phial","_law_more","_law_names_here"] (pZ K):=A.dInto.cal X G fun F=>aDb F T (cAd.mono (by decide)) cSu (cUn.mono (by decide)) (cTa.mono (by decide));have cPo:Cal P w K mg base CX0 5 "_law_poured" ["_law_bench_here","_law_state","_law_row_here"] (kK K):=A.dPoured.cal X G fun F=>vR F T (cBy.mono (by decide)) (cTa.mono (by decide)) cIn;have cAf:Cal P w K mg base CX0 6 "_law_after" ["_law_bench_here","_law_state","_law_row_here"] (kX K):=A.dAfter.cal X G fun F=>zX F T (cIn.mono (by decide)) cPo (cSu.mono (by decide)) (cUn.mono (by decide)) (cTa.mono (by decide));have cMu:Cal P w K mg base CX0 2 "_law_much" ["_law_number"] pY:=A.dMuch.cal X G fun F=>aC5 F cLo;have cAp:Cal P w K mg base CX0 2 "_law_apart" ["_law_wares_here","_law_cell","_law_often"] (oJ K):=A.dApart.cal X G fun F=>zW F T cX;have cFb:Cal P w K mg base CX0 2 "_law_free_bench" ["_law_script","_law_wares_here"] (gE K):=A.dFree.cal X G fun F=>aDc F T cC cDi cLo;have cBe:Cal P w K mg base CX0 3 "_law_bench" ["_law_script","_law_wares_here"] (gE K):=A.dBench.cal X G fun F=>zV F T (cC.mono (by decide)) cFb (cX.mono (by decide)) cMu cAp;have cFw:Cal P w K mg base CX0 2 "_law_free_row" ["_law_bench_here","_law_wares_here","_law_left"] iJ:=A.dFreeRow.cal X G fun F=>sM F T cDi cLo;have cRw:Cal P w K mg base CX0 3 "_law_row" ["_law_bench_here","_law_wares_here","_law_script","_law_k"] (aB5 K):=A.dRow.cal X G fun F=>aE9 F T (cC.mono (by decide)) (cX.mono (by decide)) cFw cMu (cLo.mono (by decide));have cPh:Cal P w K mg base CX0 7 "_law_phials" ["_law_script","_law_bench_here","_law_wares_here","_law_start","_law_last"] (kM K):=A.dPhials.cal X G fun F=>vS F T cAf (cRw.mono (by decide));have cW:Cal P w K mg base CX0 1 "_law_whole" ["_law_found"] (spWh K):=A.dWhole.cal X G fun F=>zH F T;have cKn:Cal P w K mg base CX0 1 "_law_kind" ["_law_error"] (uE c0 c1 c2 c3 c4):=A.dKind.cal X G fun F=>aC8 F T R;have cRf:Cal P w K mg base CX0 2 "_law_refused" ["_law_error","_law_due","_law_place"] (iI c0 c1 c2 c3 c4):=A.dRefused.cal X G fun F=>sJ F T R cKn cW;have cPw:Cal P w K mg base CX0 3 "_law_pour" ["_law_many","_law_script","_law_k"] (spPw K):=A.dPourW.cal X G fun F=>aG0 F T (cC.mono (by decide)) (cX.mono (by decide)) (cDi.mono (by decide)) (cLo.mono (by decide));exact aFb F T R (cAf.mono (by decide)) cDn (cRf.mono (by decide)) (cPh.mono (by decide)) (cC.mono (by decide)) (cWa.mono (by decide)) (cBe.mono (by decide)) (cPw.mono (by decide))
theorem all_mk {l:PySem.W.OpenLaw}{w:World}{K:Aa}{h:Heap}{mg:Str->Option Value}{fa f4:Addr}(X:K.In h)(G:h.Ns An mg)(hfa:mg "law" = some (.ref fa))(A:AllD w K)
  {od4 an4:Option Addr} {sl4:Array (Option Value)} {oc4 kV4 dc4 pm4 cd4 ct4:Value}
  (a4:Ar K An "law" = some (some (.ref f4))) (l4:K.lookup f4=some ⟨oc4,od4,.func (Cm "law" "law" (dX sLaw) (dN sLaw) (aH sLaw) .none kV4 dc4 pm4 an4 cd4 ct4),sl4⟩) (c4:DR K cd4 "law" = true) (k4:Cw K (.ref f4)=true) :
  ∃ fd:Bf,(∀ (s:Shared) (v:Value),BindsTo s fd ⟨[v],[]⟩ [("_law_script",v)])/\∀ base:Heap,K.In base->base.Ns An mg->FnOk l.prog w K mg base CX0 10 fa fd ["_law_script"] (uD K):=by
 have e:=hfa.symm.trans (BL X G a4);cases e;exact ⟨Cm "law" "law" (dX sLaw) (dN sLaw) (aH sLaw) .none kV4 dc4 pm4 an4 cd4 ct4,fun s v=>.of_eq rfl,fun base _ _=>aFo X G A (jD (st:=sLaw) l4 c4 k4)⟩
theorem walk {l:PySem.W.OpenLaw}{q:Ax}{loose:List Str}{XP:(Str->Option Value)->Heap->Prop}{YP:World->Heap->Prop}{d:DefRec}{K:Params->Aa}(hn:l.most=some 63)(hdf:d.params.defaults=[])
  (hY : ∀ (w:World) (h:Heap),YP w h->(K w.params).In h)
  (F : ∀ (w:World) (mg:Str->Option Value) (fa:Addr) (h:Heap),(K w.params).In h->h.Ns An mg->mg d.name=some (.ref fa) ->
   ∃ fd:Bf,(∀ (s:Shared) (u:Value),BindsTo s fd ⟨[u],[]⟩ [("_law_script",u)])/\∀ base:Heap,(K w.params).In base->base.Ns An mg->FnOk l.prog w (K w.params) mg base CX0 10 fa fd ["_law_script"] (uD (K w.params))) :
  PySem.W.WalkO q loose XP YP l.row.toRowW d [] (fun f vs=>PySem.call f vs) :=
 L2.walk_of (n:=63) (k:=10) (x := "_law_script") (CX:=fun _=>CX0) (sp:=fun w=>uD (K w.params)) hn (by decide) hdf ⟨rfl,by decide,by decide,rfl⟩ hY F (fun _ _ a ns hl _ hS=>⟨a,ns,rfl,hS,hl,fun _=>rfl⟩) fun _ _ _ _ _ z=>z
end K34
namespace PySem.W.Fast
def tw328514658683371671:=()
def tw2776073924419532490:=()
def tw11423436325632298753:=()
def tw11093963247533850051:=()
def tw6788554361150203686:=()
def tw7611633851082996373:=()
def tw17618288302351049852:=()
def tw90767547313305293:=()
def tw17516353455765143456:=()
def tw12228915185254850205:=()
def tw623217381487264887:=()
def tw15126428172807802607:=()
def tw17237621156833479716:=()
def tw6989529678086965367:=()
def tw12742739689359466281:=()
def tw10306495494548748366:=()
def tw14230446375368764396:=()
def tw6657273634768533566:=()
def tw16935513693596089631:=()
def tw15255903408100294197:=()
def tw9258842729805270441:=()
def tw6802865092933824088:=()
def tw11078604680202675270:=()
def tw8496342435755017342:=()
def tw5326989431922336766:=()
def tw10968615981663960995:=()
def tw7055797327860878655:=()
def tw6112263764454238609:=()
def tw13464641964113145770:=()
def tw9296326295297892834:=()
def tw1075718136887264592:=()
def tw10700545427381041965:=()
def tw18030053153448214527:=()
def tw7874185235432201063:=()
def tw9919825062868475826:=()
def tw12626471882844671984:=()
def tw12166065117349618926:=()
def tw16198472812283804378:=()
def tw9503589943013381951:=()
def tw10643435194921881949:=()
def tw1164144004582019180:=()
def tw18344247658989901427:=()
def tw1937149073866489237:=()
def tw2641653775852910361:=()
def tw7281089721786986325:=()
def tw2487772903782948051:=()
def tw6073846710780998939:=()
def tw5657314210611595915:=()
def tw17664832661549618917:=()
def tw14480522396968389912:=()
def tw10613625176911136072:=()
def tw916894333936554376:=()
def tw7335896394716800374:=()
def tw13817650161110866321:=()
def tw18410120990766862844:=()
def tw11895368019226775318:=()
def tw14056902679438172725:=()
def tw12915055185296818475:=()
def tw7392453196171450494:=()
def tw16596135219291363665:=()
def tw9938483055130644135:=()
def tw7520670171863865480:=()
def tw11652814180302415544:=()
def tw11467197798045776184:=()
def tw2061488680639230228:=()
def tw13040928906444901356:=()
def tw6467639224921581957:=()
def tw7870343489294914876:=()
def tw14101019265189223095:=()
def tw11859589130130804579:=()
def tw9106680729163419171:=()
def tw16854246694069565334:=()
def tw7050644119822948972:=()
def tw8336986375061712641:=()
def tw15136124618466065826:=()
def tw11661024381619781456:=()
def tw13293628244421474989:=()
def tw5737985664281449815:=()
def tw11765305861660227065:=()
def tw16910284922093035552:=()
def tw17107638215911447047:=()
def tw14252346698414816772:=()
def tw5551093721408791962:=()
def tw17919579499396735000:=()
def tw4198339964096882066:=()
def tw5350231846634452824:=()
def tw3478587401970930438:=()
def tw2114947271822367731:=()
def tw18124579216855293144:=()
def tw1755830984078627488:=()
def tw4962444110840606409:=()
def tw5657084139851268246:=()
def tw8102841624783028475:=()
def tw481270712729366924:=()
def tw1403779268859755653:=()
def tw699399708906197439:=()
def tw8898565873575096164:=()
def tw2584565016819627966:=()
def tw7314637780435635129:=()
def tw67717159084438092:=()
def tw12146183802927708005:=()
def tw10119074961846684960:=()
def tw9121458703352542137:=()
def tw17637589465915757172:=()
def tw4348621097127464019:=()
def tw8418496634804048395:=()
def tw7190677865957339501:=()
def tw2312151136645843129:=()
def tw16952524129141357377:=()
def tw18264172215940550212:=()
def tw3998673103943916763:=()
def tw9718782695378921400:=()
def tw4748864372338353772:=()
def tw4388644568038718524:=()
def tw14771915386631706430:=()
def tw10056124867637653652:=()
def tw6864310084488749132:=()
def tw12899154399666132241:=()
def tw15140442657216271837:=()
def tw63428873958625520:=()
def tw4023953261986875138:=()
def tw6895128783845105453:=()
def tw15390454181503799058:=()
def tw14271773880158029324:=()
def tw7775116734408040165:=()
def tw14710287407973403520:=()
def tw5562970074872340237:=()
def tw17744844069439998:=()
def tw8927239639529753978:=()
def tw18305920385703645137:=()
def tw13717665454562067581:=()
def tw557162317287447338:=()
def tw16641101639516883795:=()
def tw13937629588878249400:=()
def tw2654778866899173921:=()
def tw2361383228869793940:=()
def tw15036097671328262585:=()
def tw10356269820679142390:=()
def tw7162369482533958993:=()
def tw6737827713405659480:=()
def tw16053044812438217272:=()
def tw10714869004122736275:=()
def tw3350969767493533159:=()
def tw11892721546891747143:=()
def tw1466310899057922506:=()
def tw7277082009067346890:=()
def tw11926539700277888856:=()
def tw2542040329968261277:=()
def tw7436281099039671556:=()
def tw5308324454568122196:=()
def tw1332927258411964874:=()
def tw14735099586035562947:=()
def tw17383457140505142022:=()
def tw7478491520290925750:=()
def tw18431053495559972163:=()
def tw3819160052556363238:=()
def tw5428459287347242890:=()
def tw14739948907688463757:=()
def tw12558781631176758300:=()
def tw419064321261850609:=()
def tw11931765926354497783:=()
def tw1242567396640629225:=()
def tw16837322548440449040:=()
def tw18378100735664743668:=()
def tw1906828708117473970:=()
def tw12467406613546880129:=()
def tw4213768948043455924:=()
def tw9979378446732624482:=()
def tw8339020077296470559:=()
def tw14910425411688900513:=()
def tw14322376209645981420:=()
def tw3552001178684911561:=()
def tw10012629787164858584:=()
def tw12555407334924073237:=()
def tw4485936053203962818:=()
def tw4935646491265052689:=()
def tw16929318851156288472:=()
def tw7603638162519082371:=()
def tw544587644399231693:=()
def tw4466272006535934698:=()
def tw1939289879300458956:=()
def tw1347620175984118554:=()
def tw9576562814156251508:=()
def tw12649994331345846141:=()
def tw1207292850617908833:=()
def tw1276653901823986152:=()
def tw4349156776971479521:=()
def tw13336557600424025657:=()
def tw1514045694331822967:=()
def tw11767137492422101542:=()
def tw6895472079675065010:=()
def tw17600237463771736155:=()
def tw9950289893352967817:=()
def tw9779322326752156733:=()
def tw15215434286983087568:=()
def tw3450257363613233876:=()
def tw6820357437070856598:=()
def tw8009427648490895557:=()
def tw2771256560465998496:=()
def tw17968472626835281581:=()
def tw17317369074731160952:=()
def tw4690110834410410868:=()
def tw13264353782946262896:=()
def tw15559102146692171793:=()
def tw10742785904880018913:=()
def tw9684484670143674734:=()
def tw5977472008331579419:=()
def tw4604885188815671287:=()
def tw2446019741697363881:=()
def tw9592874019784824856:=()
def tw13953081407384397298:=()
def tw11384844524957525785:=()
def tw17282746811196218396:=()
def tw3732731170066784898:=()
def tw2315336279029806375:=()
def tw11438996782590574792:=()
def tw15323772717945181335:=()
def tw8518765509728072242:=()
def tw3447608951618155667:=()
def tw3485875923225111266:=()
def tw18166313580885972883:=()
def tw7869906039902211253:=()
def tw14342319371556666079:=()
def tw3073641560657604641:=()
def tw156756741387758177:=()
def tw2731559467445755117:=()
def tw9448745677562920933:=()
def tw1566944677868955298:=()
def tw10407860175530221642:=()
def tw7700537196836700680:=()
def tw8106052236188620227:=()
def tw917155140065696945:=()
def tw10611917030105040764:=()
def tw222818225495606005:=()
def tw18031266943204709407:=()
def tw3316281472778344876:=()
def tw7669891559089784771:=()
def tw12360301753362586023:=()
def tw9524066136161850829:=()
def tw15935794885800132978:=()
def tw279340954942976885:=()
def tw1665198394237018330:=()
def tw15383178693560682675:=()
def tw1376094083207075718:=()
def tw13555253877126709866:=()
def tw6306026468570992039:=()
def tw6298429086891858337:=()
def tw2260436296724299146:=()
def tw13442014975043716868:=()
def tw14864844616497183678:=()
def tw6090012306231077065:=()
def tw2252772363373939650:=()
def tw16891518541787672876:=()
def tw1030308341181301193:=()
def tw13017181474687222324:=()
def tw14902659467333226095:=()
def tw13401577423810641769:=()
def tw12635911751416520116:=()
def tw10519986103760559992:=()
def tw3665101759979861191:=()
def tw6734894647572486241:=()
def tw10238185050012911118:=()
def tw5795016479245249278:=()
def tw10184490537421503124:=()
def tw3961765799695436317:=()
def tw7512648226451981019:=()
def tw8590704635869213461:=()
def tw17660016657467869474:=()
def tw7351138555322080934:=()
def tw9565074979049767042:=()
def tw17034498778744552985:=()
def tw11601482364682217946:=()
def tw17723092110274322119:=()
def tw830084957006208443:=()
def tw2860981542210754530:=()
def tw385136818821813393:=()
def tw11072499310589646404:=()
def tw17392503496218214781:=()
def tw11549708563334699103:=()
def tw743003861217920485:=()
def tw2615982492970133771:=()
def tw6140819505036792648:=()
def tw5423074409149774813:=()
def tw17385481702318616100:=()
def tw6498284347905433612:=()
def tw7646771524783031582:=()
def tw12306136476236427474:=()
def tw1603288900091049154:=()
def tw12554157211137195842:=()
def tw313165551657573407:=()
def tw16813511273080857696:=()
def tw10479864188475905429:=()
def tw15994049331523417260:=()
def tw6708514931459100827:=()
def tw14554720216435306438:=()
def tw12993009559267822797:=()
def tw10046996110412855575:=()
def tw16732420985726644731:=()
def tw10802021061907938574:=()
def tw5697909371042345311:=()
def tw18301754555253058208:=()
def tw18282823337000031294:=()
def tw10274818896891534798:=()
def tw4131474853751074412:=()
def tw10444905206122097009:=()
def tw1396706620902357854:=()
def tw16393084216684873686:=()
def tw13582953604947188003:=()
def tw8332685357055543276:=()
def tw781010092353900445:=()
end PySem.W.Fast
open PySem PySem.W PyProof.Rows
set_option maxRecDepth 100000 in
set_option maxHeartbeats 0 in
theorem PySem.Challenge.cw_phialhouse_k34_pours_holds : PySem.Challenge.rw_phialhouse_k34_pours.Holds := by
 w_on; o_law; k_head; (case hw=>w_witness2)
 k_fill
 refine K34.walk (l:=PySem.Challenge.rw_phialhouse_k34_pours) rfl rfl (fun w h Y=>PySem.W.kIn_of Y) ?F
 case F =>
  intro w mg fa h KX G hmg
  have dIsWh:K34.Dn (L2.KOf KX) "is_whole_number" K34.sIsWh ["thing"]:=by
   dsimp only [L2.KOf]
   refine' K34.Dn.mk' ?a ?l ?c ?k ?b
   (case a=>k_is); (case l=>k_is); (case c=>k_is); (case k=>k_is)
   (case b=>exact fun _ _ _ _ _ _=>K34.bA1 fun _=>rfl)
  have dGcd:K34.Dn (L2.KOf KX) "common_divisor" K34.sGcd ["one","other"]:=by
   dsimp only [L2.KOf]
   refine' K34.Dn.mk' ?a ?l ?c ?k ?b
   (case a=>k_is); (case l=>k_is); (case c=>k_is); (case k=>k_is)
   (case b=>exact fun _ _ _ _ _ _=>K34.bA2 fun _ _=>rfl)
  have dLow:K34.Dn (L2.KOf KX) "lowest_terms" K34.sLow ["top","bottom"]:=by
   dsimp only [L2.KOf]
   refine' K34.Dn.mk' ?a ?l ?c ?k ?b
   (case a=>k_is); (case l=>k_is); (case c=>k_is); (case k=>k_is)
   (case b=>exact fun _ _ _ _ _ _=>K34.bA2 fun _ _=>rfl)
  have dIsAm:K34.Dn (L2.KOf KX) "is_amount" K34.sIsAm ["thing"]:=by
   dsimp only [L2.KOf]
   refine' K34.Dn.mk' ?a ?l ?c ?k ?b
   (case a=>k_is); (case l=>k_is); (case c=>k_is); (case k=>k_is)
   (case b=>exact fun _ _ _ _ _ _=>K34.bA1 fun _=>rfl)
  have dPlus:K34.Dn (L2.KOf KX) "plus" K34.sPlus ["one","other"]:=by
   dsimp only [L2.KOf]
   refine' K34.Dn.mk' ?a ?l ?c ?k ?b
   (case a=>k_is); (case l=>k_is); (case c=>k_is); (case k=>k_is)
   (case b=>exact fun _ _ _ _ _ _=>K34.bA2 fun _ _=>rfl)
  have dMinus:K34.Dn (L2.KOf KX) "minus" K34.sMinus ["one","other"]:=by
   dsimp only [L2.KOf]
   refine' K34.Dn.mk' ?a ?l ?c ?k ?b
   (case a=>k_is); (case l=>k_is); (case c=>k_is); (case k=>k_is)
   (case b=>exact fun _ _ _ _ _ _=>K34.bA2 fun _ _=>rfl)
  have dTimes:K34.Dn (L2.KOf KX) "times" K34.sTimes ["one","other"]:=by
   dsimp only [L2.KOf]
   refine' K34.Dn.mk' ?a ?l ?c ?k ?b
   (case a=>k_is); (case l=>k_is); (case c=>k_is); (case k=>k_is)
   (case b=>exact fun _ _ _ _ _ _=>K34.bA2 fun _ _=>rfl)
  have dLess:K34.Dn (L2.KOf KX) "less" K34.sLess ["one","other"]:=by
   dsimp only [L2.KOf]
   refine' K34.Dn.mk' ?a ?l ?c ?k ?b
   (case a=>k_is); (case l=>k_is); (case c=>k_is); (case k=>k_is)
   (case b=>exact fun _ _ _ _ _ _=>K34.bA2 fun _ _=>rfl)
  have dIsWare:K34.Dn (L2.KOf KX) "is_ware" K34.sIsWare ["thing"]:=by
   dsimp only [L2.KOf]
   refine' K34.Dn.mk' ?a ?l ?c ?k ?b
   (case a=>k_is); (case l=>k_is); (case c=>k_is); (case k=>k_is)
   (case b=>exact fun _ _ _ _ _ _=>K34.bA1 fun _=>rfl)
  have dMixture:K34.Dn (L2.KOf KX) "mixture" K34.sMixture ["pairs"]:=by
   dsimp only [L2.KOf]
   refine' K34.Dn.mk' ?a ?l ?c ?k ?b
   (case a=>k_is); (case l=>k_is); (case c=>k_is); (case k=>k_is)
   (case b=>exact fun _ _ _ _ _ _=>K34.bA1 fun _=>rfl)
  have dWholeM:K34.Dn (L2.KOf KX) "whole" K34.sWholeM ["one"]:=by
   dsimp only [L2.KOf]
   refine' K34.Dn.mk' ?a ?l ?c ?k ?b
   (case a=>k_is); (case l=>k_is); (case c=>k_is); (case k=>k_is)
   (case b=>exact fun _ _ _ _ _ _=>K34.bA1 fun _=>rfl)
  have dTogether:K34.Dn (L2.KOf KX) "together" K34.sTogether ["one","other"]:=by
   dsimp only [L2.KOf]
   refine' K34.Dn.mk' ?a ?l ?c ?k ?b
   (case a=>k_is); (case l=>k_is); (case c=>k_is); (case k=>k_is)
   (case b=>exact fun _ _ _ _ _ _=>K34.bA2 fun _ _=>rfl)
  have dPairIn:K34.Dn (L2.KOf KX) "pair_in" K34.sPairIn ["bench","names"]:=by
   dsimp only [L2.KOf]
   refine' K34.Dn.mk' ?a ?l ?c ?k ?b
   (case a=>k_is); (case l=>k_is); (case c=>k_is); (case k=>k_is)
   (case b=>exact fun _ _ _ _ _ _=>K34.bA2 fun _ _=>rfl)
  have dWithPh:K34.Dn (L2.KOf KX) "with_phial" K34.sWithPh ["phials","phial","holds","names"]:=by
   dsimp only [L2.KOf]
   refine' K34.Dn.mk' ?a ?l ?c ?k ?b
   (case a=>k_is); (case l=>k_is); (case c=>k_is); (case k=>k_is)
   (case b=>exact fun _ _ _ _ _ _=>K34.bA4 fun _ _ _ _=>rfl)
  have dWithMore:K34.Dn (L2.KOf KX) "with_more" K34.sWithMore ["bench","phials","phial","comes","names","place"]:=by
   dsimp only [L2.KOf]
   refine' K34.Dn.mk' ?a ?l ?c ?k ?b
   (case a=>k_is); (case l=>k_is); (case c=>k_is); (case k=>k_is)
   (case b=>exact fun _ _ _ _ _ _=>K34.bA6 fun _ _ _ _ _ _=>rfl)
  have dDeedAt:K34.Dn (L2.KOf KX) "deed_at" K34.sDeedAt ["bench","row","place"]:=by
   dsimp only [L2.KOf]
   refine' K34.Dn.mk' ?a ?l ?c ?k ?b
   (case a=>k_is); (case l=>k_is); (case c=>k_is); (case k=>k_is)
   (case b=>exact fun _ _ _ _ _ _=>K34.bA3 fun _ _ _=>rfl)
  have dIsRow:K34.Dn (L2.KOf KX) "is_row" K34.sIsRow ["bench","row"]:=by
   dsimp only [L2.KOf]
   refine' K34.Dn.mk' ?a ?l ?c ?k ?b
   (case a=>k_is); (case l=>k_is); (case c=>k_is); (case k=>k_is)
   (case b=>exact fun _ _ _ _ _ _=>K34.bA2 fun _ _=>rfl)
  have dOfKind:K34.Dn (L2.KOf KX) "is_of_kind" K34.sOfKind ["bench","kind","thing"]:=by
   dsimp only [L2.KOf]
   refine' K34.Dn.mk' ?a ?l ?c ?k ?b
   (case a=>k_is); (case l=>k_is); (case c=>k_is); (case k=>k_is)
   (case b=>exact fun _ _ _ _ _ _=>K34.bA3 fun _ _ _=>rfl)
  have dDoneAt:K34.Dn (L2.KOf KX) "done_at" K34.sDoneAt ["bench","phials","row","place"]:=by
   dsimp only [L2.KOf]
   refine' K34.Dn.mk' ?a ?l ?c ?k ?b
   (case a=>k_is); (case l=>k_is); (case c=>k_is); (case k=>k_is)
   (case b=>exact fun _ _ _ _ _ _=>K34.bA4 fun _ _ _ _=>rfl)
  have dDone:K34.Dn (L2.KOf KX) "done" K34.sDone ["bench","phials","row"]:=by
   dsimp only [L2.KOf]
   refine' K34.Dn.mk' ?a ?l ?c ?k ?b
   (case a=>k_is); (case l=>k_is); (case c=>k_is); (case k=>k_is)
   (case b=>exact fun _ _ _ _ _ _=>K34.bA3 fun _ _ _=>rfl)
  have dCell:K34.Dn (L2.KOf KX) "_law_cell_at" K34.sCell ["_law_script","_law_k"]:=by
   dsimp only [L2.KOf]
   refine' K34.Dn.mk' ?a ?l ?c ?k ?b
   (case a=>k_is); (case l=>k_is); (case c=>k_is); (case k=>k_is)
   (case b=>exact fun _ _ _ _ _ _=>K34.bA2 fun _ _=>rfl)
  have dMixed:K34.Dn (L2.KOf KX) "_law_mixed" K34.sMixed ["_law_cell","_law_k"]:=by
   dsimp only [L2.KOf]
   refine' K34.Dn.mk' ?a ?l ?c ?k ?b
   (case a=>k_is); (case l=>k_is); (case c=>k_is); (case k=>k_is)
   (case b=>exact fun _ _ _ _ _ _=>K34.bA2 fun _ _=>rfl)
  have dLowest:K34.Dn (L2.KOf KX) "_law_lowest" K34.sLowest ["_law_top","_law_bottom"]:=by
   dsimp only [L2.KOf]
   refine' K34.Dn.mk' ?a ?l ?c ?k ?b
   (case a=>k_is); (case l=>k_is); (case c=>k_is); (case k=>k_is)
   (case b=>exact fun _ _ _ _ _ _=>K34.bA2 fun _ _=>rfl)
  have dAdd:K34.Dn (L2.KOf KX) "_law_add" K34.sAdd ["_law_one","_law_other"]:=by
   dsimp only [L2.KOf]
   refine' K34.Dn.mk' ?a ?l ?c ?k ?b
   (case a=>k_is); (case l=>k_is); (case c=>k_is); (case k=>k_is)
   (case b=>exact fun _ _ _ _ _ _=>K34.bA2 fun _ _=>rfl)
  have dTake:K34.Dn (L2.KOf KX) "_law_take" K34.sTake ["_law_one","_law_other"]:=by
   dsimp only [L2.KOf]
   refine' K34.Dn.mk' ?a ?l ?c ?k ?b
   (case a=>k_is); (case l=>k_is); (case c=>k_is); (case k=>k_is)
   (case b=>exact fun _ _ _ _ _ _=>K34.bA2 fun _ _=>rfl)
  have dBy:K34.Dn (L2.KOf KX) "_law_by" K34.sBy ["_law_one","_law_other"]:=by
   dsimp only [L2.KOf]
   refine' K34.Dn.mk' ?a ?l ?c ?k ?b
   (case a=>k_is); (case l=>k_is); (case c=>k_is); (case k=>k_is)
   (case b=>exact fun _ _ _ _ _ _=>K34.bA2 fun _ _=>rfl)
  have dUnder:K34.Dn (L2.KOf KX) "_law_under" K34.sUnder ["_law_one","_law_other"]:=by
   dsimp only [L2.KOf]
   refine' K34.Dn.mk' ?a ?l ?c ?k ?b
   (case a=>k_is); (case l=>k_is); (case c=>k_is); (case k=>k_is)
   (case b=>exact fun _ _ _ _ _ _=>K34.bA2 fun _ _=>rfl)
  have dDigit:K34.Dn (L2.KOf KX) "_law_digit" K34.sDigit ["_law_left","_law_many"]:=by
   dsimp only [L2.KOf]
   refine' K34.Dn.mk' ?a ?l ?c ?k ?b
   (case a=>k_is); (case l=>k_is); (case c=>k_is); (case k=>k_is)
   (case b=>exact fun _ _ _ _ _ _=>K34.bA2 fun _ _=>rfl)
  have dNames:K34.Dn (L2.KOf KX) "_law_names" K34.sNames ["_law_left"]:=by
   dsimp only [L2.KOf]
   refine' K34.Dn.mk' ?a ?l ?c ?k ?b
   (case a=>k_is); (case l=>k_is); (case c=>k_is); (case k=>k_is)
   (case b=>exact fun _ _ _ _ _ _=>K34.bA1 fun _=>rfl)
  have dWares:K34.Dn (L2.KOf KX) "_law_wares" K34.sWares ["_law_cell"]:=by
   dsimp only [L2.KOf]
   refine' K34.Dn.mk' ?a ?l ?c ?k ?b
   (case a=>k_is); (case l=>k_is); (case c=>k_is); (case k=>k_is)
   (case b=>exact fun _ _ _ _ _ _=>K34.bA1 fun _=>rfl)
  have dSum:K34.Dn (L2.KOf KX) "_law_sum" K34.sSum ["_law_held"]:=by
   dsimp only [L2.KOf]
   refine' K34.Dn.mk' ?a ?l ?c ?k ?b
   (case a=>k_is); (case l=>k_is); (case c=>k_is); (case k=>k_is)
   (case b=>exact fun _ _ _ _ _ _=>K34.bA1 fun _=>rfl)
  have dInto:K34.Dn (L2.KOf KX) "_law_into" K34.sInto ["_law_bench_here","_law_state","_law_phial","_law_more","_law_names_here"]:=by
   dsimp only [L2.KOf]
   refine' K34.Dn.mk' ?a ?l ?c ?k ?b
   (case a=>k_is); (case l=>k_is); (case c=>k_is); (case k=>k_is)
   (case b=>exact fun _ _ _ _ _ _=>K34.bA5 fun _ _ _ _ _=>rfl)
  have dPoured:K34.Dn (L2.KOf KX) "_law_poured" K34.sPoured ["_law_bench_here","_law_state","_law_row_here"]:=by
   dsimp only [L2.KOf]
   refine' K34.Dn.mk' ?a ?l ?c ?k ?b
   (case a=>k_is); (case l=>k_is); (case c=>k_is); (case k=>k_is)
   (case b=>exact fun _ _ _ _ _ _=>K34.bA3 fun _ _ _=>rfl)
  have dAfter:K34.Dn (L2.KOf KX) "_law_after" K34.sAfter ["_law_bench_here","_law_state","_law_row_here"]:=by
   dsimp only [L2.KOf]
   refine' K34.Dn.mk' ?a ?l ?c ?k ?b
   (case a=>k_is); (case l=>k_is); (case c=>k_is); (case k=>k_is)
   (case b=>exact fun _ _ _ _ _ _=>K34.bA3 fun _ _ _=>rfl)
  have dMuch:K34.Dn (L2.KOf KX) "_law_much" K34.sMuch ["_law_number"]:=by
   dsimp only [L2.KOf]
   refine' K34.Dn.mk' ?a ?l ?c ?k ?b
   (case a=>k_is); (case l=>k_is); (case c=>k_is); (case k=>k_is)
   (case b=>exact fun _ _ _ _ _ _=>K34.bA1 fun _=>rfl)
  have dApart:K34.Dn (L2.KOf KX) "_law_apart" K34.sApart ["_law_wares_here","_law_cell","_law_often"]:=by
   dsimp only [L2.KOf]
   refine' K34.Dn.mk' ?a ?l ?c ?k ?b
   (case a=>k_is); (case l=>k_is); (case c=>k_is); (case k=>k_is)
   (case b=>exact fun _ _ _ _ _ _=>K34.bA3 fun _ _ _=>rfl)
  have dFree:K34.Dn (L2.KOf KX) "_law_free_bench" K34.sFree ["_law_script","_law_wares_here"]:=by
   dsimp only [L2.KOf]
   refine' K34.Dn.mk' ?a ?l ?c ?k ?b
   (case a=>k_is); (case l=>k_is); (case c=>k_is); (case k=>k_is)
   (case b=>exact fun _ _ _ _ _ _=>K34.bA2 fun _ _=>rfl)
  have dBench:K34.Dn (L2.KOf KX) "_law_bench" K34.sBench ["_law_script","_law_wares_here"]:=by
   dsimp only [L2.KOf]
   refine' K34.Dn.mk' ?a ?l ?c ?k ?b
   (case a=>k_is); (case l=>k_is); (case c=>k_is); (case k=>k_is)
   (case b=>exact fun _ _ _ _ _ _=>K34.bA2 fun _ _=>rfl)
  have dFreeRow:K34.Dn (L2.KOf KX) "_law_free_row" K34.sFreeRow ["_law_bench_here","_law_wares_here","_law_left"]:=by
   dsimp only [L2.KOf]
   refine' K34.Dn.mk' ?a ?l ?c ?k ?b
   (case a=>k_is); (case l=>k_is); (case c=>k_is); (case k=>k_is)
   (case b=>exact fun _ _ _ _ _ _=>K34.bA3 fun _ _ _=>rfl)
  have dRow:K34.Dn (L2.KOf KX) "_law_row" K34.sRow ["_law_bench_here","_law_wares_here","_law_script","_law_k"]:=by
   dsimp only [L2.KOf]
   refine' K34.Dn.mk' ?a ?l ?c ?k ?b
   (case a=>k_is); (case l=>k_is); (case c=>k_is); (case k=>k_is)
   (case b=>exact fun _ _ _ _ _ _=>K34.bA4 fun _ _ _ _=>rfl)
  have dPhials:K34.Dn (L2.KOf KX) "_law_phials" K34.sPhials ["_law_script","_law_bench_here","_law_wares_here","_law_start","_law_last"]:=by
   dsimp only [L2.KOf]
   refine' K34.Dn.mk' ?a ?l ?c ?k ?b
   (case a=>k_is); (case l=>k_is); (case c=>k_is); (case k=>k_is)
   (case b=>exact fun _ _ _ _ _ _=>K34.bA5 fun _ _ _ _ _=>rfl)
  have dWhole:K34.Dn (L2.KOf KX) "_law_whole" K34.sWhole ["_law_found"]:=by
   dsimp only [L2.KOf]
   refine' K34.Dn.mk' ?a ?l ?c ?k ?b
   (case a=>k_is); (case l=>k_is); (case c=>k_is); (case k=>k_is)
   (case b=>exact fun _ _ _ _ _ _=>K34.bA1 fun _=>rfl)
  have dKind:K34.Dn (L2.KOf KX) "_law_kind" K34.sKind ["_law_error"]:=by
   dsimp only [L2.KOf]
   refine' K34.Dn.mk' ?a ?l ?c ?k ?b
   (case a=>k_is); (case l=>k_is); (case c=>k_is); (case k=>k_is)
   (case b=>exact fun _ _ _ _ _ _=>K34.bA1 fun _=>rfl)
  have dRefused:K34.Dn (L2.KOf KX) "_law_refused" K34.sRefused ["_law_error","_law_due","_law_place"]:=by
   dsimp only [L2.KOf]
   refine' K34.Dn.mk' ?a ?l ?c ?k ?b
   (case a=>k_is); (case l=>k_is); (case c=>k_is); (case k=>k_is)
   (case b=>exact fun _ _ _ _ _ _=>K34.bA3 fun _ _ _=>rfl)
  have dPourW:K34.Dn (L2.KOf KX) "_law_pour" K34.sPourW ["_law_many","_law_script","_law_k"]:=by
   dsimp only [L2.KOf]
   refine' K34.Dn.mk' ?a ?l ?c ?k ?b
   (case a=>k_is); (case l=>k_is); (case c=>k_is); (case k=>k_is)
   (case b=>exact fun _ _ _ _ _ _=>K34.bA3 fun _ _ _=>rfl)
  have z0:Ar (L2.KOf KX) An "isinstance" = some none:=by
   dsimp only [L2.KOf]
   k_is
  have z1:Ar (L2.KOf KX) An "int" = some none:=by
   dsimp only [L2.KOf]
   k_is
  have z2:Ar (L2.KOf KX) An "bool" = some none:=by
   dsimp only [L2.KOf]
   k_is
  have z3:Ar (L2.KOf KX) An "tuple" = some none:=by
   dsimp only [L2.KOf]
   k_is
  have z4:Ar (L2.KOf KX) An "str" = some none:=by
   dsimp only [L2.KOf]
   k_is
  have z5:Ar (L2.KOf KX) An "len" = some none:=by
   dsimp only [L2.KOf]
   k_is
  have z6:Ar (L2.KOf KX) An "range" = some none:=by
   dsimp only [L2.KOf]
   k_is
  have z7:Ar (L2.KOf KX) An "min" = some none:=by
   dsimp only [L2.KOf]
   k_is
  have z8:Ar (L2.KOf KX) An "max" = some none:=by
   dsimp only [L2.KOf]
   k_is
  have z9:Ar (L2.KOf KX) An "abs" = some none:=by
   dsimp only [L2.KOf]
   k_is
  have z10:Ar (L2.KOf KX) An "list" = some none:=by
   dsimp only [L2.KOf]
   k_is
  have z11:Ar (L2.KOf KX) An "sorted" = some none:=by
   dsimp only [L2.KOf]
   k_is
  have z12:Ar (L2.KOf KX) An "zip" = some none:=by
   dsimp only [L2.KOf]
   k_is
  have z13:Ar (L2.KOf KX) An "set" = some none:=by
   dsimp only [L2.KOf]
   k_is
  have z14:Ar (L2.KOf KX) An "all" = some none:=by
   dsimp only [L2.KOf]
   k_is
  have z15:Ar (L2.KOf KX) An "enumerate" = some none:=by
   dsimp only [L2.KOf]
   k_is
  have z16:Ar (L2.KOf KX) An "ValueError" = some none:=by
   dsimp only [L2.KOf]
   k_is
  have z17:Ar (L2.KOf KX) An "dict" = some none:=by
   dsimp only [L2.KOf]
   k_is
  have nou : ∃ aN:Addr,K34.NouK (L2.KOf KX) aN:=by
   dsimp only [L2.KOf]
   refine' K34.NouK.mk' ?a ?l
   (case a=>k_is); (case l=>k_is)
  have one : ∃ aO:Addr,K34.OneK (L2.KOf KX) aO:=by
   dsimp only [L2.KOf]
   refine' K34.OneK.mk' ?a ?l
   (case a=>k_is); (case l=>k_is)
  have err : ∃ cP c0 c1 c2 c3 c4 c5 f0 f3 f4:Addr,K34.ErBK (L2.KOf KX) cP c0 c1 c2 c3 c4 c5 f0 f3 f4:=by
   dsimp only [L2.KOf]
   refine' K34.errb_mk ?mP ⟨?y1,?y2,?y3⟩ ⟨?b1,?b2,?b3⟩ (K34.er1_mk ?mz0 ?lkz0 ?niz0 (K34.ex2 ⟨⟨?xiz0,?xfz0,?xkz0,⟨?xaz0,?xbz0,?xcz0,?xdz0,?xez0,?xgz0⟩⟩,?saz0,?nnz0⟩ ?n2z0) ?sz0 ?vz0 (K34.fn_mkE ?lz0 ?cz0 ?kz0 ?hbz0)) (K34.er1_mk ?mz3 ?lkz3 ?niz3 (K34.ex3 ⟨⟨?xiz3,?xfz3,?xkz3,⟨?xaz3,?xbz3,?xcz3,?xdz3,?xez3,?xgz3⟩⟩,?saz3,?nnz3⟩ ?n2z3 ?n3z3) ?sz3 ?vz3 (K34.fn_mkE ?lz3 ?cz3 ?kz3 ?hbz3)) (K34.er1_mk ?mz4 ?lkz4 ?niz4 (K34.ex3 ⟨⟨?xiz4,?xfz4,?xkz4,⟨?xaz4,?xbz4,?xcz4,?xdz4,?xez4,?xgz4⟩⟩,?saz4,?nnz4⟩ ?n2z4 ?n3z4) ?sz4 ?vz4 (K34.fn_mkE ?lz4 ?cz4 ?kz4 ?hbz4)) ?m1 ?m2 ?m5 ?i00 ?i01 ?i02 ?i03 ?i04 ?i05 ?i30 ?i31 ?i32 ?i33 ?i34 ?i35 ?i40 ?i41 ?i42 ?i43 ?i44 ?i45
   (case mP=>k_is); (case y1=>k_is); (case y2=>(show PySem.W.isClsIn _ _=true; k_is)); (case y3=>k_is); (case b1=>k_is); (case b2=>k_is); (case b3=>k_is)
   (case m1=>k_is); (case m2=>k_is); (case m5=>k_is)
   (case mz0=>k_is); (case lkz0=>k_is); (case niz0=>k_is); (case xiz0=>first | kernel_rfl | rfl); (case xfz0=>k_is); (case xkz0=>k_is); (case xaz0=>k_is); (case xbz0=>k_is); (case xcz0=>k_is); (case xdz0=>k_is); (case xez0=>k_is); (case xgz0=>(show PySem.W.isClsIn _ _=true; k_is)); (case saz0=>k_is); (case nnz0=>k_is); (case n2z0=>k_is); (case sz0=>k_is); (case vz0=>kit_is); (case lz0=>k_is); (case cz0=>k_is); (case kz0=>k_is)
   (case hbz0=>exact fun _ _ _ _ _ _=>K34.bA3 fun _ _ _=>rfl)
   (case mz3=>k_is); (case lkz3=>k_is); (case niz3=>k_is); (case xiz3=>first | kernel_rfl | rfl); (case xfz3=>k_is); (case xkz3=>k_is); (case xaz3=>k_is); (case xbz3=>k_is); (case xcz3=>k_is); (case xdz3=>k_is); (case xez3=>k_is); (case xgz3=>(show PySem.W.isClsIn _ _=true; k_is)); (case saz3=>k_is); (case nnz3=>k_is); (case n2z3=>k_is); (case n3z3=>k_is); (case sz3=>k_is); (case vz3=>kit_is); (case lz3=>k_is); (case cz3=>k_is); (case kz3=>k_is)
   (case hbz3=>exact fun _ _ _ _ _ _=>K34.bA4 fun _ _ _ _=>rfl)
   (case mz4=>k_is); (case lkz4=>k_is); (case niz4=>k_is); (case xiz4=>first | kernel_rfl | rfl); (case xfz4=>k_is); (case xkz4=>k_is); (case xaz4=>k_is); (case xbz4=>k_is); (case xcz4=>k_is); (case xdz4=>k_is); (case xez4=>k_is); (case xgz4=>(show PySem.W.isClsIn _ _=true; k_is)); (case saz4=>k_is); (case nnz4=>k_is); (case n2z4=>k_is); (case n3z4=>k_is); (case sz4=>k_is); (case vz4=>kit_is); (case lz4=>k_is); (case cz4=>k_is); (case kz4=>k_is)
   (case hbz4=>exact fun _ _ _ _ _ _=>K34.bA4 fun _ _ _ _=>rfl)
   (case i00=>kit_is); (case i01=>kit_is); (case i02=>kit_is); (case i03=>kit_is); (case i04=>kit_is); (case i05=>kit_is); (case i30=>kit_is); (case i31=>kit_is); (case i32=>kit_is); (case i33=>kit_is); (case i34=>kit_is); (case i35=>kit_is); (case i40=>kit_is); (case i41=>kit_is); (case i42=>kit_is); (case i43=>kit_is); (case i44=>kit_is); (case i45=>kit_is)
  have forms : ∃ (aF:Addr) (f:Str->Option Addr),K34.FormsW w (L2.KOf KX) aF f:=by
   dsimp only [L2.KOf]
   refine' K34.forms_mk ?m ?lo ?l ?k (K34.sq3 ?s0) (K34.sq3 ?s1) (K34.sq3 ?s2) (K34.sq1 ?s3) (K34.sq1 ?s4)
   (case m=>k_is); (case lo=>decide); (case l=>k_is); (case k=>k_keys)
   (case s0=>k_is); (case s1=>k_is); (case s2=>k_is); (case s3=>k_is); (case s4=>k_is)
  have cls : ∃ CP:Addr,K34.AllC (L2.KOf KX) CP:=by
   dsimp only [L2.KOf]
   refine' K34.allc_mk ⟨?gPour,(K34.na3 ?n0Pour ?n1Pour ?n2Pour),⟨?pgPour,?hdPour,?poPour,?saPour⟩,?mkPour,?kcPour,K34.MDn.mk' ?IaPour ?IiPour ?IlPour ?IcPour ?IkPour ?IbPour,K34.MDn.mk' ?TaPour ?TiPour ?TlPour ?TcPour ?TkPour ?TbPour⟩
   (case gPour=>k_is); (case n0Pour=>k_is); (case n1Pour=>k_is); (case n2Pour=>k_is); (case pgPour=>k_is); (case hdPour=>k_is); (case poPour=>k_is); (case saPour=>k_is); (case mkPour=>k_is); (case kcPour=>k_is)
   (case IaPour=>k_is); (case IiPour=>k_is); (case IlPour=>k_is); (case IcPour=>k_is); (case IkPour=>k_is); (case TaPour=>k_is); (case TiPour=>k_is); (case TlPour=>k_is); (case TcPour=>k_is); (case TkPour=>k_is)
   (case IbPour=>exact fun _ _ _ _ _ _=>K34.bA4 fun _ _ _ _=>rfl)
   (case TbPour=>exact fun _ _ _ _ _ _=>K34.bA4 fun _ _ _ _=>rfl)
  have mM : ∃ tk:Tok,Ar (L2.KOf KX) An "MOST_LETTERS" = some (some (.int 8 tk)):=by
   dsimp only [L2.KOf]
   refine' K34.mst_mk ?a
   (case a=>k_is)
  have mL : ∃ tk:Tok,Ar (L2.KOf KX) An "LETTERS" = some (some (.str TM.LET tk)):=by
   dsimp only [L2.KOf]
   refine' K34.fgs_mk ?a ?e
   (case a=>k_is); (case e=>decide +kernel)
  refine' K34.all_mk KX G hmg ⟨dIsWh,dGcd,dLow,dIsAm,dPlus,dMinus,dTimes,dLess,dIsWare,dMixture,dWholeM,dTogether,dPairIn,dWithPh,dWithMore,dDeedAt,dIsRow,dOfKind,dDoneAt,dDone,dCell,dMixed,dLowest,dAdd,dTake,dBy,dUnder,dDigit,dNames,dWares,dSum,dInto,dPoured,dAfter,dMuch,dApart,dFree,dBench,dFreeRow,dRow,dPhials,dWhole,dKind,dRefused,dPourW,z0,z1,z2,z3,z4,z5,z6,z7,z8,z9,z10,z11,z12,z13,z14,z15,z16,z17,nou,one,err,forms,cls,mM,mL⟩ ?a4 ?l4 ?c4 ?k4
  (case a4=>k_is); (case l4=>k_is); (case c4=>k_is); (case k4=>k_is)
