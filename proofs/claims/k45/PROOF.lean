import PyProof.Rows.All
import Wide.All
import OpenK.AllK
import Wide.FinOn
import Lean
import PyProof.EqAt
import PyProof.EqKinds
import PyProof.TupleCall
import PySem.Challenge.RW_phialhouse_k45_too_few_phials
set_option Elab.async false
set_option linter.all false
set_option maxRecDepth 100000
set_option maxHeartbeats 4000000
open PySem renaming wpAny_bind→Aa, wpAny_pure→Ag, mainGlobals→As, Spec→AD, sizeLine→AE, Program→AF, FuncData→AM, Builtin→AU, starEach→AV, wpAny_newObj_type→Be, NameKind→Bj, wpAny_loadPart_at→Bl, PassesOwn→Bs, boot_len→BA, wpAny_holding→BE, wpAny_call_entry→BG, wpAny_mono→BH, SetTable→BN, compareOp→BO, wpAny_callSpecial?_slot→BR, mem_of_lookup→BW, bootBuiltins→Ck, wpAny_field→Ct, wpAny_Call_Name_kw→CB, wpAny_loadPart'→CI, codeAny_mono→CZ, wpAny_of_eq→Di, codeAny_call_builtin→Dj, wpAny_rule→Dp, codeAny_builtin→Dq, sizeLine_eq→Dx, keywordEach→Dy, codeAny→DE, binaryOp→DM, wpAny_passesOwn→DW, wpAny_truthy_bool→Ea, wpAny_setState_of→Eb, sysModules→Ed, attributeBase→Ee, wpAny_askSetting→El, wpAny_setEntries_of→Et, tupleKind_room_in1→EC, wpAny_call→EM, plainObj_wpAny_Assign_Attribute→EN, fits_of_scanBound→EO, Builtin→ES, wpAny_setField→EV, reprText→EW, wpAny_standAt→Fb, wpAny_attempt→Fc, plainId_quiet→Fe, wpAny_execs_nil→Fm, letOwnedTupleGo→Fn, wpAny_pyIter_tuple→Fp
open PySem.W renaming Frag→Ab, nsIn→AC, kitOne→AO, findIn→AZ, mg_none_of→Bf, fnOf→BD, keepIn→BK, emptyDict→Cj, mg_of→Cz, codeIn→CJ, kla_obj→CU, instObj→CV, callWith_K→Ej, noTabs→Ew
open List renaming length_map→Ac, getElem?_eq_getElem→Af, getElem?_eq_some_iff→Ah, size_toArray→Ai, getElem?_map→Aj, mem_singleton→Al, length_append→Aq, mem_cons_of_mem→Au, mem_append→Av, mem_cons→Aw, map_append→Ax, range→Ay, mem_cons_self→Az, mem_append_right→AH, length_cons→AI, mem_of_getElem?→AJ, append_nil→AL, replicate→AR, mem_append_left→AW, mem_map→AY, mem_filter→Ba, map_cons→Bb, append_assoc→Bo, filter_cons→Bp, getElem?_eq_none→Bu, mem_range→Bv, map_map→Bw, reverse_eq_nil_iff→BC, length_filter_le→BM, replicate_succ→BZ, length_eq_zero_iff→Cc, nodup_nil→Cp, drop_eq_getElem_cons→Cq, prefix_append→Cv, all_eq_true→Cy, dropLast_concat→CA, nodup_cons→CC, filterMap_cons→CD, length_take→CL, filter_append→CP, getElem?_append_left→CS, take_add_one→Dd, pairwise_map→De, length_range→Dg, ext_getElem?→Dh, map_congr_left→Dk, lookup→Dl, lookup_cons→Dr, take_of_length_le→Dw, reverse→DA, length→DB, append_inj_left'→DC, nodup_append→DR, getElem?_append_right→DU, getElem?_eq_none_iff→DY, take_length→Ef, drop_length→Eg, countP_cons→Eh, filter_sublist→Ei, prefix_rfl→Em, mem_filterMap→Eo, length_nil→Ep, find?_cons→Er, getElem?_set_self→Ex, flatten_cons→Ey, eraseIdxIfInBounds_toArray→Ez, take_append_drop→EE, Perm→EF, map_reverse→EI, getElem_mem→EJ, getElem?_set_ne→ET, dropLast_concat_getLast→EY, zip_cons_cons→Fg, mem_of_find?_eq_some→Fk, eraseIdx_cons_succ→Fq
open PySem.Heap renaming get?_push_of_some→Ae, get?_push_size→An, lt_size→Ar, get?_update_other→Bg, SameBut→Bq, get?_update_self→BB, get?_push_ne→Cm, size_push→CT, size_update→Ds, get?_none_of_le→EU
open PySem.F renaming plainAttrs_list→Ak, type_list_append→AA, slot_list_append→AB, type_list_pop→CF, slot_list_pop→CG, slot_tuple_iterator_next→DZ, attr_ValueError→Ek, called_set→Es, typeOf_object_class→ER, args_tuple_add_2→Ff, entry_tuple_add→Fo
open Nat renaming le_refl→Ao, ne_of_lt→AG, lt_of_lt_of_le→AX, le_trans→Bh, zero_le→Bi, le_succ→Cb, lt_irrefl→Ce, lt_succ_of_lt→Co, lt_succ_self→CO, lt_trans→DG, lt_of_le_of_lt→Fj
open Bool renaming false_ne_true→AK, false_eq_true→BS, and_eq_true→BV, eq_iff_iff→EZ
open PySem.Value renaming ref→AN, none→BI, builtin→Cn, type→Da
open PySem.PassesOwn renaming never→AQ
open Option.some renaming inj→AS
open Int renaming eq_ofNat_of_zero_le→Bc, toNat_natCast→Bz, toNat→BP, ediv_nonneg→DI, le_ediv_iff_mul_le→EA
open PySem.NameKind renaming free→Bd, cell→Cw
open Option renaming some→Bk, isSome_iff_exists→BY, map_eq_some_iff→Cf, map_some→EX
open PySem.SeqAt renaming EqAt→Bm
open PySem.Obj renaming mapSeq→Br, mapFields→DT, data_mapFields→Eu, isFreed_of_fields→EG
open PySem.Builtin.Range renaming rangeFitsLong→BF
open PyProof.Rows renaming slot_tuple_getitem→BJ, wpS_bind→BQ, callWith_type1→BX, boot_isinstance→Ci, wpS_pure→CN, IntsAre→DH
open Array renaming length_toList→BL, getElem?_eq_some_iff→Cg, getElem?_toList→Cr, perm_iff_toList_perm→DS, toArray_toList→DV, getElem?_eq_getElem→Fi
open Ne renaming symm→BU
open PySem.Heap.SameBut renaming update→Cd
open False renaming elim→Cu
open PySem.Paired renaming length→CH
open PySem.Calls renaming spliced_cons→CM, callWith_builtin→Du, spliced_nil→DJ, evalArgs_plain→EL
open ForInStep renaming yield→CQ
open PySem.Around renaming under_plainId→CY
open PySem.Builtin.SmallTypes renaming nextOf→Dm
open PySem.Builtin.Slice renaming slicePlaces→Dz, sliceAdjust→EH
open PySem.Builtin.Tuple renaming tupleExact→DD
open PySem.Str renaming ofString→DF
open PySem.Builtin.List renaming listTooLong→DK, listExtendWith→EB
open True renaming intro→DN
open PySem.SetTable renaming grown→DO, below→DQ
open LawfulBEq renaming eq_of_beq→ED
open PySem.Code renaming quiet_builtin→Fh
open PyProof.Rows.F renaming plain_set_update_loop→Fs
namespace L2
open PySem PySem.Spec PyProof.Rows
def zLn0:0<=AE:=by decide
def zLn1:1<=AE:=by decide
def zLn2:2<=AE:=by decide
def zLn3:3<=AE:=by decide
def zLn4:4<=AE:=by decide
def zLn5:5<=AE:=by decide
def zLn6:6<=AE:=by decide
abbrev Key:=Sum Int Str
def tW:Key->Value->Bool
 |.inl k,v=>Value.isInt k v
 |.inr x,v=>Value.isStrOf x v
def keyH (w:World):Key->Int
 |.inl k=>hashInt k
 |.inr x=>hashStr w x
def bR:∀ {k:Key} {v:Value},tW k v=true->(∃ i t,k=Sum.inl i/\v=Value.int i t)\/(∃ x t,k=Sum.inr x/\v=Value.str x t)
 |.inl i,v,h=>by
  obtain ⟨t,e⟩:=Value.isInt_shape (k:=i) (v:=v) h;exact .inl ⟨i,t,rfl,e⟩
 |.inr x,v,h=>by
  obtain ⟨t,e⟩:=Value.isStrOf_shape (x:=x) (v:=v) h;exact .inr ⟨x,t,rfl,e⟩
def xJ (i:Int)(t:Tok):tW (.inl i) (.int i t)=true:=by simp [tW,Value.isInt]
def xI (x:Str)(t:Tok):tW (.inr x) (.str x t)=true:=by simp [tW,Value.isStrOf]
theorem aF6 (a b:Int):decide ((Sum.inl a:Key)=Sum.inl b)=(a==b):=by
 by_cases e:a=b
 ·subst e;simp
 ·have h:¬ (Sum.inl a:Key)=Sum.inl b:=λq=>e (Sum.inl.inj q)
  rw [decide_eq_false h];exact (beq_eq_false_iff_ne.mpr e).symm
theorem aF3 (a b:Str):decide ((Sum.inr a:Key)=Sum.inr b)=decide (a=b):=by
 by_cases e:a=b
 ·subst e;simp
 ·have h:¬ (Sum.inr a:Key)=Sum.inr b:=λq=>e (Sum.inr.inj q)
  rw [decide_eq_false h,decide_eq_false e]
theorem aF5 (a:Int)(b:Str):decide ((Sum.inl a:Key)=Sum.inr b)=false:=decide_eq_false (λq=>nomatch q)
theorem aF4 (a:Str)(b:Int):decide ((Sum.inr a:Key)=Sum.inl b)=false:=decide_eq_false (λq=>nomatch q)
def cH (prog:AF)(w:World):PySem.KeyKind prog w Key where
 is:=tW
 hash:=keyH w
 inj:=λv a b ha hb=>by
  rcases bR ha with ⟨i,t,rfl,rfl⟩|⟨x,t,rfl,rfl⟩
  ·rcases bR hb with ⟨j,u,rfl,e⟩|⟨y,u,rfl,e⟩
   ·injection e with e1 _;rw [e1]
   ·exact nomatch e
  ·rcases bR hb with ⟨j,u,rfl,e⟩|⟨y,u,rfl,e⟩
   ·exact nomatch e
   ·injection e with e1 _;rw [e1]
 byValue:=λk v h=>by
  rcases bR h with ⟨i,t,rfl,rfl⟩|⟨x,t,rfl,rfl⟩<;>rfl
 pyHash:=λhv h=>by
  rcases bR hv with ⟨i,t,rfl,rfl⟩|⟨x,t,rfl,rfl⟩
  ·exact wpAny_pyHash_int h
  ·exact wpAny_pyHash_str h
 eqBool:=λhu hv h=>by
  rcases bR hu with ⟨i,t,rfl,rfl⟩|⟨x,t,rfl,rfl⟩
  ·rcases bR hv with ⟨j,u,rfl,rfl⟩|⟨y,u,rfl,rfl⟩
   ·rw [aF6] at h;exact wpAny_eqBool_int h
   ·rw [aF5] at h;exact Bm.int_str i t y u _ _ _ _ h
  ·rcases bR hv with ⟨j,u,rfl,rfl⟩|⟨y,u,rfl,rfl⟩
   ·rw [aF4] at h;exact Bm.str_int x t j u _ _ _ _ h
   ·rw [aF3] at h;exact wpAny_eqBool_str h
 «strs»:=λk x t v h=>by
  rcases bR h with ⟨i,u,rfl,e⟩|⟨y,u,rfl,e⟩
  ·exact nomatch e
  ·injection e with e1 _
   subst e1;cases v<;>rfl
def qD (prog:AF)(w:World)(i:Int)(t:Tok):(cH prog w).is (.inl i) (.int i t)=true:=xJ i t
def qC (prog:AF)(w:World)(x:Str)(t:Tok):(cH prog w).is (.inr x) (.str x t)=true:=xI x t
inductive V where
 |non|bl (b:Bool)|int (i:Int)|str (x:Str)|byt (b:Array UInt8)|flt (b:UInt64)|ref (a:Addr)|ty (n:String)
 deriving DecidableEq
def RelV:V->Value->Prop
 |.non,u=>u=BI
 |.bl b,u=>u=Value.bool b
 |.int i,u=>∃ t,u=Value.int i t
 |.str x,u=>∃ t,u=Value.str x t
 |.byt b,u=>∃ t,u=Value.bytes b t
 |.flt b,u=>∃ t,u=Value.float b t
 |.ref a,u=>u=AN a
 |.ty n,u=>u=Da n
abbrev Vals:List V->List Value->Prop:=Paired RelV
theorem Vals.length (r:Vals xs us):xs.length=us.length:=CH r
theorem Vals.get:∀ {xs:List V} {us:List Value} {i:Nat} {x:V},Vals xs us->xs[i]?=some x->∃ u,us[i]?=some u/\RelV x u
 |_,_,_,_,.nil,e=>by simp at e
 |_,_,0,_,.cons r _,e=>by simp at e;subst e;exact ⟨_,rfl,r⟩
 |_,_,i+1,x,.cons _ t,e=>by
  obtain ⟨u,h1,h2⟩:=Vals.get (i:=i) (x:=x) t (by simpa using e);exact ⟨u,by simpa using h1,h2⟩
theorem Vals.set {u:Value}(r:RelV x u):∀ {xs:List V} {us:List Value} (i:Nat),Vals xs us->Vals (xs.set i x) (us.set i u)
 |_,_,_,.nil=>.nil
 |_,_,0,.cons _ t=>.cons r t
 |_,_,i+1,.cons q t=>.cons q (Vals.set r i t)
theorem Vals.append:∀ {xs ys:List V} {us ws:List Value},Vals xs us->Vals ys ws->Vals (xs++ys) (us++ws)
 |_,_,_,_,.nil,s=>s
 |_,_,_,_,.cons r t,s=>.cons r (Vals.append t s)
theorem Vals.take:∀ {xs:List V} {us:List Value} (n:Nat),Vals xs us->Vals (xs.take n) (us.take n)
 |_,_,0,_=>.nil
 |_,_,_+1,.nil=>.nil
 |_,_,n+1,.cons r t=>.cons r (Vals.take n t)
theorem Vals.drop:∀ {xs:List V} {us:List Value} (n:Nat),Vals xs us->Vals (xs.drop n) (us.drop n)
 |_,_,0,r=>r
 |_,_,_+1,.nil=>.nil
 |_,_,n+1,.cons _ t=>Vals.drop n t
def RelO:Option V->Option Value->Prop
 |some v,some u=>RelV v u
 |none,none=>True
 |_,_=>False
def KV {κ:Type}:List (κ×V)->List (κ×Value)->Prop:=Paired λ(p:κ×V) (q:κ×Value)=>p.1=q.1/\RelV p.2 q.2
def kV:Key->V
 |.inl i=>.int i
 |.inr x=>.str x
inductive HO where
 |lst (xs:List V)
 |tup (xs:List V)
 |dK (kvs:List (Key×V))|dT (kvs:List (List Key×V))
 |set (S:Int->Bool) (n:Nat)
 |ins (C dx:Addr) (fs:List (Str×V))
 |own (x:Addr)
 |xd (fs:List (Str×V))
 |met (f x:Addr)
 |rng (lo hi:Int)
 |frz (o:Obj) (u:HO)
 |tbl (ps:Array Value)
 |ext (φ:Heap->Prop)
abbrev Hp:=Addr->Option HO
def upd (H:Hp)(a:Addr)(o:HO):Hp:=λb=>if b=a then some o else H b
theorem aB {a:Addr}:upd H a o a=some o:=by unfold upd;rw [if_pos rfl]
theorem aE {a b:Addr}(h:b≠a):upd H a o b=H b:=by unfold upd;rw [if_neg h]
theorem bG {H:Hp}{a b:Addr}{o u:HO}(h:H a=some o)(h':H b=some u)(d:o≠u):a≠b:=by
 intro e;subst e;rw [h] at h';exact d (AS h')
theorem aI {H:Hp}{a b:Addr}{o:HO}(h:H a=some o)(h':H b=none):a≠b:=by
 intro e;subst e;rw [h] at h';cases h'
def NoD (h:Heap)(a:Addr):Prop:=∃ o,h.get? a=some o/\o.dict=none
section
variable (P:AF)(w:World)
def ObjOk (H:Hp)(h:Heap)(a:Addr):HO->Prop
 |.lst xs=>xs.length<=AE/\∃ (its:List Value) (n:Nat),Vals xs its/\h.get? a=some { cls:=.type "list",data:=.seq its.toArray n }
 |.tup xs=>(xs.length<=AE/\NoD h a)/\∃ its:List Value,Vals xs its/\IsTup h a its.toArray
 |.dK kvs=>kvs.length<=AE/\(a==Ed)=false/\∃ vs,KV kvs vs/\h.DictOf (cH P w) a vs
 |.dT kvs=>kvs.length<=AE/\(a==Ed)=false/\∃ xs:List (List Key×Addr×Value),
   Paired (λ(p:List Key×V) (q:List Key×Addr×Value)=>p.1=q.1/\H q.2.1=some (.tup (p.1.map kV))/\RelV p.2 q.2.2) kvs xs /\
   ∃ o es ep,h.get? a=some o/\o.ExactDict/\o.data=.dict es ep/\es.toList=xs.map (entryOfKey (tupleKind (cH P w)))/\(xs.map (·.1)).Nodup
 |.set S n=>h.SetOf (intKind P w) a S n
 |.ins C dx fs=>H dx=some (.own a)/\fs.length<=1000/\dx≠a/\h.get? a=some (CV C dx) /\
   ∃ mA,h.Ns1 dx mA/\(∀ f,RelO (fs.lookup f) (mA f))/\PySem.Within mA (fs.map (·.1))
 |.own _=>∃ o,h.get? a=some o
 |.xd fs=>∃ mA,h.Ns1 a mA/\∀ f,RelO (fs.lookup f) (mA f)
 |.rng lo hi=>∃ t u v,h.get? a=some { cls:=.type "range",data:=.fields #[.int lo t,.int hi u,.int 1 v] }
 |.frz o u=>h.get? a=some o/\ObjOk H h a u
 |.tbl ps=>h.get? a=some { cls:=.none,data:=.fields ps }
 |.met f x=>h.get? a=some (PySem.W.methodObj (.ref f) (.ref x))
 |.ext φ=>φ h/\(∃ o,h.get? a=some o)/\∀ h1 h2:Heap,φ h1->(∀ o,h1.get? a=some o->h2.get? a=some o)->φ h2
def HOk (H:Hp)(h:Heap):Prop:=∀ a o,H a=some o->ObjOk P w H h a o
end
section
variable {P:AF}{w:World}{H H':Hp}{h h':Heap}{a:Addr}{o:HO}
theorem ObjOk.lt (x:ObjOk P w H h a o):a<h.objs.size:=by
 cases o with
 |lst xs=>obtain ⟨_,_,_,_,e⟩:=x;exact Ar e
 |tup xs=>obtain ⟨_,_,_,p⟩:=x;exact p.lt
 |dK kvs=>obtain ⟨_,_,_,_,o,_,_,e,_⟩:=x;exact Ar e
 |dT kvs=>obtain ⟨_,_,_,_,o,_,_,e,_⟩:=x;exact Ar e
 |set S n=>obtain ⟨o,_,_,_,e,_⟩:=x;exact Ar e
 |ins C dx fs=>obtain ⟨_,_,_,e,_⟩:=x;exact Ar e
 |own y=>obtain ⟨_,e⟩:=x;exact Ar e
 |xd fs=>obtain ⟨_,⟨_,_,_,e,_⟩,_⟩:=x;exact Ar e
 |rng lo hi=>obtain ⟨_,_,_,e⟩:=x;exact Ar e
 |frz ob u=>obtain ⟨e,_⟩:=x;exact Ar e
 |tbl ps=>exact Ar (show h.get? a=some _ from x)
 |met f y=>exact Ar (show h.get? a=some _ from x)
 |ext φ=>obtain ⟨_,⟨_,e⟩,_⟩:=x;exact Ar e
theorem Paired.mapP {α β:Type}{F G:α->β->Prop}:∀ {l₁:List α} {l₂:List β},Paired F l₁ l₂->(∀ a b,F a b->G a b)->Paired G l₁ l₂
 |_,_,.nil,_=>.nil
 |_,_,.cons r t,f=>.cons (f _ _ r) (Paired.mapP t f)
def ObjOk.stay (x:ObjOk P w H h a o)(k:∀ b u,(b=a\/H b=some (.own a))->h.get? b=some u->h'.get? b=some u)
  (ho:∀ b,H b=some (.own a)->H' b=some (.own a)) (ht:∀ b xs,H b=some (.tup xs)->H' b=some (.tup xs)):ObjOk P w H' h' a o:=by
 induction o with
 |lst xs=>obtain ⟨z,its,n,r,e⟩:=x;exact ⟨z,its,n,r,k _ _ (.inl rfl) e⟩
 |tup xs=>obtain ⟨⟨z,o1,e1,d1⟩,its,r,ob,e,c⟩:=x;exact ⟨⟨z,o1,k _ _ (.inl rfl) e1,d1⟩,its,r,ob,k _ _ (.inl rfl) e,c⟩
 |dK kvs=>obtain ⟨z,y,vs,r,ob,es,ep,e,c⟩:=x;exact ⟨z,y,vs,r,ob,es,ep,k _ _ (.inl rfl) e,c⟩
 |dT kvs=>
  obtain ⟨z,y,xs,r,ob,es,ep,e,c⟩:=x;exact ⟨z,y,xs,Paired.mapP r λp q z=>⟨z.1,ht _ _ z.2.1,z.2.2⟩,ob,es,ep,k _ _ (.inl rfl) e,c⟩
 |set S n=>obtain ⟨ob,es,ep,t,e,c⟩:=x;exact ⟨ob,es,ep,t,k _ _ (.inl rfl) e,c⟩
 |ins C dx fs=>
  obtain ⟨d,z,ne,e,mA,⟨od,es,ep,e2,c⟩,r⟩:=x;exact ⟨ho _ d,z,ne,k _ _ (.inl rfl) e,mA,⟨od,es,ep,k _ _ (.inr d) e2,c⟩,r⟩
 |own y=>obtain ⟨ob,e⟩:=x;exact ⟨ob,k _ _ (.inl rfl) e⟩
 |xd fs=>obtain ⟨mA,⟨od,es,ep,e,c⟩,r⟩:=x;exact ⟨mA,⟨od,es,ep,k _ _ (.inl rfl) e,c⟩,r⟩
 |rng lo hi=>obtain ⟨t,u,v,e⟩:=x;exact ⟨t,u,v,k _ _ (.inl rfl) e⟩
 |frz ob u ih=>obtain ⟨e,q⟩:=x;exact ⟨k _ _ (.inl rfl) e,ih q⟩
 |tbl ps=>
  have e:h.get? a=some { cls:=.none,data:=.fields ps }:=x;show h'.get? a=some { cls:=.none,data:=.fields ps };exact k a _ (.inl rfl) e
 |met f y=>
  have e:h.get? a=some (PySem.W.methodObj (.ref f) (.ref y)):=x;show h'.get? a=some (PySem.W.methodObj (.ref f) (.ref y));exact k a _ (.inl rfl) e
 |ext φ=>obtain ⟨p,⟨o,e⟩,st⟩:=x;exact ⟨st _ _ p λo q=>k _ _ (.inl rfl) q,⟨o,k _ _ (.inl rfl) e⟩,st⟩
theorem HOk.lt (x:HOk P w H h)(e:H a=some o):a<h.objs.size:=(x a o e).lt
def HOk.fresh (x:HOk P w H h)(e:h.objs.size<=a):H a=none:=by
 cases q:H a with
 |none=>rfl
 |some u=>exact absurd (AX (x.lt q) e) (Ce _)
def HOk.kept (x:HOk P w H h)(k:∀ b u,h.get? b=some u->h'.get? b=some u):HOk P w H h':=λa o e=>
 (x a o e).stay (λb u _ q=>k b u q) (λ_ q=>q) λ_ _ q=>q
theorem HOk.laid (x:HOk P w H h)(k:∀ b u,h.get? b=some u->h'.get? b=some u)(hp:h.objs.size<=a)(new:ObjOk P w (upd H a o) h' a o):HOk P w (upd H a o) h':=λb u e=>by
 have hn:=x.fresh hp
 by_cases hb:b=a
 ·subst hb;rw [aB] at e;cases e;exact new
 ·rw [aE hb] at e
  exact (x b u e).stay (λc v _ q=>k c v q) (λc q=>by rw [aE (aI q hn)];exact q) λc xs q=>by rw [aE (aI q hn)];exact q
end
def Rd (H:Hp)(a:Addr)(u:HO):Prop:=H a=some u\/∃ o,H a=some (.frz o u)
def Rd.ok {a:Addr}{u:HO}(r:Rd H a u)(x:HOk P w H h):ObjOk P w H h a u:=by
 rcases r with r|⟨o,r⟩
 ·exact x a u r
 ·obtain ⟨_,q⟩:=x a _ r
  exact q
def Mut:Option HO->Prop
 |some (.lst _)=>True
 |some (.dK _)=>True
 |some (.dT _)=>True
 |some (.set _ _)=>True
 |some (.ins _ _ _)=>True
 |some (.ext _)=>True
 |_=>False
section
variable {P:AF}{w:World}{H:Hp}{h h':Heap}{x e:Addr}{o':HO}
def HOk.write (ok:HOk P w H h)(mu:Mut (H x))(he:e=x\/H e=some (.own x))(k:∀ b u,b≠e->h.get? b=some u->h'.get? b=some u)(heo:∃ u,h'.get? e=some u)
  (new:ObjOk P w (upd H x o') h' x o'):HOk P w (upd H x o') h':=λb u q=>by
 have nown:∀ c y,H c=some (.own y)->c≠x:=λc y r z=>by subst z;rw [r] at mu;exact mu
 have ntup:∀ c xs,H c=some (.tup xs)->c≠x:=λc xs r z=>by subst z;rw [r] at mu;exact mu
 by_cases hb:b=x
 ·subst hb;rw [aB] at q;cases q;exact new
 ·rw [aE hb] at q
  by_cases hbe:b=e
  ·have q':H b=some (.own x):=by
    rcases he with z|z
    ·exact absurd (hbe.trans z) hb
    ·rw [hbe];exact z
   rw [q] at q';cases q';obtain ⟨v,hv⟩:=heo;exact ⟨v,by rw [hbe];exact hv⟩
  ·refine (ok b u q).stay (λc v hc r=>k c v ?_ r) (λc r=>by rw [aE (nown c b r)];exact r) λc xs r=>by rw [aE (ntup c xs r)];exact r
   rcases hc with rfl|hc
   ·exact hbe
   ·rintro rfl
    rcases he with z|z
    ·exact nown c b hc z
    ·rw [hc] at z;cases z;exact hb rfl
end
structure Un (fs ex:List Addr)(H H':Hp)(h h':Heap):Prop where
 keep:∀ b o,h.get? b=some o->H b=none->b∉fs->b∉ex->h'.get? b=some o
 slot:∀ b o,h.get? b=some o->H b=none->b∈fs->b∉ex->∃ sl,h'.get? b=some { o with slots:=sl }
 free:∀ b o,h.get? b=some o->H b=none->b∉ex->H' b=none
 there:∀ b o,h.get? b=some o->b∉ex->∃ o',h'.get? b=some o'
 tups:∀ b xs,H b=some (.tup xs)->H' b=some (.tup xs)
 frzs:∀ b o u,H b=some (.frz o u)->H' b=some (.frz o u)
 tbls:∀ b ps,H b=some (.tbl ps)->∃ more,H' b=some (.tbl (ps++more))
section
variable {fs fs' ex ex':List Addr}{H H1 H2:Hp}{h h1 h2 h':Heap}{a x e:Addr}{o:HO}
theorem Un.any (u:Un fs ex H H1 h h1){b:Addr}(q:h.get? b=some ob)(n:H b=none)(hx:b∉ex):∃ sl,h1.get? b=some { ob with slots:=sl }:=by
 by_cases hb:b∈fs
 ·exact u.slot b ob q n hb hx
 ·exact ⟨ob.slots,u.keep b ob q n hb hx⟩
def Un.kept (k:∀ b u,h.get? b=some u->h'.get? b=some u):Un fs ex H H h h':=
 ⟨λb ob q _ _ _=>k b ob q,λb ob q _ _ _=>⟨ob.slots,k b ob q⟩,λ_ _ _ n _=>n,λb ob q _=>⟨ob,k b ob q⟩,λ_ _ q=>q,λ_ _ _ q=>q,λ_ ps q=>⟨#[],by rw [q];simp⟩⟩
def Un.refl:Un fs ex H H h h:=Un.kept λ_ _ q=>q
theorem Un.laid (k:∀ b u,h.get? b=some u->h'.get? b=some u)(hp:h.objs.size<=a)(hn:H a=none):Un fs ex H (upd H a o) h h' where
 keep:=λb u q _ _ _=>k b u q
 slot:=λb u q _ _ _=>⟨u.slots,k b u q⟩
 free:=λb u q n _=>by rw [aE (AG (AX (Ar q) hp))];exact n
 there:=λb u q _=>⟨u,k b u q⟩
 tups:=λb xs q=>by rw [aE (aI q hn)];exact q
 frzs:=λb u xs q=>by rw [aE (aI q hn)];exact q
 tbls:=λb ps q=>⟨#[],by rw [aE (aI q hn),q];simp⟩
def Un.write (mu:Mut (H x))(he:e=x\/H e=some (.own x))(k:∀ b u,b≠e->h.get? b=some u->h'.get? b=some u)(heo:∃ u,h'.get? e=some u):Un fs ex H (upd H x o) h h':=by
 have hx:∀ b,H b=none->b≠x:=λb n z=>by subst z;rw [n] at mu;exact mu
 have hb:∀ b,H b=none->b≠e:=λb n z=>by
  subst z
  rcases he with r|r
  ·exact hx b n r
  ·rw [n] at r;cases r
 have hm:∀ b u,H b=some u->¬ Mut (some u)->b≠x:=λb u q nm z=>by subst z;rw [q] at mu;exact nm mu
 refine ⟨λb u q n _ _=>k b u (hb b n) q,λb u q n _ _=>⟨u.slots,k b u (hb b n) q⟩,λb u q n _=>by rw [aE (hx b n)];exact n,λb u q _=>?_,
  λb xs q=>by rw [aE (hm b _ q λz=>z)];exact q,λb u xs q=>by rw [aE (hm b _ q λz=>z)];exact q,λb ps q=>⟨#[],by rw [aE (hm b _ q λz=>z),q];simp⟩⟩
 by_cases hbe:b=e
 ·subst hbe;exact heo
 ·exact ⟨u,k b u hbe q⟩
end
def trk (h:Heap)(H:Hp):List Addr:=(Ay h.objs.size).filter λa=>(H a).isSome
def hidT (h:Heap)(H:Hp):Heap:=PySem.W.hideAll h (trk h H)
def xT (h:Heap)(H:Hp):(hidT h H).objs.size=h.objs.size:=PySem.W.hideAll_size _ _
def aA4 {b:Addr}(e:h.get? b=some o)(n:H b=none):(hidT h H).get? b=some o:=
 PySem.W.hideAll_get _ e λhm=>by
  have q:(H b).isSome=true:=(Ba.mp hm).2;rw [n] at q;simp at q
def aDy {b:Addr}(e:(hidT h H).get? b=some o):h.get? b=some o/\H b=none:=by
 have e':h.get? b=some o:=PySem.W.of_hideAll (trk h H) e;refine ⟨e',?_⟩;cases q:H b with
 |none=>rfl
 |some x=>
  have hm:b∈trk h H:=Ba.mpr ⟨Bv.mpr (Ar e'),by simp [q]⟩;have z:(hidT h H).get? b=none:=PySem.W.hideAll_none (trk h H) hm;rw [z] at e;cases e
def jV (g h:Heap)(L:Addr):List (Addr×Obj):=(Ay h.objs.size).filterMap λa=>if a=L\/(g.get? a).isSome=true then none else (h.get? a).map λo=>(a,o)
def qE {L a:Addr}(h1:a≠L)(h2:g.get? a=none)(h3:h.get? a=some o):(a,o)∈jV g h L:=
 Eo.mpr ⟨a,Bv.mpr (Ar h3),by simp [h1,h2,h3]⟩
def jW (hp:p∈jV g h L):p.1≠L/\g.get? p.1=none/\h.get? p.1=some p.2:=by
 obtain ⟨b,_,e⟩:=Eo.mp hp;split at e
 ·cases e
 ·rename_i hn
  cases q:h.get? b with
  |none=>rw [q] at e;simp at e
  |some u=>
   rw [q] at e;simp only [EX,Bk.injEq] at e;subst e;refine ⟨λz=>hn (.inl z),?_,q⟩;show g.get? b=none;cases r:g.get? b with
   |none=>rfl
   |some v=>exact (hn (.inr (by simp [r]))).elim
def rest (g h:Heap)(L d:Addr):List (Addr×Obj):=(jV g h L).filter λp=>decide (p.1≠d)
def aAx :News g L h (jV g h L):=λp hp=>let ⟨a,b,c⟩:=jW hp;⟨c,a,b⟩
structure Mod (K:Ab)(mg:Str->Option Value)(base:Heap):Prop where
 kin:K.In base
 glob:base.Ns As mg
 blt:∃ mb,base.Ns builtinsNs mb/\∀ x:Str,x ≠ "__name__" -> mb x=Ck x
 nolimit:base.NoLimit
structure Cx where
 prog:AF
 w:World
 K:Ab
 mg:Str->Option Value
 base:Heap
 A:Around
 N:List Str
 s₀:Shared
 H₀:Hp
 env:Env
 outer:List Env
 stack:List Env
 ex:List Addr
 fn:Str->Bool
 calm:Bool
 pn:List (Addr×Obj)
 xe:Value->Shared->Prop
def frs (l:List Env):List Addr:=l.filterMap (·.frame)
abbrev Cx.fs (X:Cx):List Addr:=frs X.outer
def Vis (sc:Scope)(x:Str):Prop:=sc.names.lookup x=some .local\/sc.names.lookup x=some .cell\/sc.names.lookup x=some .free
def Loc (sc:Scope)(x:Str):Prop:=sc.names.lookup x=some .local\/sc.names.lookup x=some .cell
def Look (env:Env)(h:Heap)(m:Str->Option Value)(x:Str)(u:Value):Prop:=
 (env.kindOf x=some .local/\m x=some u)\/((env.kindOf x=some .cell\/env.kindOf x=some .free)/\∃ c,env.cells.lookup x=some c/\h.IsCell c (some u))
structure Cx.Ok (X:Cx):Prop where
 mod:Mod X.K X.mg X.base
 kind:X.env.scope.kind=.function
 glob:X.env.globals=As
 blt:X.env.builtins=builtinsNs
 above:X.s₀.heap.objs.size<=X.env.locals
 inj:∀ x y c,X.env.cells.lookup x=some c->X.env.cells.lookup y=some c->x=y
 has:∀ x,(X.env.kindOf x=some .cell\/X.env.kindOf x=some .free)->∃ c,X.env.cells.lookup x=some c
 cab:∀ x c,X.fn x=true->X.env.cells.lookup x=some c->X.s₀.heap.objs.size<=c
 hd:X.calm=true->X.A.handled=none
 frames:X.A.frames=some X.stack
 stk:X.stack=X.outer\/(X.stack=X.env::X.outer/\X.env.frame=some X.env.locals)
 exf:∀ b∈X.ex,b≠X.env.locals/\∀ x c,X.env.cells.lookup x=some c->c≠b
 bs:∀ b o,X.base.get? b=some o->X.s₀.heap.get? b=some o/\X.H₀ b=none
 bsz:X.base.objs.size<=X.s₀.heap.objs.size
 noex:∀ b o,X.base.get? b=some o->b∉X.ex
 exfs:∀ b∈X.ex,b∉X.fs
 funs:X.s₀.heap.FunFrames X.base X.outer
 frf:∀ b∈X.fs,X.H₀ b=none
structure Inv (X:Cx)(pins:List (Addr×Obj))(σ:List (Option V))(H:Hp)(s:Shared):Prop where
 ok:X.Ok
 os:s.os=X.s₀.os
 bare:AllBare s.gens
 base:Un X.fs X.ex X.H₀ H X.s₀.heap s.heap
 loc:∃ m,s.heap.Ns X.env.locals m/\∀ (i:Nat) (x:Str) (v:V),X.N[i]?=some x->σ[i]?=some (some v)->Vis X.env.scope x->∃ u,RelV v u/\Look X.env s.heap m x u
 cell:∀ x c,X.env.cells.lookup x=some c->∃ v,s.heap.IsCell c v
 free:H X.env.locals=none
 freeC:∀ x c,X.env.cells.lookup x=some c->H c=none
 pin:∀ p∈X.pn++pins,s.heap.get? p.1=some p.2/\H p.1=none/\p.1≠X.env.locals/\p.1∉X.fs/\∀ v,p.2.data≠.cell v
 hok:HOk X.prog X.w H s.heap
 len:σ.length=X.N.length
section
variable {X:Cx}{pins:List (Addr×Obj)}{σ:List (Option V)}{H H':Hp}{s:Shared}{h':Heap}
def Cx.Ok.nofr (ok:X.Ok){b:Addr}(e:X.base.get? b=some o):b∉X.fs:=λhb=>by
 have:=(ok.funs.mem hb).1;rw [e] at this;cases this
def Inv.bs (I:Inv X pins σ H s):∀ b o,X.base.get? b=some o->s.heap.get? b=some o/\H b=none:=λb o e=>
 ⟨I.base.keep b o (I.ok.bs b o e).1 (I.ok.bs b o e).2 (I.ok.nofr e) (I.ok.noex b o e),I.base.free b o (I.ok.bs b o e).1 (I.ok.bs b o e).2 (I.ok.noex b o e)⟩
def Inv.bk (I:Inv X pins σ H s):∀ b o,X.base.get? b=some o->s.heap.get? b=some o:=λb o e=>(I.bs b o e).1
def Inv.mod (I:Inv X pins σ H s):Mod X.K X.mg X.base:=I.ok.mod
def Inv.kIn (I:Inv X pins σ H s):X.K.In s.heap:=I.ok.mod.kin.keeps I.bk
def Inv.nolimit (I:Inv X pins σ H s):s.heap.NoLimit:=I.ok.mod.nolimit.keeps I.bk
theorem Inv.fr (I:Inv X pins σ H s):∃ m,Fr X.base X.env.locals s.heap m:=
 let ⟨m,hn,_⟩:=I.loc
 ⟨m,hn,I.bk,Bh I.ok.bsz I.ok.above⟩
theorem Inv.lt (I:Inv X pins σ H s):X.env.locals<s.heap.objs.size:=let ⟨_,hn,_⟩:=I.loc;hn.lt
theorem Inv.sz (I:Inv X pins σ H s):X.s₀.heap.objs.size<=s.heap.objs.size:=Bh I.ok.above (Nat.le_of_lt I.lt)
def Inv.nofs (I:Inv X pins σ H s){a:Addr}(h:s.heap.objs.size<=a):a∉X.fs:=λhb=>by
 obtain ⟨_,o,ho,_⟩:=I.ok.funs.mem hb;exact absurd (AX (Ar ho) (Bh I.sz h)) (Ce _)
def Inv.cne (I:Inv X pins σ H s):∀ x c,X.env.cells.lookup x=some c->c≠X.env.locals:=λx c e z=>by
 obtain ⟨v,o,ho,hd⟩:=I.cell x c e;obtain ⟨m,⟨o',es,ep,ho',hd',_⟩,_⟩:=I.loc;rw [z,ho'] at ho;cases ho;rw [hd'] at hd;cases hd
def Inv.funs (I:Inv X pins σ H s):s.heap.FunFrames X.base X.outer:=by
 have all:∀ (l:List Env),(∀ b∈frs l,b∈X.fs)->X.s₀.heap.FunFrames X.base l->s.heap.FunFrames X.base l:=by
  intro l
  induction l with
  |nil=>intro _ _;trivial
  |cons env r ih=>
   intro hs hl;obtain ⟨hk,⟨L,o,hf,hn,ho,hd⟩,hr⟩:=hl;have hL:L∈X.fs:=hs L (by unfold frs;rw [CD,hf];exact Az);obtain ⟨sl,e⟩:=I.base.slot L o ho (I.ok.frf L hL) hL λz=>I.ok.exfs L z hL;exact ⟨hk,⟨L,_,hf,hn,e,hd⟩,ih (λb hb=>hs b (by unfold frs;rw [CD,hf];exact Au _ hb)) hr⟩
 exact all X.outer (λ_ hb=>hb) I.ok.funs
def Inv.stack (I:Inv X pins σ H s):s.heap.FunFrames X.base X.stack:=by
 rcases I.ok.stk with e|⟨e,hf⟩
 ·rw [e];exact I.funs
 ·rw [e]
  obtain ⟨m,hn,_⟩:=I.loc;refine .cons (by rw [I.ok.kind];decide) hf hn ?_ I.funs;exact EU (Bh I.ok.bsz I.ok.above)
def Inv.stkSub (I:Inv X pins σ H s):∀ b∈frs X.stack,b∈X.env.locals::X.fs:=λb hb=>by
 rcases I.ok.stk with e|⟨e,hf⟩
 ·rw [e] at hb;exact Au _ hb
 ·rw [e] at hb
  unfold frs at hb;rw [CD,hf] at hb;exact hb
def Inv.stkFree (I:Inv X pins σ H s):∀ b∈frs X.stack,H b=none:=λb hb=>by
 rcases Aw.mp (I.stkSub b hb) with e|hb
 ·rw [e];exact I.free
 ·obtain ⟨_,o,ho,_⟩:=I.ok.funs.mem hb
  exact I.base.free b o ho (I.ok.frf b hb) λz=>I.ok.exfs b z hb
def Inv.step {g':Array GenState}{t':Nat}{d':Drawn}{ch:List Addr}(I:Inv X pins σ H s)
  (hch:∀ b∈ch,(b∈X.ex\/X.s₀.heap.objs.size<=b)/\b≠X.env.locals/\(∀ x c,X.env.cells.lookup x=some c->c≠b)/\∀ p∈X.pn++pins,p.1≠b)
  (keep:∀ b o,b≠X.env.locals->b∉X.fs->b∉ch->s.heap.get? b=some o->H b=none->h'.get? b=some o)
  (slot:∀ b o,b≠X.env.locals->b∈X.fs->b∉ch->s.heap.get? b=some o->H b=none->∃ sl,h'.get? b=some { o with slots:=sl }) (free:∀ b o,b∉ch->s.heap.get? b=some o->H b=none->H' b=none)
  (there:∀ b o,b∉ch->s.heap.get? b=some o->∃ o',h'.get? b=some o')
  (tups:∀ b xs,H b=some (.tup xs)->H' b=some (.tup xs)) (frzs:∀ b o u,H b=some (.frz o u)->H' b=some (.frz o u)) (tbls:∀ b ps,H b=some (.tbl ps)->∃ more,H' b=some (.tbl (ps++more)))
  (ns:∀ m,s.heap.Ns X.env.locals m->h'.Ns X.env.locals m) (hok:HOk X.prog X.w H' h') (hg:AllBare g') :
  Inv X pins σ H' { s with heap:=h',gens:=g',drawn:=d',toks:=t' }:=by
 have neL:∀ b o,X.s₀.heap.get? b=some o->b≠X.env.locals:=λb o e=>AG (AX (Ar e) I.ok.above);have neC:∀ b o,X.s₀.heap.get? b=some o->b∉X.ex->b∉ch:=λb o e hx hb=>by
  rcases (hch b hb).1 with z|z
  ·exact hx z
  ·exact absurd (AX (Ar e) z) (Ce _)
 have cellK:∀ x c,X.env.cells.lookup x=some c->∀ v,s.heap.IsCell c v->h'.IsCell c v:=λx c e v ⟨o,ho,hd⟩=>by
  have nch:c∉ch:=λz=>(hch c z).2.2.1 x c e rfl
  by_cases hc:c∈X.fs
  ·obtain ⟨sl,q⟩:=slot c o (I.cne x c e) hc nch ho (I.freeC x c e)
   exact ⟨_,q,hd⟩
  ·exact ⟨o,keep c o (I.cne x c e) hc nch ho (I.freeC x c e),hd⟩
 refine ⟨I.ok,I.os,hg,⟨λb o e n hb hx=>?_,λb o e n hb hx=>?_,λb o e n hx=>?_,λb o e hx=>?_,λb xs e=>tups b xs (I.base.tups b xs e),λb o xs e=>frzs b o xs (I.base.frzs b o xs e),λb ps e=>?_⟩,?_,λx c e=>?_,?_,λx c e=>?_,λp hp=>?_,hok,I.len⟩
 ·exact keep b o (neL b o e) hb (neC b o e hx) (I.base.keep b o e n hb hx) (I.base.free b o e n hx)
 ·obtain ⟨sl,e1⟩:=I.base.slot b o e n hb hx
  obtain ⟨sl',e2⟩:=slot b _ (neL b o e) hb (neC b o e hx) e1 (I.base.free b o e n hx);exact ⟨sl',e2⟩
 ·obtain ⟨o',e1⟩:=I.base.there b o e hx
  exact free b o' (neC b o e hx) e1 (I.base.free b o e n hx)
 ·obtain ⟨o',e1⟩:=I.base.there b o e hx
  exact there b o' (neC b o e hx) e1
 ·obtain ⟨m1,e1⟩:=I.base.tbls b ps e
  obtain ⟨m2,e2⟩:=tbls b _ e1;exact ⟨m1++m2,by rw [e2,Array.append_assoc]⟩
 ·obtain ⟨m,hn,hl⟩:=I.loc
  refine ⟨m,ns m hn,λi x v e1 e2 e3=>?_⟩;obtain ⟨u,r,l⟩:=hl i x v e1 e2 e3;refine ⟨u,r,?_⟩
  rcases l with l|⟨k,c,e,z⟩
  ·exact .inl l
  ·exact .inr ⟨k,c,e,cellK x c e _ z⟩
 ·obtain ⟨v,z⟩:=I.cell x c e
  exact ⟨v,cellK x c e v z⟩
 ·obtain ⟨m,⟨o,_,_,ho,_⟩,_⟩:=I.loc
  exact free _ o (λz=>(hch _ z).2.1 rfl) ho I.free
 ·obtain ⟨v,o,ho,hd⟩:=I.cell x c e
  exact free c o (λz=>(hch c z).2.2.1 x c e rfl) ho (I.freeC x c e)
 ·obtain ⟨e,n,ne,nf,d⟩:=I.pin p hp
  have nch:p.1∉ch:=λz=>(hch p.1 z).2.2.2 p hp rfl;exact ⟨keep p.1 p.2 ne nf nch e n,free p.1 p.2 nch e n,ne,nf,d⟩
def Inv.un {t':Nat}(I:Inv X pins σ H s)(u:Un X.fs [] H H' s.heap h')(hok:HOk X.prog X.w H' h'):Inv X pins σ H' { s with heap:=h',toks:=t' }:=by
 obtain ⟨m,⟨o,es,ep,ho,r⟩,_⟩:=id I.loc;obtain ⟨sl,hL⟩:=u.any ho I.free (by simp);exact I.step (g':=s.gens) (d':=s.drawn) (ch:=[]) (λ_ z=>nomatch z) (λb o _ hb _ e n=>u.keep b o e n hb (by simp)) (λb o _ hb _ e n=>u.slot b o e n hb (by simp)) (λb o _ e n=>u.free b o e n (by simp)) (λb o _ e=>u.there b o e (by simp)) u.tups u.frzs u.tbls (λm' hm=>by
  obtain ⟨o',es',ep',ho',r'⟩:=hm;rw [ho] at ho';cases ho';exact ⟨_,es',ep',hL,r'⟩) hok I.bare
def Inv.call {g':Array GenState}{t':Nat}{d':Drawn}{ch:List Addr}(I:Inv X pins σ H s)(u:Un (frs X.stack) ch H H' s.heap h')(hok:HOk X.prog X.w H' h')(hg:AllBare g')
  (hch:∀ b∈ch,(b∈X.ex\/X.s₀.heap.objs.size<=b)/\b≠X.env.locals/\(∀ x c,X.env.cells.lookup x=some c->c≠b)/\∀ p∈X.pn++pins,p.1≠b) :
  Inv X pins σ H' { s with heap:=h',gens:=g',drawn:=d',toks:=t' }:=by
 obtain ⟨m,⟨o,es,ep,ho,r⟩,_⟩:=id I.loc;obtain ⟨sl,hL⟩:=u.any ho I.free λz=>(hch _ z).2.1 rfl;exact I.step (ch:=ch) hch (λb o hL hb hc e n=>u.keep b o e n (λz=>(Aw.mp (I.stkSub b z)).elim hL hb) hc) (λb o _ _ hc e n=>u.any e n hc) (λb o hc e n=>u.free b o e n hc) (λb o hc e=>u.there b o e hc) u.tups u.frzs u.tbls (λm' hm=>by
  obtain ⟨o',es',ep',ho',r'⟩:=hm;rw [ho] at ho';cases ho';exact ⟨_,es',ep',hL,r'⟩) hok hg
def Inv.turned {t':Nat}{it:Addr}(I:Inv X pins σ H s)(k:∀ b o,b≠it->s.heap.get? b=some o->h'.get? b=some o)(hn:H it=none)(hL:it≠X.env.locals)
  (h1:it∈X.ex\/X.s₀.heap.objs.size<=it) (h2:∀ x c,X.env.cells.lookup x=some c->c≠it) (h3:∀ p∈X.pn++pins,p.1≠it):Inv X pins σ H { s with heap:=h',toks:=t' }:=by
 have nit:∀ b u,H b=some u->b≠it:=λb u e z=>by rw [z,hn] at e;cases e
 refine I.step (g':=s.gens) (d':=s.drawn) (ch:=[it]) (λb hb=>?_) (λb o _ _ hc e _=>k b o (λz=>hc (by simp [z])) e) (λb o _ _ hc e _=>⟨o.slots,k b o (λz=>hc (by simp [z])) e⟩) (λ_ _ _ _ n=>n)
  (λb o hc e=>⟨o,k b o (λz=>hc (by simp [z])) e⟩) (λ_ _ e=>e) (λ_ _ _ e=>e) (λb ps e=>⟨#[],by rw [e];simp⟩) (λm hm=>?_) (λb u e=>?_) I.bare
 ·have e:b=it:=by simpa using hb
  subst e;exact ⟨h1,hL,h2,h3⟩
 ·obtain ⟨o,es,ep,ho,r⟩:=hm
  exact ⟨o,es,ep,k _ o (BU hL) ho,r⟩
 ·refine (I.hok b u e).stay (λc v hc q=>k c v ?_ q) (λ_ q=>q) λ_ _ q=>q
  rcases hc with z|z
  ·rw [z];exact nit b u e
  ·exact nit c _ z
def Inv.tok (I:Inv X pins σ H s)(t:Nat):Inv X pins σ H { s with toks:=t }:=I.un (h':=s.heap) (t':=t) Un.refl I.hok
def Inv.kept {t':Nat}(I:Inv X pins σ H s)(k:∀ b u,s.heap.get? b=some u->h'.get? b=some u):Inv X pins σ H { s with heap:=h',toks:=t' }:=I.un (Un.kept k) (I.hok.kept k)
theorem Inv.laid {a:Addr}{t':Nat}(I:Inv X pins σ H s)(k:∀ b u,s.heap.get? b=some u->h'.get? b=some u)(hp:s.heap.objs.size<=a)(new:ObjOk X.prog X.w (upd H a o) h' a o) :
  Inv X pins σ (upd H a o) { s with heap:=h',toks:=t' }:=I.un (Un.laid k hp (I.hok.fresh hp)) (I.hok.laid k hp new)
def Inv.write {t':Nat}(I:Inv X pins σ H s)(mu:Mut (H x))(he:e=x\/H e=some (.own x))(k:∀ b u,b≠e->s.heap.get? b=some u->h'.get? b=some u)(heo:∃ u,h'.get? e=some u)(new:ObjOk X.prog X.w (upd H x o) h' x o):Inv X pins σ (upd H x o) { s with heap:=h',toks:=t' }:=I.un (Un.write mu he k heo) (I.hok.write mu he k heo new)
def Inv.weak {σ':List (Option V)}(I:Inv X pins σ H s)(hl:σ'.length=σ.length)(w:∀ (i:Nat) v,σ'[i]?=some (some v)->σ[i]?=some (some v)):Inv X pins σ' H s:=
 ⟨I.ok,I.os,I.bare,I.base,let ⟨m,hn,hl'⟩:=I.loc;⟨m,hn,λi x v e1 e2 e3=>hl' i x v e1 (w i v e2) e3⟩,I.cell,I.free,I.freeC,I.pin,I.hok,hl.trans I.len⟩
def Inv.pins_of (I:Inv X pins σ H s)(h:∀ p∈pins',s.heap.get? p.1=some p.2/\H p.1=none/\p.1≠X.env.locals/\p.1∉X.fs/\∀ v,p.2.data≠.cell v):Inv X pins' σ H s:=
 ⟨I.ok,I.os,I.bare,I.base,I.loc,I.cell,I.free,I.freeC,λp hp=>(Av.mp hp).elim (λz=>I.pin p (AW _ z)) (h p),I.hok,I.len⟩
def lY {N:List Str}(hN:N.Nodup){i j:Nat}{x:Str}(a:N[i]?=some x)(b:N[j]?=some x):i=j:=by
 obtain ⟨h1,e1⟩:=Ah.mp a;obtain ⟨h2,e2⟩:=Ah.mp b;exact (List.getElem_inj hN).mp (e1.trans e2.symm)
def uV {M:Model}{A:Around}{E:Value->Shared->Prop}{i:Nat}{x:Str}{v:V}{u:Value}{Q:Unit->Shared->Prop}(I:Inv X pins σ H s)(hN:X.N.Nodup)(hi:X.N[i]?=some x)(hx:Loc X.env.scope x)(r:RelV v u)
  (h:∀ s',Inv X pins (σ.set i (some v)) H s'->(∃ a,Bq a s.heap s'.heap/\(a=X.env.locals\/X.env.cells.lookup x=some a))->Q () s') (hf:X.fn x=true\/X.env.scope.names.lookup x=some .local:=by first|exact .inl rfl|exact .inr rfl|assumption):wpAny M A (storeName X.env x u) Q E s:=by
 obtain ⟨m,hn,hl⟩:=id I.loc;have hcls:(X.env.scope.kind==.class||(X.env.scope.kind==.module&&X.env.locals != X.env.globals))=false:=by rw [I.ok.kind];rfl
 have hiσ:i<σ.length:=by rw [I.len];exact (Ah.mp hi).1
 have cne:=I.cne;have tracked:∀ {a:Addr} {h':Heap},(∃ o,s.heap.get? a=some o/\H a=none)->Bq a s.heap h'->HOk X.prog X.w H h':=λ{a h'} ha hs b ob e=>by
  obtain ⟨_,_,hfree⟩:=ha;refine (I.hok b ob e).stay (λc w' hc q=>(hs.2 c ?_).trans q) (λ_ q=>q) λ_ _ q=>q
  rintro rfl
  rcases hc with rfl|hc
  ·rw [hfree] at e;cases e
  ·rw [hfree] at hc;cases hc
 rcases hx with hk|hk
 ·refine wpAny_storeName_local hk hn (λh' hn' hs=>?_) hcls
  obtain ⟨oL,_,_,hoL,_⟩:=id hn;refine h _ ⟨I.ok,I.os,I.bare,⟨λb o e n hb hx=>?_,λb o e n hb hx=>?_,I.base.free,λb o e hx=>?_,I.base.tups,I.base.frzs,I.base.tbls⟩,⟨_,hn',λj y v' e1 e2 e3=>?_⟩,λy c e=>?_,I.free,I.freeC,λp hp=>?_,tracked ⟨oL,hoL,I.free⟩ hs,by simpa using I.len⟩ ⟨_,hs,.inl rfl⟩
  ·exact (hs.2 b (AG (AX (Ar e) I.ok.above))).trans (I.base.keep b o e n hb hx)
  ·obtain ⟨sl,e1⟩:=I.base.slot b o e n hb hx
   exact ⟨sl,(hs.2 b (AG (AX (Ar e) I.ok.above))).trans e1⟩
  ·obtain ⟨o',e1⟩:=I.base.there b o e hx
   exact ⟨o',(hs.2 b (AG (AX (Ar e) I.ok.above))).trans e1⟩
  ·by_cases hj:j=i
   ·subst hj
    rw [hi] at e1;cases e1;rw [Ex hiσ] at e2;cases e2;exact ⟨u,r,.inl ⟨hk,by simp⟩⟩
   ·rw [ET (BU hj)] at e2
    obtain ⟨u',r',q⟩:=hl j y v' e1 e2 e3;refine ⟨u',r',?_⟩
    rcases q with ⟨k,e⟩|⟨k,c,e,z⟩
    ·refine .inl ⟨k,?_⟩
     have:y≠x:=λe=>hj (lY hN e1 (e▸hi));simp [this,e]
    ·exact .inr ⟨k,c,e,z.sameBut hs (cne y c e)⟩
  ·obtain ⟨w',z⟩:=I.cell y c e
   exact ⟨w',z.sameBut hs (cne y c e)⟩
  ·obtain ⟨e,n,ne,nf,d⟩:=I.pin p hp
   exact ⟨(hs.2 p.1 ne).trans e,n,ne,nf,d⟩
 ·have hfn:X.fn x=true:=by
   rcases hf with z|z
   ·exact z
   ·rw [z] at hk;cases hk
  obtain ⟨c,hc⟩:=I.ok.has x (.inl hk);obtain ⟨w',z⟩:=I.cell x c hc;refine wpAny_storeName_cell I.ok.kind hk hc z (λh' hc' hs=>?_);obtain ⟨oc,hoc,hocd⟩:=id z;refine h { s with heap:=h' } ⟨I.ok,I.os,I.bare,⟨λb o e n hb hx=>?_,λb o e n hb hx=>?_,I.base.free,λb o e hx=>?_,I.base.tups,I.base.frzs,I.base.tbls⟩,⟨m,hn.sameBut hs (BU (cne x c hc)),λj y v' e1 e2 e3=>?_⟩,λy c' e=>?_,I.free,I.freeC,λp hp=>?_,tracked ⟨oc,hoc,I.freeC x c hc⟩ hs,by simpa using I.len⟩ ⟨c,hs,.inr hc⟩
  ·exact (hs.2 b (AG (AX (Ar e) (I.ok.cab x c hfn hc)))).trans (I.base.keep b o e n hb hx)
  ·obtain ⟨sl,e1⟩:=I.base.slot b o e n hb hx
   exact ⟨sl,(hs.2 b (AG (AX (Ar e) (I.ok.cab x c hfn hc)))).trans e1⟩
  ·obtain ⟨o',e1⟩:=I.base.there b o e hx
   exact ⟨o',(hs.2 b (AG (AX (Ar e) (I.ok.cab x c hfn hc)))).trans e1⟩
  ·by_cases hj:j=i
   ·subst hj
    rw [hi] at e1;cases e1;rw [Ex hiσ] at e2;cases e2;exact ⟨u,r,.inr ⟨.inl hk,c,hc,hc'⟩⟩
   ·rw [ET (BU hj)] at e2
    obtain ⟨u',r',q⟩:=hl j y v' e1 e2 e3;refine ⟨u',r',?_⟩
    rcases q with q|⟨k,c',e,z'⟩
    ·exact .inl q
    ·refine .inr ⟨k,c',e,z'.sameBut hs ?_⟩
     rintro rfl
     exact hj (lY hN e1 (I.ok.inj _ _ _ e hc▸hi))
  ·by_cases hcc:c'=c
   ·subst hcc;exact ⟨_,hc'⟩
   ·obtain ⟨w2,z2⟩:=I.cell y c' e
    exact ⟨w2,z2.sameBut hs hcc⟩
  ·obtain ⟨e,n,ne,nf,d⟩:=I.pin p hp
   refine ⟨(hs.2 p.1 ?_).trans e,n,ne,nf,d⟩;intro q;rw [q,hoc] at e;have q':oc=p.2:=AS e;exact d w' (by rw [<- q'];exact hocd)
def fR {i:Nat}{u:Value}(I:Inv X pins σ H s)(hN:X.N.Nodup)(hi:X.N[i]?=some x)(hx:Loc X.env.scope x)(r:RelV v u)(h:∀ s',Inv X pins (σ.set i (some v)) H s'->Q () s')(hf:X.fn x=true\/X.env.scope.names.lookup x=some .local:=by first|exact .inl rfl|exact .inr rfl|assumption):wpAny M A (storeName X.env x u) Q E s:=
 uV I hN hi hx r (λs' I' _=>h s' I') hf
def Inv.call' (I:Inv X pins σ H s)(ho:s'.os=s.os)(u:Un (frs X.stack) ch H H' s.heap s'.heap)(hok:HOk X.prog X.w H' s'.heap)(hg:AllBare s'.gens)(hch:∀ b∈ch,(b∈X.ex\/X.s₀.heap.objs.size<=b)/\b≠X.env.locals/\(∀ x c,X.env.cells.lookup x=some c->c≠b)/\∀ p∈X.pn++pins,p.1≠b):Inv X pins σ H' s':=by
 obtain ⟨h',g',d',t',o'⟩:=s';have e:o'=s.os:=ho;subst e;exact I.call (g':=g') (t':=t') (d':=d') u hok hg hch
end
abbrev XK:=Value->Option Addr->Hp->Prop
abbrev St:=List (Option V)
abbrev VK:=V->Hp->Prop
abbrev TE:=St->Hp->VK->Prop
abbrev TT:=St->Hp->(Bool->Hp->Prop)->Prop
abbrev TA:=St->Hp->(List V->Hp->Prop)->Prop
structure Ends where
 nx:St->Hp->Prop
 rt:VK
 bk:St->Hp->Prop:=λ_ _=>False
 ct:St->Hp->Prop:=λ_ _=>False
abbrev TS:=Ends->St->Hp->Prop
def EP (X:Cx)(pins:List (Addr×Obj))(σ:St)(Q:VK)(u:Value)(s':Shared):Prop:=∃ v H',Inv X pins σ H' s'/\RelV v u/\Q v H'
def TP (X:Cx)(pins:List (Addr×Obj))(σ:St)(Q:Bool->Hp->Prop)(b:Bool)(s':Shared):Prop:=∃ H',Inv X pins σ H' s'/\Q b H'
def AP (X:Cx)(pins:List (Addr×Obj))(σ:St)(Q:List V->Hp->Prop)(us:List Value)(s':Shared):Prop:=∃ vs H',Inv X pins σ H' s'/\Vals vs us/\Q vs H'
def SP (X:Cx)(pins:List (Addr×Obj))(D:Ends)(f:Flow)(s':Shared):Prop:=
 match f with
 |.next=>∃ σ' H',Inv X pins σ' H' s'/\D.nx σ' H'
 |.brk=>∃ σ' H',Inv X pins σ' H' s'/\D.bk σ' H'
 |.cont=>∃ σ' H',Inv X pins σ' H' s'/\D.ct σ' H'
 |.ret u=>∃ v σ' H',Inv X pins σ' H' s'/\RelV v u/\D.rt v H'
def PE (X:Cx)(e:Expr)(t:TE):Prop:=
 ∀ (pins:List (Addr×Obj)) (s:Shared) (σ:St) (H:Hp) (Q:VK),Inv X pins σ H s->t σ H Q->wpAny (model X.prog X.w) X.A (eval e X.env) (EP X pins σ Q) X.xe s
def PT (X:Cx)(e:Expr)(t:TT):Prop:=
 ∀ (pins:List (Addr×Obj)) (s:Shared) (σ:St) (H:Hp) (Q:Bool->Hp->Prop),Inv X pins σ H s->t σ H Q->wpAny (model X.prog X.w) X.A (isTrue e X.env (eval e X.env)) (TP X pins σ Q) X.xe s
def PW (X:Cx)(e:Expr)(t:TT):Prop:=
 ∀ (whole:Sem Value) (pins:List (Addr×Obj)) (s:Shared) (σ:St) (H:Hp) (Q:Bool->Hp->Prop),Inv X pins σ H s->t σ H Q->wpAny (model X.prog X.w) X.A (isTrue e X.env whole) (TP X pins σ Q) X.xe s
def PW.pt {t:TT}(h:PW X e t):PT X e t:=h _
def PA (X:Cx)(es:List Expr)(t:TA):Prop:=
 ∀ (pos:Pos) (pins:List (Addr×Obj)) (s:Shared) (σ:St) (H:Hp) (Q:List V->Hp->Prop),Inv X pins σ H s->t σ H Q->wpAny (model X.prog X.w) X.A (spliced (backTo pos (AV es X.env))) (AP X pins σ Q) X.xe s
def PS (X:Cx)(st:Stmt)(t:TS):Prop:=
 ∀ (pins:List (Addr×Obj)) (s:Shared) (σ:St) (H:Hp) (D:Ends),Inv X pins σ H s->t D σ H->wpAny (model X.prog X.w) X.A (exec st X.env) (SP X pins D) X.xe s
def PSs (X:Cx)(st:List Stmt)(t:TS):Prop:=
 ∀ (pins:List (Addr×Obj)) (s:Shared) (σ:St) (H:Hp) (D:Ends),Inv X pins σ H s->t D σ H->wpAny (model X.prog X.w) X.A (execs st X.env) (SP X pins D) X.xe s
def thn {α:Type}{t:Sem α}{Q Q':α->Shared->Prop}{M:Model}{A:Around}{E:Value->Shared->Prop}{s:Shared}(h:wpAny M A t Q E s)(hQ:∀ a s,Q a s->Q' a s):wpAny M A t Q' E s:=BH h hQ λ_ _ x=>x
section
variable {X:Cx}
def bin {a b:Expr}{ta tb:TE}(ha:PE X a ta)(hb:PE X b tb){pins:List (Addr×Obj)}{s:Shared}{σ:St}{H:Hp}{R:V->V->Hp->Prop}(I:Inv X pins σ H s)(h:ta σ H λx H1=>tb σ H1 λy H2=>R x y H2)
  {α:Type} {Q:α->Shared->Prop} {f:Value->Value->Sem α}
  (hf:∀ v u s2 x y H2,Inv X pins σ H2 s2->RelV x v->RelV y u->R x y H2->wpAny (model X.prog X.w) X.A (f v u) Q X.xe s2) :
  wpAny (model X.prog X.w) X.A (eval a X.env) (λv s₁=>wpAny (model X.prog X.w) X.A (eval b X.env) (λu s₂=>wpAny (model X.prog X.w) X.A (f v u) Q X.xe s₂) X.xe s₁) X.xe s:=by
 refine thn (ha pins s σ H _ I h) λv s1 ⟨x,H1,I1,r1,q1⟩=>?_;refine thn (hb pins s1 σ H1 _ I1 q1) λu s2 ⟨y,H2,I2,r2,q2⟩=>?_;exact hf v u s2 x y H2 I2 r1 r2 q2
def tVar (i:Nat):TE:=λσ H Q=>∃ v,σ[i]?=some (some v)/\Q v H
def tC (v:V):TE:=λ_ H Q=>Q v H
def vV {i:Nat}{pos:Pos}(hN:X.N[i]?=some x)(hv:Vis X.env.scope x)(hd:(x==("__debug__":Str))=false:=by decide)(hcd:(x==("__classdict__":Str))=false:=by decide):PE X (.Name x pos) (tVar i):=by
 intro pins s σ H Q I h;obtain ⟨v,e,h⟩:=h;obtain ⟨m,hn,hl⟩:=I.loc;obtain ⟨u,r,l⟩:=hl i x v hN e hv;have fin:EP X pins σ Q u s:=⟨v,H,I,r,h⟩
 rcases l with ⟨hk,hm⟩|⟨hk,c,hc,hcell⟩
 ·exact wpAny_Name (wpAny_loadName_local I.ok.kind hk hn hm fin) hd
 ·rcases hk with hk|hk
  ·exact wpAny_Name (wpAny_loadName_cell I.ok.kind hk hc hcell fin) hd
  ·exact wpAny_Name (wpAny_loadName_free I.ok.kind hk hc hcell fin hcd) hd
def aG {i j pos}:PE X (.Constant (.int i) j pos) (tC (.int i)):=λ_ _ _ H _ I h=>wpAny_Constant_int ⟨.int i,H,I.tok _,⟨_,rfl⟩,h⟩
def pY {b j pos}:PE X (.Constant (.bool b) j pos) (tC (.bl b)):=λ_ _ _ H _ I h=>Constant_bool ⟨.bl b,H,I,rfl,h⟩
def gZ {j pos}:PE X (.Constant .none j pos) (tC .non):=λ_ _ _ H _ I h=>Constant_none ⟨.non,H,I,rfl,h⟩
def bD {x j pos}:PE X (.Constant (.str x) j pos) (tC (.str x)):=λ_ _ _ H _ I h=>Calls.Constant_str ⟨.str x,H,I.tok _,⟨_,rfl⟩,h⟩
def Gl (X:Cx)(x:Str):Prop:=X.env.kindOf x=some .globalImplicit
def fN {s:Shared}{σ:St}{u:Value}{pos:Pos}(I:Inv X pins σ H s)(hg:Gl X x)(hm:X.mg x=some u)(h:Q u s)(hd:(x==("__debug__":Str))=false:=by decide):wpAny (model X.prog X.w) X.A (eval (.Name x pos) X.env) Q E s:=
 Calls.Name_function_global I.ok.kind hg (Calls.loadGlobal_global (by rw [I.ok.glob];exact I.mod.glob.keeps I.bk) hm h) hd
def fH {s:Shared}{σ:St}{u:Value}{pos:Pos}(I:Inv X pins σ H s)(hg:Gl X x)(hm:X.mg x=none)(hv:Ck x=some u)(h:Q u s)(hn:x ≠ "__name__":=by decide)(hd:(x==("__debug__":Str))=false:=by decide):wpAny (model X.prog X.w) X.A (eval (.Name x pos) X.env) Q E s:=by
 obtain ⟨mb,h1,h2⟩:=I.mod.blt;exact Calls.Name_function_global I.ok.kind hg (Calls.loadGlobal_builtin (by rw [I.ok.glob];exact I.mod.glob.keeps I.bk) hm (by rw [I.ok.blt];exact h1.keeps I.bk) ((h2 x hn).trans hv) h) hd
def eU {u:Value}{pos:Pos}(hg:Gl X x)(hm:X.mg x=some u)(r:RelV v u)(hd:(x==("__debug__":Str))=false:=by decide):PE X (.Name x pos) (tC v):=
 λ_ _ _ H _ I h=>fN I hg hm ⟨v,H,I,r,h⟩ hd
def gK {u:Value}{pos:Pos}(hg:Gl X x)(hm:X.mg x=none)(hv:Ck x=some u)(r:RelV v u)(hn:x ≠ "__name__":=by decide)(hd:(x==("__debug__":Str))=false:=by decide):PE X (.Name x pos) (tC v):=
 λ_ _ _ H _ I h=>fH I hg hm hv ⟨v,H,I,r,h⟩ hn hd
def t2I (ta tb:TE)(k:Int->Int->Hp->Prop):St->Hp->Prop:=λσ H=>ta σ H λx H1=>tb σ H1 λy H2=>∃ i j,x=.int i/\y=.int j/\k i j H2
def tAdd (ta tb:TE):TE:=λσ H Q=>t2I ta tb (λi j H2=>Q (.int (i+j)) H2) σ H
def tSub (ta tb:TE):TE:=λσ H Q=>t2I ta tb (λi j H2=>Q (.int (i-j)) H2) σ H
def tMul (ta tb:TE):TE:=λσ H Q=>t2I ta tb (λi j H2=>(-(2^64)<i/\i<2^64)/\Q (.int (i*j)) H2) σ H
variable {a b:Expr}{ta tb:TE}{pos:Pos}
def PC (X:Cx)(op:CmpOp)(a b:Expr)(t:TE):Prop:=
 ∀ (pins:List (Addr×Obj)) (s:Shared) (σ:St) (H:Hp) (Q:VK),Inv X pins σ H s->t σ H Q ->
  wpAny (model X.prog X.w) X.A (eval a X.env) (λv s₁=>wpAny (model X.prog X.w) X.A (eval b X.env) (λu s₂=>wpAny (model X.prog X.w) X.A (BO op v u) (EP X pins σ Q) X.xe s₂) X.xe s₁) X.xe s
def tCmp (p:Int->Int->Bool)(ta tb:TE):TE:=λσ H Q=>t2I ta tb (λi j H2=>Q (.bl (p i j)) H2) σ H
abbrev tLt:TE->TE->TE:=tCmp λi j=>decide (i<j)
abbrev tLe:TE->TE->TE:=tCmp λi j=>decide (i<=j)
abbrev tGt:TE->TE->TE:=tCmp λi j=>decide (j<i)
abbrev tGe:TE->TE->TE:=tCmp λi j=>decide (j<=i)
abbrev tEqI:TE->TE->TE:=tCmp λi j=>decide (i=j)
abbrev tNeI:TE->TE->TE:=tCmp λi j=>!decide (i=j)
def tIsN (ta:TE):TE:=λσ H Q=>ta σ H λx H1=>Q (.bl (decide (x=.non))) H1
def tNotN (ta:TE):TE:=λσ H Q=>ta σ H λx H1=>Q (.bl (!decide (x=.non))) H1
def tB (t:TE):TT:=λσ H Q=>t σ H λx H1=>∃ c,x=.bl c/\Q c H1
def aFl {op:CmpOp}{t:TE}(h:PC X op a b t)(h1:behindInMarks op b=false:=by first|exact nobehind _ (by decide) (by decide)|rfl):PT X (.Compare a [op] [b] pos) (tB t):=by
 intro pins s σ H Q I hw;refine wpAny_isTrue_Compare1 (thn (h pins s σ H _ I hw) λv s1 h1=>thn h1 λu s2 h2=>thn h2 λc s3 ⟨x,H1,I1,r1,q1⟩=>?_) h1;obtain ⟨d,rfl,q⟩:=q1;cases r1;exact Ea ⟨H1,I1,q⟩
def eP {e:Expr}{t:TE}(h:PE X e t)(he:∀ whole,isTrue e X.env whole=(do let v <- whole;standAt e.pos;holding [v] (truthy v)):=by intro _;rfl):PT X e (tB t):=by
 intro pins s σ H Q I hw;refine isTrue_plain (thn (h pins s σ H _ I hw) λv s1 ⟨x,H1,I1,r1,q1⟩=>?_) (he _);obtain ⟨d,rfl,q⟩:=q1;cases r1;exact Ea ⟨H1,I1,q⟩
variable {tA tB':TT}{rest:List Expr}
def tAnd (t u:TT):TT:=λσ H Q=>t σ H λc H1=>if c=true then u σ H1 Q else Q false H1
def tOr (t u:TT):TT:=λσ H Q=>t σ H λc H1=>if c=true then Q true H1 else u σ H1 Q
def tNot (t:TT):TT:=λσ H Q=>t σ H λc H1=>Q (!c) H1
def eS (ha:PT X a tA):PW X (.BoolOp .And [a] pos) tA:=by
 intro wh pins s σ H Q I h;refine isTrue_and (thn (ha pins s σ H Q I h) λc s1 e=>?_);cases c with
 |true=>exact isTrue_and_nil e
 |false=>exact e
def kK (ha:PT X a tA):PW X (.BoolOp .Or [a] pos) tA:=by
 intro wh pins s σ H Q I h;refine isTrue_or (thn (ha pins s σ H Q I h) λc s1 e=>?_);cases c with
 |false=>exact isTrue_or_nil e
 |true=>exact e
def gX (ha:PT X a tA)(hb:PW X (.BoolOp .And (b::rest) pos) tB'):PW X (.BoolOp .And (a::b::rest) pos) (tAnd tA tB'):=by
 intro wh pins s σ H Q I h;refine isTrue_and (thn (ha pins s σ H _ I h) λc s1 ⟨H1,I1,q1⟩=>?_);cases c with
 |true=>exact hb wh pins s1 σ H1 Q I1 q1
 |false=>exact ⟨H1,I1,q1⟩
def nG (ha:PT X a tA)(hb:PW X (.BoolOp .Or (b::rest) pos) tB'):PW X (.BoolOp .Or (a::b::rest) pos) (tOr tA tB'):=by
 intro wh pins s σ H Q I h;refine isTrue_or (thn (ha pins s σ H _ I h) λc s1 ⟨H1,I1,q1⟩=>?_);cases c with
 |true=>exact ⟨H1,I1,q1⟩
 |false=>exact hb wh pins s1 σ H1 Q I1 q1
def iW (ha:PT X a tA):PT X (.UnaryOp .Not a pos) (tNot tA):=by
 intro pins s σ H Q I h;exact isTrue_not (ha pins s σ H (λc H1=>Q (!c) H1) I h)
def aGz (ta tb:TE):TE:=λσ H Q=>ta σ H λx H1=>∃ c,x=.bl c/\if c=true then tb σ H1 Q else Q (.bl false) H1
def tOrV (ta tb:TE):TE:=λσ H Q=>ta σ H λx H1=>∃ c,x=.bl c/\if c=true then Q (.bl true) H1 else tb σ H1 Q
def aGr (ta:TE):TE:=λσ H Q=>ta σ H λx H1=>∃ c,x=.bl c/\Q (.bl (!c)) H1
def kO {op}{t:TE}(h:PE X a t):PE X (.BoolOp op [a] pos) t:=λpins s σ H Q I hw=>BoolOp_one (h pins s σ H Q I hw)
def hG (ha:PE X a ta)(hb:PE X (.BoolOp .And (b::rest) pos) tb):PE X (.BoolOp .And (a::b::rest) pos) (aGz ta tb):=by
 intro pins s σ H Q I h;refine BoolOp_and (thn (ha pins s σ H _ I h) λv s1 ⟨x,H1,I1,r1,q1⟩=>?_);obtain ⟨c,rfl,q1⟩:=q1;cases r1;refine Ea ?_;cases c with
 |true=>exact hb pins s1 σ H1 Q I1 q1
 |false=>exact ⟨.bl false,H1,I1,rfl,q1⟩
def zV (ha:PE X a ta)(hb:PE X (.BoolOp .Or (b::rest) pos) tb):PE X (.BoolOp .Or (a::b::rest) pos) (tOrV ta tb):=by
 intro pins s σ H Q I h;refine BoolOp_or (thn (ha pins s σ H _ I h) λv s1 ⟨x,H1,I1,r1,q1⟩=>?_);obtain ⟨c,rfl,q1⟩:=q1;cases r1;refine Ea ?_;cases c with
 |false=>exact hb pins s1 σ H1 Q I1 q1
 |true=>exact ⟨.bl true,H1,I1,rfl,q1⟩
def aFo (ha:PE X a ta):PE X (.UnaryOp .Not a pos) (aGr ta):=by
 intro pins s σ H Q I h;refine UnaryOp_ (thn (ha pins s σ H _ I h) λv s1 ⟨x,H1,I1,r1,q1⟩=>?_);obtain ⟨c,rfl,q1⟩:=q1;cases r1;exact not_of (Ea ⟨.bl (!c),H1,I1,rfl,q1⟩)
def tIf (t:TT)(ta tb:TE):TE:=λσ H Q=>t σ H λc H1=>if c=true then ta σ H1 Q else tb σ H1 Q
def rL {c:Expr}(hc:PT X c tA)(ha:PE X a ta)(hb:PE X b tb):PE X (.IfExp c a b pos) (tIf tA ta tb):=by
 intro pins s σ H Q I h;refine wpAny_IfExp (thn (hc pins s σ H _ I h) λd s1 ⟨H1,I1,q1⟩=>?_);cases d with
 |true=>exact ha pins s1 σ H1 Q I1 q1
 |false=>exact hb pins s1 σ H1 Q I1 q1
end
def SqL (K:Ab)(H:Hp)(a:Addr)(xs:List V):Prop:=
 Rd H a (.lst xs) \/
  ∃ (o:Obj) (its:Array Value) (n:Nat),K.lookup a=some o/\o.cls=.type "list" /\ o.dict=none/\o.data=.seq its n/\its.size<=AE/\Vals xs its.toList
def SqT (K:Ab)(H:Hp)(a:Addr)(xs:List V):Prop:=
 Rd H a (.tup xs) \/
  ∃ (o:Obj) (its:Array Value) (n:Nat),K.lookup a=some o/\o.cls=.type "tuple" /\ o.data=.seq its n/\its.size<=AE/\Vals xs its.toList
def absV:Value->Option V
 |.none=>some .non
 |.bool b=>some (.bl b)
 |.int i _=>some (.int i)
 |.str x _=>some (.str x)
 |.bytes b _=>some (.byt b)
 |.float b _=>some (.flt b)
 |.ref a=>some (.ref a)
 |.type n=>some (.ty n)
 |_=>none
def RelV.abs {u:Value}(r:RelV x u):absV u=some x:=by
 cases x with
 |non=>cases r;rfl
 |bl _=>cases r;rfl
 |int _=>obtain ⟨t,rfl⟩:=r;rfl
 |str _=>obtain ⟨t,rfl⟩:=r;rfl
 |byt _=>obtain ⟨t,rfl⟩:=r;rfl
 |flt _=>obtain ⟨t,rfl⟩:=r;rfl
 |ref _=>cases r;rfl
 |ty _=>cases r;rfl
theorem RelV.inj {u:Value}(r:RelV x u)(q:RelV y u):x=y:=AS (r.abs.symm.trans q.abs)
theorem Vals.inj:∀ {xs ys:List V} {us:List Value},Vals xs us->Vals ys us->xs=ys
 |_,_,_,.nil,.nil=>rfl
 |_,_,_,.cons r t,.cons r' t'=>by rw [r.inj r',Vals.inj t t']
section
variable {X:Cx}{pins:List (Addr×Obj)}{σ:St}{H:Hp}{s:Shared}{a:Addr}{xs ys:List V}
def SqL.of {K:Ab}(h:H a=some (.lst xs)):SqL K H a xs:=.inl (.inl h)
def SqT.of {K:Ab}(h:H a=some (.tup xs)):SqT K H a xs:=.inl (.inl h)
def Inv.list (I:Inv X pins σ H s)(h:SqL X.K H a xs):∃ its:List Value,Vals xs its/\PlainL s.heap a its.toArray/\xs.length<=AE:=by
 rcases h with h|⟨o,its,n,hk,hc,hd,hs,hz,r⟩
 ·obtain ⟨z,its,n,r,e⟩:=h.ok I.hok
  exact ⟨its,r,⟨_,n,e,rfl,rfl,rfl⟩,z⟩
 ·refine ⟨its.toList,r,⟨o,n,I.kIn a o hk,hc,hd,by simpa using hs⟩,?_⟩
  have e:=r.length;simp only [BL] at e;omega
def Inv.tuple (I:Inv X pins σ H s)(h:SqT X.K H a xs):∃ its:List Value,Vals xs its/\IsTup s.heap a its.toArray/\xs.length<=AE:=by
 rcases h with h|⟨o,its,n,hk,hc,hs,hz,r⟩
 ·obtain ⟨z,its,r,p⟩:=h.ok I.hok
  exact ⟨its,r,p,z.1⟩
 ·refine ⟨its.toList,r,⟨o,I.kIn a o hk,hc,n,by simpa using hs⟩,?_⟩
  have e:=r.length;simp only [BL] at e;omega
theorem Inv.list_inj (I:Inv X pins σ H s)(h:SqL X.K H a xs)(h':SqL X.K H a ys):xs=ys:=by
 obtain ⟨its,r,⟨o,n,e,_,_,d⟩,_⟩:=I.list h;obtain ⟨its',r',⟨o',n',e',_,_,d'⟩,_⟩:=I.list h';rw [e] at e';cases e';rw [d] at d';injection d' with d1 _;have:its=its':=by simpa using congrArg Array.toList d1
 subst this;exact r.inj r'
theorem Inv.tuple_inj (I:Inv X pins σ H s)(h:SqT X.K H a xs)(h':SqT X.K H a ys):xs=ys:=by
 obtain ⟨its,r,⟨o,e,_,n,d⟩,_⟩:=I.tuple h;obtain ⟨its',r',⟨o',e',_,n',d'⟩,_⟩:=I.tuple h';rw [e] at e';cases e';rw [d] at d';injection d' with d1 _;have:its=its':=by simpa using congrArg Array.toList d1
 subst this;exact r.inj r'
end
abbrev Cx.wish (X:Cx)(E:Value->Shared->Prop):Cx:={ X with xe:=E }
abbrev Cx.nox (X:Cx):Cx:=X.wish λ_ _=>False
def Cx.Ok.wish {X:Cx}(ok:X.Ok)(E:Value->Shared->Prop):(X.wish E).Ok:=
 ⟨ok.mod,ok.kind,ok.glob,ok.blt,ok.above,ok.inj,ok.has,ok.cab,ok.hd,ok.frames,ok.stk,ok.exf,ok.bs,ok.bsz,ok.noex,ok.exfs,ok.funs,ok.frf⟩
def Cx.Ok.unwish {X:Cx}{E:Value->Shared->Prop}(ok:(X.wish E).Ok):X.Ok:=
 ⟨ok.mod,ok.kind,ok.glob,ok.blt,ok.above,ok.inj,ok.has,ok.cab,ok.hd,ok.frames,ok.stk,ok.exf,ok.bs,ok.bsz,ok.noex,ok.exfs,ok.funs,ok.frf⟩
section
variable {X:Cx}{pins:List (Addr×Obj)}{σ:St}{H:Hp}{s:Shared}{E:Value->Shared->Prop}
def Inv.wish (I:Inv X pins σ H s)(E:Value->Shared->Prop):Inv (X.wish E) pins σ H s:=⟨I.ok.wish E,I.os,I.bare,I.base,I.loc,I.cell,I.free,I.freeC,I.pin,I.hok,I.len⟩
def Inv.unwish (I:Inv (X.wish E) pins σ H s):Inv X pins σ H s:=⟨I.ok.unwish,I.os,I.bare,I.base,I.loc,I.cell,I.free,I.freeC,I.pin,I.hok,I.len⟩
def SP.unwish {f:Flow}(h:SP (X.wish E) pins D f s'):SP X pins D f s':=by
 cases f with
 |next=>obtain ⟨σ',H',I,q⟩:=h;exact ⟨σ',H',I.unwish,q⟩
 |brk=>obtain ⟨σ',H',I,q⟩:=h;exact ⟨σ',H',I.unwish,q⟩
 |cont=>obtain ⟨σ',H',I,q⟩:=h;exact ⟨σ',H',I.unwish,q⟩
 |ret u=>obtain ⟨v,σ',H',I,r,q⟩:=h;exact ⟨v,σ',H',I.unwish,r,q⟩
def PSs.nox {st:List Stmt}{t:TS}(h:PSs X.nox st t):PSs X st t:=λpins s σ H D I hw=>
 BH (h pins s σ H D (I.wish _) hw) (λ_ _ q=>q.unwish) λ_ _ z=>Cu z
end
section
variable {X:Cx}{st:Stmt}{rest:List Stmt}{t u:TS}{e:Expr}{te:TE}{pos:Pos}
def aGs:TS:=λD σ H=>D.nx σ H
def tSeq (t u:TS):TS:=λD σ H=>t { D with nx:=u D } σ H
def aY:PSs X [] aGs:=λ_ _ σ H _ I h=>Fm ⟨σ,H,I,h⟩
def aD (h1:PS X st t)(h2:PSs X rest u):PSs X (st::rest) (tSeq t u):=by
 intro pins s σ H D I h;refine wpAny_execs_cons (thn (h1 pins s σ H { D with nx:=u D } I h) λf s1 q=>?_);cases f with
 |next=>
  obtain ⟨σ',H',I',q⟩:=q;exact h2 pins s1 σ' H' D I' q
 |ret v=>exact q
 |brk=>exact q
 |cont=>exact q
def aH (h1:PS X st t):PSs X [st] t:=by
 intro pins s σ H D I h;refine wpAny_execs_cons (thn (h1 pins s σ H D I h) λf s1 q=>?_);cases f with
 |next=>exact Fm q
 |ret v=>exact q
 |brk=>exact q
 |cont=>exact q
def tBreak:TS:=λD σ H=>D.bk σ H
def tCont:TS:=λD σ H=>D.ct σ H
def Inv.quiet {σ:St}{s:Shared}(I:Inv X pins σ H s):interactive X.env=false:=by simp [interactive,I.ok.kind]
def aGw (te:TE):TS:=λD σ H=>te σ H λ_ H1=>D.nx σ H1
def bB (he:PE X e te)(hs:swapsWith e none pos.line X.env=pure false:=by rfl):PS X (.Expr e pos) (aGw te):=by
 intro pins s σ H D I h;exact wpAny_Expr_any (thn (he pins s σ H _ I h) λv s1 ⟨x,H1,I1,r1,q1⟩=>⟨σ,H1,I1,q1⟩) I.quiet hs
def tRet (te:TE):TS:=λD σ H=>te σ H D.rt
def aU (he:PE X e te):PS X (.Return (some e) pos) (tRet te):=by
 intro pins s σ H D I h;exact wpAny_Return_some (thn (he pins s σ H _ I h) λv s1 ⟨x,H1,I1,r1,q1⟩=>⟨x,σ,H1,I1,r1,q1⟩)
def tRetN:TS:=λD _ H=>D.rt .non H
def tIfS (c:TT)(t u:TS):TS:=λD σ H=>c σ H λb H1=>if b=true then t D σ H1 else u D σ H1
def bK {c:Expr}{a b:List Stmt}{tc:TT}(hc:PT X c tc)(ha:PSs X a t)(hb:PSs X b u):PS X (.If c a b pos) (tIfS tc t u):=by
 intro pins s σ H D I h;refine wpAny_If (thn (hc pins s σ H _ I h) λd s1 ⟨H1,I1,q1⟩=>?_);cases d with
 |true=>exact ha pins s1 σ H1 D I1 q1
 |false=>exact hb pins s1 σ H1 D I1 q1
def tNever:TS:=λ_ _ _=>False
end
abbrev TG:=V->St->Hp->(St->Hp->Prop)->Prop
abbrev TGs:=List V->St->Hp->(St->Hp->Prop)->Prop
def PG (X:Cx)(target:Expr)(t:TG):Prop:=
 ∀ (pins:List (Addr×Obj)) (s:Shared) (σ:St) (H:Hp) (v:V) (u:Value) (Q:St->Hp->Prop),Inv X pins σ H s->RelV v u->t v σ H Q ->
  wpAny (model X.prog X.w) X.A (assign target X.env u) (λ_ s'=>∃ σ' H',Inv X pins σ' H' s'/\Q σ' H') X.xe s
def PGs (X:Cx)(ts:List Expr)(t:TGs):Prop:=
 ∀ (pins:List (Addr×Obj)) (s:Shared) (σ:St) (H:Hp) (vs:List V) (us:List Value) (Q:St->Hp->Prop),Inv X pins σ H s->Vals vs us->t vs σ H Q ->
  wpAny (model X.prog X.w) X.A (assignInOrder ((assignEach ts X.env).map (·.2)) us) (λ_ s'=>∃ σ' H',Inv X pins σ' H' s'/\Q σ' H') X.xe s
abbrev TSet:=V->V->V->Hp->(Hp->Prop)->Prop
def PSet (X:Cx)(t:TSet):Prop:=
 ∀ (pins:List (Addr×Obj)) (s:Shared) (σ:St) (H:Hp) (o i v:V) (ov iv u:Value) (Q:Hp->Prop),Inv X pins σ H s->RelV o ov->RelV i iv->RelV v u->t o i v H Q ->
  wpAny (model X.prog X.w) X.A (setItem ov iv u) (λ_ s'=>∃ H',Inv X pins σ H' s'/\Q H') X.xe s
abbrev TIp:=V->V->Hp->VK->Prop
def PIp (X:Cx)(op:Operator)(t:TIp):Prop:=
 ∀ (pins:List (Addr×Obj)) (s:Shared) (σ:St) (H:Hp) (x y:V) (v u:Value) (Q:VK),Inv X pins σ H s->RelV x v->RelV y u->t x y H Q ->
  wpAny (model X.prog X.w) X.A (inplaceOp op v u) (EP X pins σ Q) X.xe s
section
variable {X:Cx}{pos:Pos}
def dW (i:Nat):TG:=λv σ H Q=>Q (σ.set i (some v)) H
def aR {i:Nat}(hN:X.N.Nodup)(hi:X.N[i]?=some x)(hx:Loc X.env.scope x)(hf:X.fn x=true\/X.env.scope.names.lookup x=some .local:=by first|exact .inl rfl|exact .inr rfl|assumption):PG X (.Name x pos) (dW i):=by
 intro pins s σ H v u Q I r h;exact wpAny_assign_Name (fR I hN hi hx r (λs' I'=>⟨_,H,I',h⟩) hf)
def gNil:TGs:=λvs σ H Q=>vs=[]/\Q σ H
def mD (t:TG)(u:TGs):TGs:=λvs σ H Q=>∃ v r,vs=v::r/\t v σ H λσ' H'=>u r σ' H' Q
def eI:PGs X [] gNil:=by
 intro pins s σ H vs us Q I r h;obtain ⟨e,h⟩:=h;subst e;cases r;exact assignInOrder_nil ⟨σ,H,I,h⟩
def bJ {e:Expr}{es:List Expr}{t:TG}{u:TGs}(h1:PG X e t)(h2:PGs X es u)
  (hs:(assignEach (e::es) X.env).map (·.2)=assign e X.env::(assignEach es X.env).map (·.2):=by rfl):PGs X (e::es) (mD t u):=by
 intro pins s σ H vs us Q I r h;obtain ⟨v,vr,e1,h⟩:=h;subst e1;cases r with
 |cons r rr=>
  rw [hs];refine assignInOrder_cons (thn (h1 pins s σ H _ _ _ I r h) λ_ s1 ⟨σ1,H1,I1,q1⟩=>?_);exact h2 pins s1 σ1 H1 _ _ Q I1 rr q1
def gTup (K:Ab)(n:Nat)(t:TGs):TG:=λv σ H Q=>∃ a xs,v=.ref a/\SqT K H a xs/\xs.length=n/\t xs σ H Q
def fX {k:Nat}{t:TGs}{n:Nat}(hc:X.calm=true)(h:PGs X es t)(hn:(assignEach es X.env).length=n:=by rfl)(hst:(assignEach es X.env).findIdx? (·.1)=none:=by rfl):PG X (.Tuple es k pos) (gTup X.K n t):=by
 intro pins s σ H v u Q I r hw;obtain ⟨a,xs,e1,hq,hl,hw⟩:=hw;subst e1;cases r;obtain ⟨its,rv,ht,hz⟩:=I.tuple hq;refine assign_Tuple_tuple (I.ok.hd hc) ht (by simp [hn,<- hl,rv.length]) hst λh' hx=>?_;have I1:Inv X pins σ H { s with heap:=h' }:=I.kept (t':=s.toks) λb o e=>hx b o (AG (Ar e)) e;exact h pins _ σ H xs _ Q I1 (by simpa using rv) hw
def gSub (to ti:TE)(t:TSet):TG:=λv σ H Q=>to σ H λo H1=>ti σ H1 λi H2=>t o i v H2 λH3=>Q σ H3
def vT {o i:Expr}{to ti:TE}{t:TSet}(ho:PE X o to)(hi:PE X i ti)(hs:PSet X t)
  (ha:∀ v,assign (.Subscript o i pos) X.env v=(do
   let ov <- holding [v] (eval o X.env)
   let iv <- holding [v,ov] (eval i X.env)
   standAt pos
   holding [v,ov,iv] (setItem ov iv v)
   release [v,ov,iv] []):=by intro _;rfl):PG X (.Subscript o i pos) (gSub to ti t):=by
 intro pins s σ H v u Q I r h;rw [ha];refine Aa (BE (thn (ho pins s σ H _ I h) λov s1 ⟨x,H1,I1,r1,q1⟩=>?_));refine Aa (BE (thn (hi pins s1 σ H1 _ I1 q1) λiv s2 ⟨y,H2,I2,r2,q2⟩=>?_));refine Aa (Fb (Aa (BE (thn (hs pins s2 σ H2 x y v ov iv u _ I2 r1 r2 r q2) λ_ s3 ⟨H3,I3,q3⟩=>?_))));exact wpAny_release ⟨σ,H3,I3,q3⟩
def tAsg (te:TE)(g:TG):TS:=λD σ H=>te σ H λx H1=>g x σ H1 D.nx
def kL {tg e:Expr}{te:TE}{g:TG}(he:PE X e te)(hg:PG X tg g)(hs:swapsWithSole [tg] e pos.line X.env=pure false:=by rfl)(hw:swappedStores [tg] e X.env=pure none:=by rfl)
  (h1:(assignEach [tg] X.env).map (·.2)=[assign tg X.env]:=by rfl):PS X (.Assign [tg] e pos) (tAsg te g):=by
 intro pins s σ H D I h;refine wpAny_Assign_stores (thn (he pins s σ H _ I h) λv s1 ⟨x,H1,I1,r1,q1⟩=>?_) hs hw;rw [h1];exact thn (hg pins s1 σ H1 x v _ I1 r1 q1) λ_ s2 q=>q
def aK {i:Nat}{x:Str}{e:Expr}{te:TE}{pos':Pos}(hN:X.N.Nodup)(hi:X.N[i]?=some x)(hx:Loc X.env.scope x)(he:PE X e te)(hs:swapsWith e (some (.Name x pos')) pos.line X.env=pure false:=by rfl)(hf:X.fn x=true\/X.env.scope.names.lookup x=some .local:=by first|exact .inl rfl|exact .inr rfl|assumption) :
  PS X (.Assign [.Name x pos'] e pos) (tAsg te (dW i)):=by
 intro pins s σ H D I h;refine wpAny_Assign_Name (thn (he pins s σ H _ I h) λv s1 ⟨y,H1,I1,r1,q1⟩=>?_) hs;exact fR I1 hN hi hx r1 (λs2 I2=>⟨_,H1,I2,q1⟩) hf
def tPar (i j:Nat)(ta:TA):TS:=λD σ H=>ta σ H λvs H1=>∃ v w,vs=[v,w]/\D.nx ((σ.set i (some v)).set j (some w)) H1
def aFm {i j:Nat}{x y:Str}{a b:Expr}{ta:TA}{px py pt:Pos}{kt k2 pt2}(hc:X.calm=true)(hN:X.N.Nodup)(hi:X.N[i]?=some x)(hj:X.N[j]?=some y)(hij:i≠j)
  (hx:X.env.scope.names.lookup x=some .local) (hy:X.env.scope.names.lookup y=some .local) (ha:PA X [a,b] ta)
  (hw:swappedStores [.Tuple [.Name x px,.Name y py] kt pt] (.Tuple [a,b] k2 pt2) X.env=pure (some [x,y]))
  (hs:swapsWithSole [.Tuple [.Name x px,.Name y py] kt pt] (.Tuple [a,b] k2 pt2) pos.line X.env=pure false:=by rfl) :
  PS X (.Assign [.Tuple [.Name x px,.Name y py] kt pt] (.Tuple [a,b] k2 pt2) pos) (tPar i j ta):=by
 intro pins s σ H D I h;rw [exec_Assign_arm];refine Aa (Fb ?_);rw [hs];refine Aa (Ag ?_);rw [if_neg (by decide)];refine Aa (Tuple_ (thn (ha _ pins s σ H _ I h) λus s1 ⟨vs,H1,I1,r1,q1⟩=>?_));obtain ⟨v,w,e1,q1⟩:=q1;subst e1;obtain ⟨u1,u2,rfl,rv,rw'⟩:∃ u1 u2,us=[u1,u2]/\RelV v u1/\RelV w u2:=by
  cases r1 with
  |cons p q=>
   cases q with
   |cons p' q'=>
    cases q';exact ⟨_,_,rfl,p,p'⟩
 refine Be ?_ zLn2;have I2:Inv X pins σ H1 { s1 with heap:=s1.heap.push { cls:=.type "tuple",data:=.seq [u1,u2].toArray } }:=I1.kept (t':=s1.toks) λb o e=>Ae _ e;rw [hw];refine Aa (Ag ?_);show wpAny (model X.prog X.w) X.A (do rule "assign.swapped-stores";let items <- unpackItems (.ref s1.heap.objs.size) 2 none;assignInOrder [λv=>bindName X.env y v,λv=>bindName X.env x v] items.reverse;pure Flow.next) _ _ _;refine Aa (Dp (Aa (unpackItems_tuple (items:=#[u1,u2]) (I.ok.hd hc) (IsTup.new s1.heap _) λh' hx'=>?_)));have I3:=I2.kept (h':=h') (t':=s1.toks) λb o e=>hx' b o (AG (Ar e)) e;show wpAny _ _ (assignInOrder [λv=>bindName X.env y v,λv=>bindName X.env x v] [u2,u1] >>= λ_=>pure Flow.next) _ _ _;refine Aa (assignInOrder_cons (wpAny_bindName (fR I3 hN hj (.inl hy) rw' (λs2 I4=>?_) (.inr hy))));refine assignInOrder_cons (wpAny_bindName (fR I4 hN hi (.inl hx) rv (λs3 I5=>assignInOrder_nil (Ag ?_)) (.inr hx)));rw [List.set_comm _ _ (BU hij)] at I5;exact ⟨_,H1,I5,q1⟩
def tAug (i:Nat)(te:TE)(ti:TIp):TS:=λD σ H=>∃ x,σ[i]?=some (some x)/\te σ H λy H1=>ti x y H1 λz H2=>D.nx (σ.set i (some z)) H2
def tAugS (to ti te:TE)(tget:V->V->Hp->VK->Prop)(tip:TIp)(tset:TSet):TS:=λD σ H=>to σ H λo H1=>ti σ H1 λi H2=>tget o i H2 λx H3=>te σ H3 λy H4=>tip x y H4 λz H5=>tset o i z H5 λH6=>D.nx σ H6
def PGet (X:Cx)(t:V->V->Hp->VK->Prop):Prop:=
 ∀ (pins:List (Addr×Obj)) (s:Shared) (σ:St) (H:Hp) (o i:V) (ov iv:Value) (Q:VK),Inv X pins σ H s->RelV o ov->RelV i iv->t o i H Q ->
  wpAny (model X.prog X.w) X.A (getItem ov iv) (EP X pins σ Q) X.xe s
def ipI (f:Int->Int->Int):TIp:=λx y H Q=>∃ i j,x=.int i/\y=.int j/\Q (.int (f i j)) H
end
section
variable {X:Cx}{pos:Pos}
def aBn (c:TT)(tb:TS):TS:=λD σ H=>∃ W:Nat->St->Hp->Prop,(∃ m,W m σ H)/\∀ m σ H,W m σ H ->
 c σ H λb H1=>if b=true then ∃ N:St->Hp->Prop,(∀ σ' H',N σ' H'->∃ m',m'<m/\W m' σ' H')/\tb { D with nx:=N,ct:=N,bk:=D.nx } σ H1 else D.nx σ H1
def iK {c:Expr}{body:List Stmt}{tc:TT}{tb:TS}(hp:Bs (model X.prog X.w) X.A X.env X.xe)(hc:PT X c tc)(hb:PSs X body tb):PS X (.While c body [] pos) (aBn tc tb):=by
 intro pins s σ H D I h;obtain ⟨W,⟨m0,w0⟩,turn⟩:=h;refine wpAny_While (codeAny_whileLoop (λn s'=>∃ σ' H',Inv X pins σ' H' s'/\W n σ' H') ?_ m0 ⟨σ,H,I,w0⟩)
 rintro n s1 ⟨σ1,H1,I1,w1⟩
 refine DW hp (thn (hc pins s1 σ1 H1 _ I1 (turn n σ1 H1 w1)) λb s2 ⟨H2,I2,q2⟩=>?_);cases b with
 |true=>
  obtain ⟨N,hN,q2⟩:=q2;rw [if_pos rfl];refine DW hp (thn (hb pins s2 σ1 H2 _ I2 q2) λf s3 q3=>?_);cases f with
  |next=>
   obtain ⟨σ3,H3,I3,n3⟩:=q3;obtain ⟨m',hm,w3⟩:=hN σ3 H3 n3;exact ⟨m',hm,σ3,H3,I3,w3⟩
  |cont=>
   obtain ⟨σ3,H3,I3,n3⟩:=q3;obtain ⟨m',hm,w3⟩:=hN σ3 H3 n3;exact ⟨m',hm,σ3,H3,I3,w3⟩
  |brk=>exact q3
  |ret v=>exact q3
 |false=>
  rw [if_neg AK];exact Fm ⟨σ1,H2,I2,q2⟩
end
structure It where
 go:Nat->Hp->Prop
 yld:Nat->Hp->V->Hp->Prop
 stop:Nat->Hp->Prop
def FpOk (X:Cx)(pins:List (Addr×Obj))(H:Hp)(b:Addr):Prop:=
 H b=none/\b≠X.env.locals/\b∉X.fs/\(b∈X.ex\/X.s₀.heap.objs.size<=b)/\(∀ x c,X.env.cells.lookup x=some c->c≠b)/\∀ p∈X.pn++pins,p.1≠b
def Inv.fpOk {σ:St}{s:Shared}{b:Addr}(I:Inv X pins σ H s)(hb:s.heap.objs.size<=b)(hn:H' b=none):FpOk X pins H' b:=by
 refine ⟨hn,Nat.ne_of_gt (AX I.lt hb),I.nofs hb,.inr (Bh I.sz hb),λx c e z=>?_,λp hp z=>?_⟩
 ·obtain ⟨v,q⟩:=I.cell x c e
  exact absurd (AX q.lt (by rw [z];exact hb)) (Ce _)
 ·exact absurd (AX (Ar (I.pin p hp).1) (by rw [z];exact hb)) (Ce _)
structure Turn (P:AF)(w:World)(K:Ab)(tg:Expr)(J:It)(fp:List Addr)(it:Addr)(tn:Nat->Heap->Prop):Prop where
 mem:it∈fp
 obj:∀ i h,tn i h->∀ b∈fp,∃ o,h.get? b=some o/\∀ v,o.data≠.cell v
 keep:∀ i h h',tn i h->(∀ b∈fp,∀ o,h.get? b=some o->h'.get? b=some o)->tn i h'
 item:∀ (X:Cx),X.prog=P->X.w=w->X.K=K->X.calm=true->∀ (i:Nat) (pins:List (Addr×Obj)) (s:Shared) (σ:St) (H:Hp) (E:Value->Shared->Prop),Inv X pins σ H s->(∀ b∈fp,FpOk X pins H b)->tn i s.heap->J.go i H ->
  wpAny (model P w) X.A (pyNext (.ref it)) (λr s1=>∃ u,r=some u /\
   wpAny (model P w) X.A (Fn tg (.ref it) u) (λ_ s2=>∃ x H',Inv X pins σ H' s2/\RelV x u/\J.yld i H x H'/\tn (i+1) s2.heap/\∀ b∈fp,H' b=none) E s1) E s
 done:∀ (X:Cx),X.prog=P->X.w=w->X.K=K->X.calm=true->∀ (i:Nat) (pins:List (Addr×Obj)) (s:Shared) (σ:St) (H:Hp) (E:Value->Shared->Prop),Inv X pins σ H s->(∀ b∈fp,FpOk X pins H b)->tn i s.heap->J.stop i H ->
  wpAny (model P w) X.A (pyNext (.ref it)) (λr s1=>r=none/\Inv X pins σ H s1) E s
 self:∀ (A:Around) (i:Nat) (s:Shared) (Q:Value->Shared->Prop) (E:Value->Shared->Prop),tn i s.heap->Q (.ref it) s->wpAny (model P w) A (pyIter (.ref it)) Q E s
abbrev TI:=St->Hp->(It->Hp->Prop)->Prop
def PIE (X:Cx)(pins:List (Addr×Obj))(σ:St)(tg:Expr)(R:It->Hp->Prop)(itv:Value)(s2:Shared):Prop:=
 ∃ (it:Addr) (fp:List Addr) (tn:Nat->Heap->Prop) (J:It) (H':Hp),itv=.ref it/\Inv X pins σ H' s2/\Turn X.prog X.w X.K tg J fp it tn/\tn 0 s2.heap/\(∀ b∈fp,FpOk X pins H' b)/\R J H'
def PI (X:Cx)(tg iter:Expr)(wi:TI):Prop:=
 ∀ (pins:List (Addr×Obj)) (s:Shared) (σ:St) (H:Hp) (R:It->Hp->Prop),Inv X pins σ H s->wi σ H R ->
  wpAny (model X.prog X.w) X.A (eval iter X.env) (λv s1=>wpAny (model X.prog X.w) X.A (pyIter v) (PIE X pins σ tg R) X.xe s1) X.xe s
def xU {s:Shared}{u:Value}(ho:s.heap.get? it=some o)(hc:o.cls=.type n)(hd:o.data=.fields vs)(hn:["enumerate","zip","dict_itemiterator","dict_reverseitemiterator","odict_iterator","itertools.zip_longest","itertools.pairwise"].contains n=false)(hQ:Q () s):wpAny M A (Fn tg (.ref it) u) Q E s:=by
  unfold Fn;cases tg<;>first
    |exact Ag hQ
    | (cases u <;> first
        |exact Ag hQ
        | (refine Aa (wpAny_load ho ?_)
           rw [hc,hd];show wpAny M A (if (["enumerate","zip","dict_itemiterator","dict_reverseitemiterator","odict_iterator","itertools.zip_longest","itertools.pairwise"].contains n&&vs[0]?==some (rawInt _))=true then _ else _) Q E s;rw [if_neg (by intro h;rw [hn,Bool.false_and] at h;cases h)];exact Ag hQ))
def Itl (K:Ab)(a:Addr):It:=
 ⟨λi H=>∃ xs x,SqL K H a xs/\xs[i]?=some x,λi H x H'=>H'=H/\∀ xs,SqL K H a xs->xs[i]?=some x,λi H=>∃ xs,SqL K H a xs/\xs.length<=i⟩
def Itt (K:Ab)(a:Addr):It:=
 ⟨λi H=>∃ xs x,SqT K H a xs/\xs[i]?=some x,λi H x H'=>H'=H/\∀ xs,SqT K H a xs->xs[i]?=some x,λi H=>∃ xs,SqT K H a xs/\xs.length<=i⟩
def Itr (lo:Int)(n:Nat):It:=⟨λi _=>i<n,λi H x H'=>H'=H/\x=.int (lo+i),λi _=>n<=i⟩
def uP {P:AF}{w:World}{K:Ab}{tg:Expr}(a it:Addr):Turn P w K tg (Itl K a) [it] it (λi h=>h.IsListIter it a i) where
 mem:=by simp
 obj:=λi h st b hb=>by
  have e:b=it:=by simpa using hb
  subst e;obtain ⟨o,e,c,d⟩:=st;exact ⟨o,e,λv z=>by rw [d] at z;cases z⟩
 keep:=λi h h' st k=>st.at λo e=>k it (by simp) o e
 item:=by
  intro X hP hw hK hc i pins s σ H E I hf st hg;subst hP hw hK;obtain ⟨xs,x,hq,hx⟩:=hg;obtain ⟨its,rv,p,hz⟩:=I.list hq;obtain ⟨u,hu,ru⟩:=rv.get hx;obtain ⟨f0,f1,f2,f3,f4,f5⟩:=hf it (by simp);refine wpAny_pyNext_list_item st p.isList (x:=u) (by simpa using hu) λh' st' sb=>?_;have I1:Inv X pins σ H { s with heap:=h' }:=I.turned (t':=s.toks) (λb o hb e=>(sb.2 b hb).trans e) f0 f1 f3 f4 f5;obtain ⟨o,e,c,d⟩:=id st';exact ⟨u,rfl,xU (s:={ s with heap:=h' }) e c d (by decide) ⟨x,H,I1,ru,⟨rfl,λys hy=>by rw [I.list_inj hy hq];exact hx⟩,st',λb hb=>(hf b hb).1⟩⟩
 done:=by
  intro X hP hw hK hc i pins s σ H E I hf st hg;subst hP hw hK;obtain ⟨xs,hq,hx⟩:=hg;obtain ⟨its,rv,p,hz⟩:=I.list hq;obtain ⟨f0,f1,f2,f3,f4,f5⟩:=hf it (by simp);have hl:=rv.length;exact wpAny_pyNext_list_end (I.ok.hd hc) st p.isList (by simp;omega) λh' eb=>⟨rfl,I.turned (t':=s.toks) (λb o hb e=>eb b o hb e) f0 f1 f3 f4 f5⟩
 self:=λ_ _ _ _ _ st h=>wpAny_pyIter_listiter st h
def sV {P:AF}{w:World}{K:Ab}{tg:Expr}(a it:Addr):Turn P w K tg (Itt K a) [it] it (λi h=>h.IsTupleIter it a i) where
 mem:=by simp
 obj:=λi h st b hb=>by
  have e:b=it:=by simpa using hb
  subst e;obtain ⟨o,e,c,d⟩:=st;exact ⟨o,e,λv z=>by rw [d] at z;cases z⟩
 keep:=λi h h' st k=>st.at λo e=>k it (by simp) o e
 item:=by
  intro X hP hw hK hc i pins s σ H E I hf st hg;subst hP hw hK;obtain ⟨xs,x,hq,hx⟩:=hg;obtain ⟨its,rv,p,hz⟩:=I.tuple hq;obtain ⟨u,hu,ru⟩:=rv.get hx;obtain ⟨f0,f1,f2,f3,f4,f5⟩:=hf it (by simp);refine wpAny_pyNext_tuple_item st (show s.heap.IsTuple a its.toArray from p) (x:=u) (by simpa using hu) λh' st' sb=>?_;have I1:Inv X pins σ H { s with heap:=h' }:=I.turned (t':=s.toks) (λb o hb e=>(sb.2 b hb).trans e) f0 f1 f3 f4 f5;obtain ⟨o,e,c,d⟩:=id st';exact ⟨u,rfl,xU (s:={ s with heap:=h' }) e c d (by decide) ⟨x,H,I1,ru,⟨rfl,λys hy=>by rw [I.tuple_inj hy hq];exact hx⟩,st',λb hb=>(hf b hb).1⟩⟩
 done:=by
  intro X hP hw hK hc i pins s σ H E I hf st hg;subst hP hw hK;obtain ⟨xs,hq,hx⟩:=hg;obtain ⟨its,rv,p,hz⟩:=I.tuple hq;obtain ⟨f0,f1,f2,f3,f4,f5⟩:=hf it (by simp);have hl:=rv.length;exact wpAny_pyNext_tuple_end (I.ok.hd hc) st (show s.heap.IsTuple a its.toArray from p) (by simp;omega) λh' eb=>⟨rfl,I.turned (t':=s.toks) (λb o hb e=>eb b o hb e) f0 f1 f3 f4 f5⟩
 self:=λ_ _ _ _ _ st h=>wpAny_pyIter_tupleiter st h
def sX {P:AF}{w:World}{K:Ab}{tg:Expr}(it:Addr)(lo:Int)(n:Nat):Turn P w K tg (Itr lo n) [it] it (λi h=>IsRangeIter h it (lo+(i:Nat)*1) ((n:Int)-(i:Nat)) 1) where
 mem:=by simp
 obj:=λi h st b hb=>by
  have e:b=it:=by simpa using hb
  subst e;exact ⟨_,st,λv z=>by
   have z':Data.fields _=Data.cell v:=z;cases z'⟩
 keep:=λi h h' st k=>k it (by simp) _ st
 item:=by
  intro X hP hw hK hc i pins s σ H E I hf st hg;subst hP hw hK;obtain ⟨f0,f1,f2,f3,f4,f5⟩:=hf it (by simp);have W:=Walks.range (prog:=X.prog) (w:=X.w) (I.ok.hd hc) it lo 1 n;refine W.item i s _ _ hg st λv h' tk hv st' kk=>?_;obtain ⟨t,rfl⟩:=hv;have I1:Inv X pins σ H { s with heap:=h',toks:=tk }:=I.turned (λb o hb e=>kk b o (by simpa using hb) e) f0 f1 f3 f4 f5;refine ⟨_,rfl,xU (s:={ s with heap:=h',toks:=tk }) (n:="range_iterator") st' rfl rfl (by decide) ⟨.int (lo+i),H,I1,⟨t,?_⟩,⟨rfl,rfl⟩,st',λb hb=>(hf b hb).1⟩⟩;rw [Int.mul_one]
 done:=by
  intro X hP hw hK hc i pins s σ H E I hf st hg;subst hP hw hK;obtain ⟨f0,f1,f2,f3,f4,f5⟩:=hf it (by simp);exact wpAny_pyNext_range_end (I.ok.hd hc) st (by have:n<=i:=hg;omega) λh' eb=>⟨rfl,I.turned (t':=s.toks) (λb o hb e=>eb b o hb e) f0 f1 f3 f4 f5⟩
 self:=λ_ _ _ _ _ st h=>wpAny_pyIter_rangeiter st h
section
variable {X:Cx}{tg:Expr}
def aHg (K:Ab)(tl:TE):TI:=λσ H R=>tl σ H λx H1=>∃ a,x=.ref a/\(∃ xs,SqL K H1 a xs)/\R (Itl K a) H1
def iTup (K:Ab)(tl:TE):TI:=λσ H R=>tl σ H λx H1=>∃ a,x=.ref a/\(∃ xs,SqT K H1 a xs)/\R (Itt K a) H1
def jA {l:Expr}{tl:TE}(hl:PE X l tl):PI X tg l (aHg X.K tl):=by
 intro pins s σ H R I h;refine thn (hl pins s σ H _ I h) λv s1 ⟨x,H1,I1,r1,q1⟩=>?_;obtain ⟨a,e,⟨xs,hq⟩,q⟩:=q1;subst e;cases r1;obtain ⟨its,rv,p,hz⟩:=I1.list hq;refine wpAny_pyIter_list p.isList ?_;refine ⟨s1.heap.objs.size,[s1.heap.objs.size],_,_,H1,rfl,I1.kept (t':=s1.toks) λb o e=>Ae _ e,uP a _,⟨_,An _ rfl,rfl,rfl⟩,λb hb=>?_,q⟩;have e:b=s1.heap.objs.size:=by simpa using hb
 subst e;exact I1.fpOk (Ao _) (I1.hok.fresh (Ao _))
def gY {l:Expr}{tl:TE}(hl:PE X l tl):PI X tg l (iTup X.K tl):=by
 intro pins s σ H R I h;refine thn (hl pins s σ H _ I h) λv s1 ⟨x,H1,I1,r1,q1⟩=>?_;obtain ⟨a,e,⟨xs,hq⟩,q⟩:=q1;subst e;cases r1;obtain ⟨its,rv,p,hz⟩:=I1.tuple hq;refine Fp (show s1.heap.IsTuple a its.toArray from p) ?_;refine ⟨s1.heap.objs.size,[s1.heap.objs.size],_,_,H1,rfl,I1.kept (t':=s1.toks) λb o e=>Ae _ e,sV a _,⟨_,An _ rfl,rfl,rfl⟩,λb hb=>?_,q⟩;have e:b=s1.heap.objs.size:=by simpa using hb
 subst e;exact I1.fpOk (Ao _) (I1.hok.fresh (Ao _))
def rH {σ:St}{s:Shared}{lo hi:Int}{t u v:Tok}{tk:Nat}(I:Inv X pins σ H s)(h1:-(2^62)<=lo)(h2:lo<2^62)(h3:-(2^62)<=hi)(h4:hi<2^62)(q:R (Itr lo (hi-lo).toNat) H):wpAny (model X.prog X.w) X.A (pyIter (.ref s.heap.objs.size)) (PIE X pins σ tg R) E { s with heap:=s.heap.push { cls:=.type "range",data:=.fields #[.int lo t,.int hi u,.int 1 v] },toks:=tk }:=by
 refine wpAny_pyIter_range (IsRange.new ..) (small_one h1 h2 h3 h4) ?_;have I1:Inv X pins σ H { s with heap:=s.heap.push { cls:=.type "range",data:=.fields #[.int lo t,.int hi u,.int 1 v] },toks:=tk }:=I.kept λb o e=>Ae _ e;refine ⟨(s.heap.push { cls:=.type "range",data:=.fields #[.int lo t,.int hi u,.int 1 v] }).objs.size,[(s.heap.push { cls:=.type "range",data:=.fields #[.int lo t,.int hi u,.int 1 v] }).objs.size],_,_,H,rfl,
  I1.kept (t':=tk) λb o e=>Ae _ e,sX _ lo (hi-lo).toNat,?_,λb hb=>?_,q⟩
 ·have e1:lo+((0:Nat):Int)*1=lo:=by simp
  have e2:(((hi-lo).toNat:Nat):Int)-((0:Nat):Int)=AU.Range.rangeSize lo hi 1:=by rw [rangeSize_one];split<;>omega
  show IsRangeIter _ _ (lo+((0:Nat):Int)*1) ((((hi-lo).toNat:Nat):Int)-((0:Nat):Int)) 1;rw [e1,e2];exact An _ rfl
 ·have e:b=(s.heap.push { cls:=.type "range",data:=.fields #[.int lo t,.int hi u,.int 1 v] }).objs.size:=by simpa using hb
  subst e;exact I1.fpOk (Ao _) (I1.hok.fresh (Ao _))
def aHf (ta:TA):TI:=λσ H R=>ta σ H λvs H1=>∃ j:Int,vs=[.int j]/\-(2^62)<=j/\j<2^62/\R (Itr 0 j.toNat) H1
def aHe (ta:TA):TI:=λσ H R=>ta σ H λvs H1=>∃ i j:Int,vs=[.int i,.int j]/\(-(2^62)<=i/\i<2^62/\-(2^62)<=j/\j<2^62)/\R (Itr i (j-i).toNat) H1
def bT {a:Expr}{ta:TA}{p pos:Pos}(hg:Gl X "range")(hm:X.mg "range" = none)(ha:PA X [a] ta)(hs:AV [a] X.env=[(false,eval a X.env)]:=by rfl):PI X tg (.Call (.Name "range" p) [a] [] pos) (aHf ta):=by
 intro pins s σ H R I h;refine Call_ (fH I hg hm boot_range (BX (thn (ha pos pins s σ H _ I h) λus s1 ⟨vs,H1,I1,r1,q1⟩=>?_) hs rfl));obtain ⟨j,e,q1,q2,q⟩:=q1;subst e;cases r1 with
 |cons r rr=>
  cases rr;obtain ⟨t,rfl⟩:=r;exact call_range_1 (rH I1 (by omega) (by omega) q1 q2 (by simpa using q))
def iZ {a b:Expr}{p pos:Pos}(hg:Gl X "range")(hm:X.mg "range" = none)(ha:PA X [a,b] ta)(hs:AV [a,b] X.env=[(false,eval a X.env),(false,eval b X.env)]:=by rfl)(hs2:AV [b] X.env=[(false,eval b X.env)]:=by rfl) :
  PI X tg (.Call (.Name "range" p) [a,b] [] pos) (aHe ta):=by
 intro pins s σ H R I h;refine Call_ (fH I hg hm boot_range (BX (thn (ha pos pins s σ H _ I h) λus s1 ⟨vs,H1,I1,r1,q1⟩=>?_) (by rw [hs,hs2]) (by rw [hs2];rfl)));obtain ⟨i,j,e,⟨q1,q2,q3,q4⟩,q⟩:=q1;subst e;cases r1 with
 |cons r rr=>
  cases rr with
  |cons r' rr=>
   cases rr;obtain ⟨t,rfl⟩:=r;obtain ⟨t',rfl⟩:=r';exact call_range_2 (rH I1 q1 q2 q3 q4 q)
def tFor (wi:TI)(g:TG)(tb:TS):TS:=λD σ H=>wi σ H λJ H1=>∃ W:Nat->Nat->St->Hp->Prop,(∃ m,W 0 m σ H1)/\∀ i m σ H,W i m σ H ->
 (J.stop i H/\D.nx σ H)\/(J.go i H/\∃ N:St->Hp->Prop,(∀ σ' H',N σ' H'->∃ m',m'<m/\W (i+1) m' σ' H')/\∀ x H',J.yld i H x H'->g x σ H' λσ2 H2=>tb { D with nx:=N,ct:=N,bk:=D.nx } σ2 H2)
def kN (fp:List Addr)(h:Heap):List (Addr×Obj):=fp.filterMap λb=>(h.get? b).map λo=>(b,o)
def dB {b:Addr}(hb:b∈fp)(e:h.get? b=some o):(b,o)∈kN fp h:=Eo.mpr ⟨b,hb,by rw [e];rfl⟩
def wM (hp:p∈kN fp h):p.1∈fp/\h.get? p.1=some p.2:=by
 obtain ⟨b,hb,e⟩:=Eo.mp hp;cases q:h.get? b with
 |none=>rw [q] at e;cases e
 |some o=>
  rw [q] at e;have e':(b,o)=p:=AS e;subst e';exact ⟨hb,q⟩
def Inv.pinned {σ:St}{s:Shared}(I:Inv X pins σ H s)(hf:∀ b∈fp,FpOk X pins H b)(ho:∀ b∈fp,∃ o,s.heap.get? b=some o/\∀ v,o.data≠.cell v):Inv X (pins++kN fp s.heap) σ H s:=
 I.pins_of λp hp=>(Av.mp hp).elim (λz=>I.pin p (AH _ z)) λz=>by
  obtain ⟨hb,e⟩:=wM z;obtain ⟨f0,f1,f2,_⟩:=hf p.1 hb;obtain ⟨o,e',d⟩:=ho p.1 hb;rw [e] at e';cases e';exact ⟨e,f0,f1,f2,d⟩
def Inv.unpinned {σ:St}{s:Shared}(I:Inv X (pins++pl) σ H s):Inv X pins σ H s:=I.pins_of λp hp=>I.pin p (AH _ (AW _ hp))
def bP {pos:Pos}(hp:Bs (model X.prog X.w) X.A X.env X.xe)(hc:X.calm=true)(hi:PI X tg iter wi)(hg:PG X tg g)(hb:PSs X body tb)(hs:∀ x,foldedSetIterable iter X.env x=pure x:=by intro _;rfl):PS X (.For tg iter body [] pos) (tFor wi g tb):=by
 intro pins s σ H D I h;refine wpAny_For (thn (hi pins s σ H _ I h) λv s1 h1=>thn h1 λitv s2 h2=>?_) hs;obtain ⟨it,fp,tn,J,H2,e,I2,T,st2,f2,W,⟨m0,w0⟩,turn⟩:=h2;subst e;have stat:∀ {H':Hp},(∀ b∈fp,H' b=none)->∀ b∈fp,FpOk X pins H' b:=λhn b hb=>⟨hn b hb,(f2 b hb).2⟩;refine codeAny_forLoop_any (λn s'=>∃ i σ' H',Inv X pins σ' H' s'/\tn i s'.heap/\(∀ b∈fp,H' b=none)/\W i n σ' H') ?_ m0 ⟨0,σ,H2,I2,st2,λb hb=>(f2 b hb).1,w0⟩
 rintro n s3 ⟨i,σ3,H3,I3,st3,fr3,w3⟩
 rcases turn i n σ3 H3 w3 with ⟨stop,qn⟩|⟨go,N,hN,step⟩
 ·refine DW hp (thn (T.done X rfl rfl rfl hc i pins s3 σ3 H3 X.xe I3 (stat fr3) st3 stop) λr s4 ⟨hr,I4⟩=>?_)
  subst hr;exact Fm ⟨σ3,H3,I4,qn⟩
 ·refine DW hp (thn (T.item X rfl rfl rfl hc i pins s3 σ3 H3 X.xe I3 (stat fr3) st3 go) λr s4 ⟨u,hr,h4⟩=>?_)
  subst hr;refine DW hp (thn h4 λ_ s5 ⟨x,H5,I5,r5,y5,st5,fr5⟩=>?_);have I5':=I5.pinned (stat fr5) (T.obj _ _ st5);refine DW hp (thn (hg _ s5 σ3 H5 x u _ I5' r5 (step x H5 y5)) λ_ s6 ⟨σ6,H6,I6,q6⟩=>?_);refine DW hp (thn (hb _ s6 σ6 H6 _ I6 q6) λf s7 q7=>?_);have again:∀ {σ7:St} {H7:Hp},Inv X (pins++kN fp s5.heap) σ7 H7 s7->N σ7 H7->∃ m,m<n/\∃ i σ' H',Inv X pins σ' H' s7/\tn i s7.heap/\(∀ b∈fp,H' b=none)/\W i m σ' H':=λ{σ7 H7} I7 n7=>by
   obtain ⟨m',hm,w7⟩:=hN σ7 H7 n7;refine ⟨m',hm,i+1,σ7,H7,I7.unpinned,T.keep _ _ _ st5 λb hb o e=>(I7.pin (b,o) (AH _ (AH _ (dB hb e)))).1,λb hb=>?_,w7⟩;obtain ⟨o,e,d⟩:=T.obj _ _ st5 b hb;exact (I7.pin (b,o) (AH _ (AH _ (dB hb e)))).2.1
  cases f with
  |next=>obtain ⟨σ7,H7,I7,n7⟩:=q7;exact again I7 n7
  |cont=>obtain ⟨σ7,H7,I7,n7⟩:=q7;exact again I7 n7
  |brk=>obtain ⟨σ7,H7,I7,q7⟩:=q7;exact ⟨σ7,H7,I7.unpinned,q7⟩
  |ret v=>obtain ⟨x7,σ7,H7,I7,r7,q7⟩:=q7;exact ⟨x7,σ7,H7,I7.unpinned,r7,q7⟩
end
def aA8 {K:Ab}{a:Addr}{xs:List V}{g:TG}{tb:TS}{D:Ends}{σ:St}{H:Hp}(Pv:Nat->St->Hp->Prop)(h0:Pv 0 σ H)(hl:∀ i σ H,i<=xs.length->Pv i σ H->SqL K H a xs)
  (hs:∀ i x σ H,xs[i]?=some x->Pv i σ H->g x σ H λσ2 H2=>tb { D with nx:=Pv (i+1),ct:=Pv (i+1),bk:=D.nx } σ2 H2) (hd:∀ σ H,Pv xs.length σ H->D.nx σ H) :
  ∃ W:Nat->Nat->St->Hp->Prop,(∃ m,W 0 m σ H)/\∀ i m σ H,W i m σ H ->
   ((Itl K a).stop i H/\D.nx σ H)\/((Itl K a).go i H/\∃ N:St->Hp->Prop,(∀ σ' H',N σ' H'->∃ m',m'<m/\W (i+1) m' σ' H')/\∀ x H',(Itl K a).yld i H x H'->g x σ H' λσ2 H2=>tb { D with nx:=N,ct:=N,bk:=D.nx } σ2 H2):=by
 refine ⟨λi m σ H=>m=xs.length-i/\i<=xs.length/\Pv i σ H,⟨xs.length,by simp,Bi _,h0⟩,?_⟩
 rintro i m σ H ⟨rfl,hi,p⟩
 have q:=hl i σ H hi p
 by_cases hlt:i<xs.length
 ·refine .inr ⟨⟨xs,xs[i],q,by simp [hlt]⟩,Pv (i+1),λσ' H' p'=>⟨xs.length-(i+1),by omega,rfl,hlt,p'⟩,λx H' y=>?_⟩
  obtain ⟨e,y⟩:=y;subst e;exact hs i x σ _ (y xs q) p
 ·have e:i=xs.length:=by omega
  subst e;exact .inl ⟨⟨xs,q,Ao _⟩,hd σ H p⟩
def gN {K:Ab}{a:Addr}{xs:List V}{g:TG}{tb:TS}{D:Ends}{σ:St}{H:Hp}(Pv:Nat->St->Hp->Prop)(h0:Pv 0 σ H)(hl:∀ i σ H,i<=xs.length->Pv i σ H->SqT K H a xs)
  (hs:∀ i x σ H,xs[i]?=some x->Pv i σ H->g x σ H λσ2 H2=>tb { D with nx:=Pv (i+1),ct:=Pv (i+1),bk:=D.nx } σ2 H2) (hd:∀ σ H,Pv xs.length σ H->D.nx σ H) :
  ∃ W:Nat->Nat->St->Hp->Prop,(∃ m,W 0 m σ H)/\∀ i m σ H,W i m σ H ->
   ((Itt K a).stop i H/\D.nx σ H)\/((Itt K a).go i H/\∃ N:St->Hp->Prop,(∀ σ' H',N σ' H'->∃ m',m'<m/\W (i+1) m' σ' H')/\∀ x H',(Itt K a).yld i H x H'->g x σ H' λσ2 H2=>tb { D with nx:=N,ct:=N,bk:=D.nx } σ2 H2):=by
 refine ⟨λi m σ H=>m=xs.length-i/\i<=xs.length/\Pv i σ H,⟨xs.length,by simp,Bi _,h0⟩,?_⟩
 rintro i m σ H ⟨rfl,hi,p⟩
 have q:=hl i σ H hi p
 by_cases hlt:i<xs.length
 ·refine .inr ⟨⟨xs,xs[i],q,by simp [hlt]⟩,Pv (i+1),λσ' H' p'=>⟨xs.length-(i+1),by omega,rfl,hlt,p'⟩,λx H' y=>?_⟩
  obtain ⟨e,y⟩:=y;subst e;exact hs i x σ _ (y xs q) p
 ·have e:i=xs.length:=by omega
  subst e;exact .inl ⟨⟨xs,q,Ao _⟩,hd σ H p⟩
def eB {lo:Int}{n:Nat}{g:TG}{tb:TS}{D:Ends}{σ:St}{H:Hp}(Pv:Nat->St->Hp->Prop)(h0:Pv 0 σ H)
  (hs:∀ i σ H,i<n->Pv i σ H->g (.int (lo+i)) σ H λσ2 H2=>tb { D with nx:=Pv (i+1),ct:=Pv (i+1),bk:=D.nx } σ2 H2) (hd:∀ σ H,Pv n σ H->D.nx σ H) :
  ∃ W:Nat->Nat->St->Hp->Prop,(∃ m,W 0 m σ H)/\∀ i m σ H,W i m σ H ->
   ((Itr lo n).stop i H/\D.nx σ H)\/((Itr lo n).go i H/\∃ N:St->Hp->Prop,(∀ σ' H',N σ' H'->∃ m',m'<m/\W (i+1) m' σ' H')/\∀ x H',(Itr lo n).yld i H x H'->g x σ H' λσ2 H2=>tb { D with nx:=N,ct:=N,bk:=D.nx } σ2 H2):=by
 refine ⟨λi m σ H=>m=n-i/\i<=n/\Pv i σ H,⟨n,by simp,Bi _,h0⟩,?_⟩
 rintro i m σ H ⟨rfl,hi,p⟩
 by_cases hlt:i<n
 ·refine .inr ⟨hlt,Pv (i+1),λσ' H' p'=>⟨n-(i+1),by omega,rfl,hlt,p'⟩,λx H' y=>?_⟩
  obtain ⟨e,y⟩:=y;subst e y;exact hs i σ _ hlt p
 ·have e:i=n:=by omega
  subst e;exact .inl ⟨Ao _,hd σ H p⟩
def yR {σ:St}(Pv:St->Hp->Prop)(μ:St->Hp->Nat)(h0:Pv σ H)(hs:∀ σ H,Pv σ H->c σ H λb H1=>if b=true then tb { D with nx:=λσ' H'=>Pv σ' H'/\μ σ' H'<μ σ H,ct:=λσ' H'=>Pv σ' H'/\μ σ' H'<μ σ H,bk:=D.nx } σ H1 else D.nx σ H1)(mono:∀ σ H Q Q',(∀ b H1,Q b H1->Q' b H1)->c σ H Q->c σ H Q'):aBn c tb D σ H:=by
 refine ⟨λm σ H=>m=μ σ H/\Pv σ H,⟨_,rfl,h0⟩,?_⟩
 rintro m σ H ⟨rfl,p⟩
 refine mono σ H _ _ (λb H1 q=>?_) (hs σ H p);cases b with
 |true=>exact ⟨_,λσ' H' ⟨p',l⟩=>⟨_,l,rfl,p'⟩,q⟩
 |false=>exact q
abbrev R2:=V->V->Hp->VK->Prop
def OpR (X:Cx)(f:Value->Value->Sem Value)(r:R2):Prop:=
 ∀ (pins:List (Addr×Obj)) (s:Shared) (σ:St) (H:Hp) (x y:V) (v u:Value) (Q:VK),Inv X pins σ H s->RelV x v->RelV y u->r x y H Q ->
  wpAny (model X.prog X.w) X.A (f v u) (EP X pins σ Q) X.xe s
def UnR (X:Cx)(f:Value->Sem Value)(r:V->Hp->VK->Prop):Prop:=
 ∀ (pins:List (Addr×Obj)) (s:Shared) (σ:St) (H:Hp) (x:V) (v:Value) (Q:VK),Inv X pins σ H s->RelV x v->r x H Q ->
  wpAny (model X.prog X.w) X.A (f v) (EP X pins σ Q) X.xe s
def eX (X:Cx)(f:Value)(r:List V->Hp->VK->Prop):Prop:=
 ∀ (pins:List (Addr×Obj)) (s:Shared) (σ:St) (H:Hp) (xs:List V) (us:List Value) (Q:VK),Inv X pins σ H s->Vals xs us->r xs H Q ->
  wpAny (model X.prog X.w) X.A (call f us) (EP X pins σ Q) X.xe s
def TruR (X:Cx)(r:V->Hp->(Bool->Hp->Prop)->Prop):Prop:=
 ∀ (pins:List (Addr×Obj)) (s:Shared) (σ:St) (H:Hp) (x:V) (v:Value) (Q:Bool->Hp->Prop),Inv X pins σ H s->RelV x v->r x H Q ->
  wpAny (model X.prog X.w) X.A (truthy v) (TP X pins σ Q) X.xe s
def tOp (r:R2)(ta tb:TE):TE:=λσ H Q=>ta σ H λx H1=>tb σ H1 λy H2=>r x y H2 Q
def tUn (r:V->Hp->VK->Prop)(ta:TE):TE:=λσ H Q=>ta σ H λx H1=>r x H1 Q
def rI (C:Int->Int->Prop)(g:Int->Int->V):R2:=λx y H Q=>∃ i j,x=.int i/\y=.int j/\C i j/\Q (g i j) H
def rI0 (g:Int->Int->V):R2:=λx y H Q=>∃ i j,x=.int i/\y=.int j/\Q (g i j) H
def rU (g:Int->V):V->Hp->VK->Prop:=λx H Q=>∃ i,x=.int i/\Q (g i) H
section
variable {X:Cx}{a b c:Expr}{ta tb tc:TE}{pos:Pos}
def binT (ha:PE X a ta)(hb:PE X b tb){pins:List (Addr×Obj)}{s:Shared}{σ:St}{H:Hp}{R:V->V->Hp->Prop}(I:Inv X pins σ H s)
  (h:ta σ H λx H1=>tb σ H1 λy H2=>R x y H2) {Q:Value->Shared->Prop} {f:Value->Value->Sem Value}
  (hf:∀ v u s2 x y H2,Inv X pins σ H2 s2->RelV x v->RelV y u->R x y H2->wpAny (model X.prog X.w) X.A (f v u) Q X.xe s2) :
  wpAny (model X.prog X.w) X.A (eval a X.env) (λv s₁=>wpAny (model X.prog X.w) X.A (eval b X.env) (λu s₂=>wpAny (model X.prog X.w) X.A (f v u) Q X.xe s₂) X.xe s₁) X.xe s:=by
 refine thn (ha pins s σ H _ I h) λv s1 ⟨x,H1,I1,r1,q1⟩=>?_;refine thn (hb pins s1 σ H1 _ I1 q1) λu s2 ⟨y,H2,I2,r2,q2⟩=>?_;exact hf v u s2 x y H2 I2 r1 r2 q2
def aN {op:Operator}{r:R2}(ho:OpR X (DM op) r)(ha:PE X a ta)(hb:PE X b tb):PE X (.BinOp a op b pos) (tOp r ta tb):=by
 intro pins s σ H Q I h;exact wpAny_BinOp (binT ha hb I h λv u s2 x y H2 I2 rx ry q=>ho pins s2 σ H2 x y v u Q I2 rx ry q)
def fY {r:V->Hp->VK->Prop}(ho:UnR X (unaryOp op) r)(ha:PE X a ta):PE X (.UnaryOp op a pos) (tUn r ta):=by
 intro pins s σ H Q I h;exact UnaryOp_ (thn (ha pins s σ H _ I h) λv s1 ⟨x,H1,I1,r1,q1⟩=>ho pins s1 σ H1 x v Q I1 r1 q1)
def opI {f:Value->Value->Sem Value}{C:Int->Int->Prop}{g:Int->Int->Int}
  (rule:∀ (i j:Int) (t u:Tok) (s:Shared) (Q:Value->Shared->Prop) (E:Value->Shared->Prop),C i j->Q (.int (g i j) s.toks) { s with toks:=s.toks+1 }->wpAny (model X.prog X.w) X.A (f (.int i t) (.int j u)) Q E s) :
  OpR X f (rI C λi j=>.int (g i j)):=by
 intro pins s σ H x y v u Q I rx ry h;obtain ⟨i,j,rfl,rfl,hc,q⟩:=h;obtain ⟨t,rfl⟩:=rx;obtain ⟨t',rfl⟩:=ry;exact rule i j t t' s _ _ hc ⟨.int (g i j),H,I.tok _,⟨_,rfl⟩,q⟩
def opI0 {f:Value->Value->Sem Value}{g:Int->Int->Int}
  (rule:∀ (i j:Int) (t u:Tok) (s:Shared) (Q:Value->Shared->Prop) (E:Value->Shared->Prop),Q (.int (g i j) s.toks) { s with toks:=s.toks+1 }->wpAny (model X.prog X.w) X.A (f (.int i t) (.int j u)) Q E s) :
  OpR X f (rI0 λi j=>.int (g i j)):=by
 intro pins s σ H x y v u Q I rx ry h;obtain ⟨i,j,rfl,rfl,q⟩:=h;obtain ⟨t,rfl⟩:=rx;obtain ⟨t',rfl⟩:=ry;exact rule i j t t' s _ _ ⟨.int (g i j),H,I.tok _,⟨_,rfl⟩,q⟩
def opB0 {f:Value->Value->Sem Value}{g:Int->Int->Bool}
  (rule:∀ (i j:Int) (t u:Tok) (s:Shared) (Q:Value->Shared->Prop) (E:Value->Shared->Prop),Q (.bool (g i j)) s->wpAny (model X.prog X.w) X.A (f (.int i t) (.int j u)) Q E s) :
  OpR X f (rI0 λi j=>.bl (g i j)):=by
 intro pins s σ H x y v u Q I rx ry h;obtain ⟨i,j,rfl,rfl,q⟩:=h;obtain ⟨t,rfl⟩:=rx;obtain ⟨t',rfl⟩:=ry;exact rule i j t t' s _ _ ⟨.bl (g i j),H,I,rfl,q⟩
def CDiv (i j:Int):Prop:=0<j/\j<1073741824
def CDivN (i j:Int):Prop:=j≠0/\j.natAbs<1073741824
def CPow (i j:Int):Prop:=0<=j/\j<=1000000/\i.natAbs<2^64
def CMul (i j:Int):Prop:=(-(2^64)<i/\i<2^64)\/(-(2^64)<j/\j<2^64)
def bF:OpR X (DM .Add) (rI0 λi j=>.int (i+j)):=opI0 λ_ _ _ _ _ _ _ q=>add_int q
def vZ:OpR X (DM .Sub) (rI0 λi j=>.int (i-j)):=opI0 λ_ _ _ _ _ _ _ q=>sub_int q
def bM:OpR X (DM .Mod) (rI (λ_ j=>0<j) λi j=>.int (i%j)):=opI λi j _ _ _ _ _ hc q=>by
 have h1:(0:Int)<j:=hc;exact mod_int' (by omega) (by rw [Int.fmod_eq_emod_of_nonneg i (by omega)];exact q)
def unI {f:Value->Sem Value}{g:Int->Int}
  (rule:∀ (i:Int) (t:Tok) (s:Shared) (Q:Value->Shared->Prop) (E:Value->Shared->Prop),Q (.int (g i) s.toks) { s with toks:=s.toks+1 }->wpAny (model X.prog X.w) X.A (f (.int i t)) Q E s) :
  UnR X f (rU λi=>.int (g i)):=by
 intro pins s σ H x v Q I rx h;obtain ⟨i,rfl,q⟩:=h;obtain ⟨t,rfl⟩:=rx;exact rule i t s _ _ ⟨.int (g i),H,I.tok _,⟨_,rfl⟩,q⟩
def dO:UnR X (unaryOp .USub) (rU λi=>.int (-i)):=unI λ_ _ _ _ _ q=>neg_int q
end
def scal:V->V->Bool
 |.non,.non=>true|.non,.int _=>true|.int _,.non=>true|.non,.bl _=>true|.bl _,.non=>true|.non,.str _=>true|.str _,.non=>true
 |.int _,.int _=>true|.bl _,.bl _=>true|.str _,.str _=>true|.byt _,.byt _=>true
 |.int _,.str _=>true|.str _,.int _=>true|.bl _,.str _=>true|.str _,.bl _=>true
 |_,_=>false
def rEq:R2:=λx y H Q=>scal x y=true/\Q (.bl (decide (x=y))) H
def rNe:R2:=λx y H Q=>scal x y=true/\Q (.bl (!decide (x=y))) H
def yC {i j:Int}:decide (V.int i=V.int j)=(i==j):=by
 rw [EZ];simp
def aCd {i j:Bool}:decide (V.bl i=V.bl j)=(i==j):=by
 rw [EZ];simp
def yB :decide (V.str i=V.str j)=(i==j):=by
 rw [EZ];simp
def yD :decide (V.byt i=V.byt j)=(i.toList==j.toList):=by
 rw [EZ];cases i;cases j;simp
section
variable {X:Cx}{a b c:Expr}{ta tb tc:TE}{pos:Pos}
def bH {σ:St}{s:Shared}{k k':Bool}(I:Inv X pins σ H s)(q:Q (.bl k) H)(e:k=k'):EP X pins σ Q (.bool k') s:=by
 subst e;exact ⟨.bl k,H,I,rfl,q⟩
def cV:OpR X (BO .Eq) rEq:=by
 intro pins s σ H x y v u Q I rx ry h;obtain ⟨hs,q⟩:=h;cases x with
 |non=>
  cases rx;cases y with
  |non=>cases ry;exact PySem.EqNone.eq_none_none (bH I q (by simp))
  |bl j=>cases ry;exact PySem.EqNone.eq_none_bool (bH I q (by simp))
  |int j=>obtain ⟨t',rfl⟩:=ry;exact PySem.EqNone.eq_none_int (bH I q (by simp))
  |str j=>obtain ⟨t',rfl⟩:=ry;exact PySem.EqNone.eq_none_str (bH I q (by simp))
  |_=>exact absurd (show false=true from hs) AK
 |bl i=>
  cases rx;cases y with
  |non=>cases ry;exact PySem.EqNone.eq_bool_none (bH I q (by simp))
  |bl j=>cases ry;exact eq_bool (bH I q aCd)
  |str j=>obtain ⟨t',rfl⟩:=ry;exact PySem.EqMixed.eq_bool_str (bH I q (by simp))
  |_=>exact absurd (show false=true from hs) AK
 |int i=>
  obtain ⟨t,rfl⟩:=rx;cases y with
  |non=>cases ry;exact PySem.EqNone.eq_int_none (bH I q (by simp))
  |int j=>obtain ⟨t',rfl⟩:=ry;exact eq_int (bH I q yC)
  |str j=>obtain ⟨t',rfl⟩:=ry;exact PySem.EqMixed.eq_int_str (bH I q (by simp))
  |_=>exact absurd (show false=true from hs) AK
 |str i=>
  obtain ⟨t,rfl⟩:=rx;cases y with
  |non=>cases ry;exact PySem.EqNone.eq_str_none (bH I q (by simp))
  |bl j=>cases ry;exact PySem.EqMixed.eq_str_bool (bH I q (by simp))
  |int j=>obtain ⟨t',rfl⟩:=ry;exact PySem.EqMixed.eq_str_int (bH I q (by simp))
  |str j=>obtain ⟨t',rfl⟩:=ry;exact eq_str (bH I q yB)
  |_=>exact absurd (show false=true from hs) AK
 |byt i=>
  obtain ⟨t,rfl⟩:=rx;cases y with
  |byt j=>obtain ⟨t',rfl⟩:=ry;exact PySem.W.eq_bytes (bH I q yD)
  |_=>exact absurd (show false=true from hs) AK
 |_=>cases y<;>exact absurd (show false=true from hs) AK
def aG7:OpR X (BO .NotEq) rNe:=by
 intro pins s σ H x y v u Q I rx ry h;obtain ⟨hs,q⟩:=h;cases x with
 |non=>
  cases rx;cases y with
  |non=>cases ry;exact PySem.EqNone.ne_none_none (bH I q (by simp))
  |bl j=>cases ry;exact PySem.EqNone.ne_none_bool (bH I q (by simp))
  |int j=>obtain ⟨t',rfl⟩:=ry;exact PySem.EqNone.ne_none_int (bH I q (by simp))
  |str j=>obtain ⟨t',rfl⟩:=ry;exact PySem.EqNone.ne_none_str (bH I q (by simp))
  |_=>exact absurd (show false=true from hs) AK
 |bl i=>
  cases rx;cases y with
  |non=>cases ry;exact PySem.EqNone.ne_bool_none (bH I q (by simp))
  |bl j=>cases ry;exact ne_bool (bH I q (congrArg not aCd))
  |str j=>obtain ⟨t',rfl⟩:=ry;exact PySem.EqMixed.ne_bool_str (bH I q (by simp))
  |_=>exact absurd (show false=true from hs) AK
 |int i=>
  obtain ⟨t,rfl⟩:=rx;cases y with
  |non=>cases ry;exact PySem.EqNone.ne_int_none (bH I q (by simp))
  |int j=>obtain ⟨t',rfl⟩:=ry;exact ne_int (bH I q (congrArg not yC))
  |str j=>obtain ⟨t',rfl⟩:=ry;exact PySem.EqMixed.ne_int_str (bH I q (by simp))
  |_=>exact absurd (show false=true from hs) AK
 |str i=>
  obtain ⟨t,rfl⟩:=rx;cases y with
  |non=>cases ry;exact PySem.EqNone.ne_str_none (bH I q (by simp))
  |bl j=>cases ry;exact PySem.EqMixed.ne_str_bool (bH I q (by simp))
  |int j=>obtain ⟨t',rfl⟩:=ry;exact PySem.EqMixed.ne_str_int (bH I q (by simp))
  |str j=>obtain ⟨t',rfl⟩:=ry;exact ne_str (bH I q (congrArg not yB))
  |_=>exact absurd (show false=true from hs) AK
 |byt i=>
  obtain ⟨t,rfl⟩:=rx;cases y with
  |byt j=>obtain ⟨t',rfl⟩:=ry;exact PySem.W.ne_bytes (bH I q (congrArg not yD))
  |_=>exact absurd (show false=true from hs) AK
 |_=>cases y<;>exact absurd (show false=true from hs) AK
def qA:OpR X (BO .Lt) (rI0 λi j=>.bl (decide (i<j))):=opB0 λ_ _ _ _ _ _ _ q=>lt_int q
def qB:OpR X (BO .Gt) (rI0 λi j=>.bl (decide (j<i))):=opB0 λ_ _ _ _ _ _ _ q=>gt_int q
def lW:OpR X (BO .IsNot) (λx y H Q=>y=.non/\Q (.bl (!decide (x=.non))) H):=by
 intro pins s σ H x y v u Q I rx ry h;obtain ⟨rfl,q⟩:=h;cases ry;refine isnot_none_gen (bH I q ?_);cases x<;>first
  |(cases rx;rfl)
  |(obtain ⟨t,rfl⟩:=rx;rfl)
def isObj:HO->Bool
 |.lst _=>true
 |.ins _ _ _=>true
 |_=>false
def aV (b:Expr)(h:op≠.In:=by decide)(h2:op≠.NotIn:=by decide):behindInMarks op b=false:=by
 have e1:(op==CmpOp.In)=false:=by cases op<;>first|rfl|exact absurd rfl h
 have e2:(op==CmpOp.NotIn)=false:=by cases op<;>first|rfl|exact absurd rfl h2
 cases b<;>simp [behindInMarks,e1,e2]
def cZ {op:CmpOp}{r:R2}(ho:OpR X (BO op) r)(ha:PE X a ta)(hb:PE X b tb)(hm:behindInMarks op b=false):PE X (.Compare a [op] [b] pos) (tOp r ta tb):=by
 intro pins s σ H Q I h;exact wpAny_Compare1 (binT ha hb I h λv u s2 x y H2 I2 rx ry q=>ho pins s2 σ H2 x y v u Q I2 rx ry q) hm
def aGp (t:TE):TT:=λσ H Q=>t σ H λx H'=>∃ k,x=.bl k/\Q k H'
def aM {r:R2}(ho:OpR X (BO op) r)(ha:PE X a ta)(hb:PE X b tb)(hm:behindInMarks op b=false):PT X (.Compare a [op] [b] pos) (aGp (tOp r ta tb)):=by
 intro pins s σ H Q I h;refine wpAny_isTrue_Compare1 (thn (ha pins s σ H _ I h) λv s1 ⟨x,H1,I1,r1,q1⟩=>thn (hb pins s1 σ H1 _ I1 q1) λu s2 ⟨y,H2,I2,r2,q2⟩=>
  thn (ho pins s2 σ H2 x y v u _ I2 r1 r2 q2) λc s3 ⟨z,H3,I3,r3,k,e,q3⟩=>?_) hm
 subst e;cases r3;exact Ea ⟨H3,I3,q3⟩
def tChain (r r':R2)(ta tb tc:TE):TE:=λσ H Q=>ta σ H λx H1=>tb σ H1 λy H2=>r x y H2 λz H3=>∃ k,z=.bl k /\
 (if k=true then tc σ H3 λw' H4=>r' y w' H4 Q else Q (.bl false) H3)
def TruV (K:Ab)(x:V)(H:Hp)(k:Bool):Prop:=
 match x with
 |.non=>k=false
 |.bl b=>k=b
 |.int i=>k=(i != 0)
 |.str y=>y.length<=AE/\k=((y.length:Int) != 0)
 |.byt y=>y.size<=AE/\k=((y.size:Int) != 0)
 |.ref p=>(∃ xs,SqL K H p xs/\k=!xs.isEmpty)\/(∃ xs,SqT K H p xs/\k=!xs.isEmpty)\/∃ kvs,H p=some (.dK kvs)/\k=!kvs.isEmpty
 |_=>False
def nX:(AE:Nat)<2^63:=by rw [Dx];decide
def dA:OpR X (DM .Add) (λx y H Q=>∃ i j,x=.str i/\y=.str j/\i.length+j.length<=AE/\Q (.str (i++j)) H):=by
 intro pins s σ H x y v u Q I rx ry h;obtain ⟨i,j,rfl,rfl,hz,q⟩:=h;obtain ⟨t,rfl⟩:=rx;obtain ⟨t',rfl⟩:=ry;exact add_str (λt' tk=>⟨.str (i++j),H,I.tok _,⟨_,rfl⟩,q⟩) hz
def PlainIxT (b:Expr):Prop:=∀ o i,subscripted b false o i=operate [o,i] (getItem o i)
def vals1 (r:Vals [x] us):∃ u,us=[u]/\RelV x u:=by
 cases r with
 |cons r1 r2=>cases r2;exact ⟨_,rfl,r1⟩
def vals2 (r:Vals [x,y] us):∃ u w',us=[u,w']/\RelV x u/\RelV y w':=by
 cases r with
 |cons r1 r2=>
  cases r2 with
  |cons r3 r4=>cases r4;exact ⟨_,_,rfl,r1,r3⟩
def gD:eX X (.builtin "abs") (λxs H Q=>∃ i,xs=[.int i]/\Q (.int (if i<0 then -i else i)) H):=by
 intro pins s σ H xs us Q I r h;obtain ⟨i,rfl,q⟩:=h;obtain ⟨u,rfl,t,rfl⟩:=vals1 r;exact call_abs_int λu tk=>⟨.int (if i<0 then -i else i),H,I.tok _,⟨_,rfl⟩,q⟩
def oS (hc:X.calm=true):eX X (.builtin "max") (λxs H Q=>∃ i j,xs=[.int i,.int j]/\Q (.int (if j > i then j else i)) H):=by
 intro pins s σ H xs us Q I r h;obtain ⟨i,j,rfl,q⟩:=h;obtain ⟨u,w',rfl,⟨t,rfl⟩,⟨t',rfl⟩⟩:=vals2 r;refine max_two_ints (I.ok.hd hc) λh' tk k=>⟨_,H,I.kept k,?_,q⟩
 by_cases hj:j > i
 ·rw [if_pos hj,if_pos hj];exact ⟨_,rfl⟩
 ·rw [if_neg hj,if_neg hj];exact ⟨_,rfl⟩
def yJ (hc:X.calm=true):eX X (.builtin "min") (λxs H Q=>∃ i j,xs=[.int i,.int j]/\Q (.int (if j<i then j else i)) H):=by
 intro pins s σ H xs us Q I r h;obtain ⟨i,j,rfl,q⟩:=h;obtain ⟨u,w',rfl,⟨t,rfl⟩,⟨t',rfl⟩⟩:=vals2 r;refine min_two_ints (I.ok.hd hc) λh' tk k=>⟨_,H,I.kept k,?_,q⟩
 by_cases hj:j<i
 ·rw [if_pos hj,if_pos hj];exact ⟨_,rfl⟩
 ·rw [if_neg hj,if_neg hj];exact ⟨_,rfl⟩
def yK:eX X (.type "int") (λxs H Q=>(∃ i,xs=[.int i]/\Q (.int i) H)\/∃ k,xs=[.bl k]/\Q (.int (if k then 1 else 0)) H):=by
 intro pins s σ H xs us Q I r h
 rcases h with ⟨i,rfl,q⟩|⟨k,rfl,q⟩
 ·obtain ⟨u,rfl,t,rfl⟩:=vals1 r
  exact call_int_int ⟨.int i,H,I,⟨_,rfl⟩,q⟩
 ·obtain ⟨u,rfl,r1⟩:=vals1 r
  cases r1;exact call_int_bool ⟨.int (if k then 1 else 0),H,I.tok _,⟨_,rfl⟩,q⟩
def LenV (K:Ab)(x:V)(H:Hp)(n:Nat):Prop:=
 match x with
 |.str y=>y.length<=AE/\n=y.length
 |.byt y=>y.size<=AE/\n=y.size
 |.ref p=>(∃ xs,SqL K H p xs/\n=xs.length)\/∃ xs,SqT K H p xs/\n=xs.length
 |_=>False
end
structure ObjM (h:Heap)(x dx C:Addr)(mA:Str->Option Value):Prop where
 obj:h.get? x=some (CV C dx)
 ns:h.Ns1 dx mA
 ne:dx≠x
def xD {h:Heap}{dx:Addr}{mA:Str->Option Value}(n:h.Ns1 dx mA):∃ od,h.get? dx=some od/\∀ name,PySem.W.lookIn name od=some (mA name):=by
 obtain ⟨o,es,ep,ho,hd,hk,_,hm⟩:=n;refine ⟨o,ho,λname=>?_⟩;have e:=hm name;unfold nsFind findBy at e;rw [<- Array.find?_toList] at e;unfold PySem.W.lookIn;rw [hd];dsimp only;split
 ·rename_i y q
  rw [q] at e;exact congrArg some e
 ·rename_i q
  rw [q] at e;have a:es.toList.any (·.refKey)=false:=by
   rw [List.any_eq_false];intro y hy;obtain ⟨z,t,hkey⟩:=hk y (Array.mem_toList_iff.mp hy);simp [DictEntry.refKey,hkey]
  have a':¬ es.toList.any (·.refKey)=true:=by rw [a];exact AK
  rw [if_neg a'];exact congrArg some e
def ObjM.look (I:ObjM h x dx C mA):∃ od,PySem.W.InstAt h x (CV C dx) C (some od)/\∀ name,PySem.W.lookIn name od=some (mA name):=
 let ⟨od,ho,hl⟩:=xD I.ns
 ⟨od,⟨I.obj,rfl,rfl,ho⟩,hl⟩
section
variable {prog:AF}{w:World}{A:Around}{E:Value->Shared->Prop}{s:Shared}{K:Ab}{x dx C f:Addr}{mA:Str->Option Value}{name:Str}{v:Value}
def get_map {expr:Bool}(X:K.In s.heap)(I:ObjM s.heap x dx C mA)(hg:PySem.W.plainGet K C name=true)(hh:PySem.W.hasDictIn K C=true)(ha:AZ K (.ref C) name=some none)(hv:mA name=some v)(hv':PySem.W.handedIn v=true)(h:Q v { s with toks:=s.toks+1 }) :
  wpAny (model prog w) A (getAttr (.ref x) name expr) Q E s:=by
 obtain ⟨od,J,hl⟩:=I.look;exact PySem.W.get_value X J (PySem.W.plainGet_of hg).1 (PySem.W.findObj_own hh ha rfl (by rw [hl,hv])) hv' h
def aA5 (X:K.In s.heap)(I:ObjM s.heap x dx C mA)(hg:PySem.W.plainGet K C name=true)(hf:AZ K (.ref C) name=some (some (.ref f)))(ht:PySem.W.isFn K (.ref f)=true)(hv:mA name=none)(h:Q (.ref f,[.ref x]) s) :
  wpAny (model prog w) A (getMethod (.ref x) name pl) Q E s:=by
 obtain ⟨od,J,hl⟩:=I.look;exact PySem.W.method_fn X J (PySem.W.plainGet_of hg).1 (PySem.W.plainGet_of hg).2 hf (beq_iff_eq.mp ht) (by show (PySem.W.lookIn name od).map (·.isSome)=some false;rw [hl,hv];rfl) h
def aCw (X:K.In s.heap)(I:ObjM s.heap x dx C mA)(hs:AZ K (.ref C) "__setattr__" = some (some (.builtin "object.__setattr__")))(hp:PySem.W.plainOver K C=true)(ht:PySem.W.takerIn K C name=some none)(hh:PySem.W.hasDictIn K C=true)(hw:PySem.Within mA ns)(hsz:ns.length<=AE)(h:∀ h',ObjM h' x dx C (λy=>if y=name then some v else mA y)->Bq dx s.heap h'->Q () { s with heap:=h',toks:=s.toks+2 }) :
  wpAny (model prog w) A (setAttr (.ref x) name v) Q E s:=by
 obtain ⟨od,J,hl⟩:=I.look;refine PySem.W.set_plain X J hs (PySem.W.osa_open (s:={ s with toks:=s.toks+1 }) (r:=none) X J hp ht λb=>?_);obtain ⟨cd,hc,hd'⟩:=PySem.W.any_some hh;have hx:s.heap.get? x=some ⟨.ref C,some dx,.plain,#[]⟩:=I.obj;refine Aa (Ag (Aa (Aa (wpAny_loadPart hx (Aa (PySem.W.Looks.here (s:={ s with toks:=s.toks+1 }) (PySem.W.looks_clsIn X hc) ?_))))));rw [hd'];refine Ag (a:=some dx) (Aa (Ag (Aa ?_)));refine wpAny_nsSet1 (s:={ s with toks:=s.toks+1 }) I.ns λh' hn2 hs2=>?_;obtain ⟨oD,esD,epD,hoD,hdD,hcD⟩:=hn2.count (PySem.Within.cons name v hw);refine Aa (wpAny_lookBehind hoD (by rw [hdD];exact pastItsLine_dict (Bh hcD (by rw [AI];omega))) ?_);exact Ag (h _ ⟨(hs2.2 _ (BU I.ne)).trans I.obj,hn2,I.ne⟩ hs2)
def aAz (X:K.In s.heap)(hm:PySem.W.makesIn K C=true)(hi:AZ K (.ref C) "__init__" = some (some (.ref f)))(hf:PySem.W.typeIn K (.ref f)=some (.type "function"))(h:DE (model prog w) (A.under (.builtin "type.__call__" ⟨.ref C::vs,kw⟩)) (.call (.ref f) ⟨.ref (s.heap.objs.size+1)::vs,kw⟩) (PySem.W.InitBack (s.heap.objs.size+1) R)
   { s with heap:=(s.heap.push Cj).push (CV C s.heap.objs.size) }) :
  DE (model prog w) A (.call (.ref C) ⟨vs,kw⟩) R s:=by
 obtain ⟨hh,g,d,t,os⟩:=s;exact PySem.W.make_core (PySem.W.makes_of X hm) (PySem.W.looks_findIn X hi) (λself=>PySem.W.bind_fn X self hf) (.inl rfl) h
end
def putF (f:Str)(v:V):List (Str×V)->List (Str×V)
  |[]=>[(f,v)]
  |(g,x)::r=>if g=f then (g,v)::r else (g,x)::putF f v r
theorem jK (f g:Str)(v:V):∀ fs:List (Str×V),(putF f v fs).lookup g=if g=f then some v else fs.lookup g
  |[]=>by
    show Dl g [(f,v)]=_
    by_cases h:g=f
    · have hb:(g==f)=true:=beq_iff_eq.mpr h;simp only [Dl,hb,if_pos h]
    · have hb:(g==f)=false:=beq_eq_false_iff_ne.mpr h;simp only [Dl,hb,if_neg h]
  |(k,x)::r=>by
    have ih:=jK f g v r;rw [show putF f v ((k,x)::r)=(if k=f then (k,v)::r else (k,x)::putF f v r) from rfl]
    by_cases hk:k=f
    · rw [if_pos hk]
      by_cases h:g=k
      · have hb:(g==k)=true:=beq_iff_eq.mpr h;simp only [Dl,hb,if_pos (h.trans hk)]
      · have hb:(g==k)=false:=beq_eq_false_iff_ne.mpr h;simp only [Dl,hb,if_neg (λe:g=f=>h (e.trans hk.symm))]
    · rw [if_neg hk]
      by_cases h:g=k
      · have hb:(g==k)=true:=beq_iff_eq.mpr h;simp only [Dl,hb,if_neg (λe:g=f=>hk (h.symm.trans e))]
      · have hb:(g==k)=false:=beq_eq_false_iff_ne.mpr h;simp only [Dl,hb];exact ih
theorem jP (f:Str)(v:V):∀ fs:List (Str×V),f∈(putF f v fs).map (·.1)/\∀ g,g∈fs.map (·.1)->g∈(putF f v fs).map (·.1)
  |[]=>⟨by simp [putF],λg h=>by simp at h⟩
  |(k,x)::r=>by
    obtain ⟨i1,i2⟩:=jP f v r;rw [show putF f v ((k,x)::r)=(if k=f then (k,v)::r else (k,x)::putF f v r) from rfl]
    by_cases hk:k=f
    · rw [if_pos hk];subst hk;exact ⟨by simp,λg h=>by simpa using h⟩
    · rw [if_neg hk];refine ⟨?_,λg h=>?_⟩
      · rw [Bb];exact Au _ i1
      · rw [Bb] at h ⊢
        rcases Aw.mp h with e|e
        · exact Aw.mpr (.inl e)
        · exact Au _ (i2 g e)
theorem jL (f:Str)(v:V):∀ fs:List (Str×V),(putF f v fs).length<=fs.length+1
  |[]=>by simp [putF]
  |(k,x)::r=>by
    have ih:=jL f v r;rw [show putF f v ((k,x)::r)=(if k=f then (k,v)::r else (k,x)::putF f v r) from rfl]
    by_cases hk:k=f
    · rw [if_pos hk,AI,AI];omega
    · rw [if_neg hk,AI,AI];omega
def RelO.some_of (r:RelO (some v) o):∃ u,o=some u/\RelV v u:=by
 cases o with
 |none=>exact (show False from r).elim
 |some u=>exact ⟨u,rfl,r⟩
def RelO.none_of (r:RelO none o):o=none:=by
 cases o with
 |none=>rfl
 |some u=>exact (show False from r).elim
def oF {u:Value}(r:RelV v u):PySem.W.handedIn u=true:=by
 cases v with
 |non=>cases (show u=BI from r);rfl
 |bl b=>cases (show u=Value.bool b from r);rfl
 |int i=>obtain ⟨t,e⟩:=(show ∃ t,u=Value.int i t from r);cases e;rfl
 |str x=>obtain ⟨t,e⟩:=(show ∃ t,u=Value.str x t from r);cases e;rfl
 |byt b=>obtain ⟨t,e⟩:=(show ∃ t,u=Value.bytes b t from r);cases e;rfl
 |flt b=>obtain ⟨t,e⟩:=(show ∃ t,u=Value.float b t from r);cases e;rfl
 |ref a=>cases (show u=AN a from r);rfl
 |ty n=>cases (show u=Da n from r);rfl
section
variable {P:AF}{w:World}{H H':Hp}{h h':Heap}{a C dx:Addr}{fs fs':List (Str×V)}
def qI (hok:HOk P w H h)(e:H a=some (.ins C dx fs)):∃ mA,ObjM h a dx C mA/\(∀ f,RelO (fs.lookup f) (mA f))/\PySem.Within mA (fs.map (·.1))/\fs.length<=1000/\H dx=some (.own a):=by
 obtain ⟨d,z,ne,ob,mA,n,r,q⟩:=(show ObjOk P w H h a (.ins C dx fs) from hok a _ e);exact ⟨mA,⟨ob,n,ne⟩,r,q,z,d⟩
end
structure Cls (K:Ab)(C:Addr):Prop where
 pg:PySem.W.plainGet K C Str.empty=true
 hd:PySem.W.hasDictIn K C=true
 po:PySem.W.plainOver K C=true
 sa:AZ K (.ref C) "__setattr__" = some (some (.builtin "object.__setattr__"))
def Cls.get {K:Ab}{C:Addr}(c:Cls K C)(f:Str):PySem.W.plainGet K C f=true:=c.pg
def NoAttr (K:Ab)(C:Addr)(f:Str):Prop:=AZ K (.ref C) f=some none
def NoAttr.taker {K:Ab}{C:Addr}{f:Str}(n:NoAttr K C f):PySem.W.takerIn K C f=some none:=by
 unfold PySem.W.takerIn;rw [show AZ K (.ref C) f=some none from n];rfl
structure Con (K:Ab)(C:Addr)(f:Str)(v:V)(u:Value):Prop where
 at_:AZ K (.ref C) f=some (some u)
 rel:RelV v u
 get:PySem.W.specialIn K u "__get__" = some none
 cp:PySem.W.copiedNames.contains f=false
structure Meth (K:Ab)(C:Addr)(m:Str)(f:Addr):Prop where
 at_:AZ K (.ref C) m=some (some (.ref f))
 fn:PySem.W.isFn K (.ref f)=true
 kp:BK K (.ref f)=true
section
variable {X:Cx}{pins:List (Addr×Obj)}{σ:St}{H:Hp}{s:Shared}{a C dx:Addr}{fs:List (Str×V)}{f:Str}{v:V}{A:Around}{E:Value->Shared->Prop}
def uA {b:Bool}(I:Inv X pins σ H s)(e:H a=some (.ins C dx fs))(c:Cls X.K C)(n:NoAttr X.K C f)(l:fs.lookup f=some v)(h:∀ u s',Inv X pins σ H s'->RelV v u->Q u s'):wpAny (model X.prog X.w) A (getAttr (.ref a) f b) Q E s:=by
 obtain ⟨mA,O,r,_,_,_⟩:=qI I.hok e;obtain ⟨u,hu,ru⟩:=RelO.some_of (v:=v) (o:=mA f) (by rw [<- l];exact r f);exact get_map I.kIn O (c.get f) c.hd n hu (oF ru) (h u _ (I.tok _) ru)
def kU (I:Inv X pins σ H s)(e:H a=some (.ins C dx fs))(c:Cls X.K C)(k:Meth X.K C m g)(l:fs.lookup m=none)(h:Q (.ref g,[.ref a]) s):wpAny (model X.prog X.w) A (getMethod (.ref a) m pl) Q E s:=by
 obtain ⟨mA,O,r,_,_,_⟩:=qI I.hok e;have hn:mA m=none:=RelO.none_of (by rw [<- l];exact r m);exact aA5 I.kIn O (c.get m) k.at_ k.fn hn h
def sZ {u:Value}(I:Inv X pins σ H s)(e:H a=some (.ins C dx fs))(c:Cls X.K C)(n:NoAttr X.K C f)(hl:fs.length<1000)(ry:RelV y u)(h:∀ s',Inv X pins σ (upd H a (.ins C dx (putF f y fs))) s'->Q () s'):wpAny (model X.prog X.w) A (setAttr (.ref a) f u) Q E s:=by
 obtain ⟨mA,O,r,wi,_,ho⟩:=qI I.hok e;have hz:(fs.map (·.1)).length<=AE:=by rw [Ac,Dx];omega
 refine aCw I.kIn O c.sa c.po n.taker c.hd wi hz λh' O' sb=>h _ ?_;have hd:∃ o,h'.get? dx=some o:=let ⟨o,_,_,e',_⟩:=O'.ns;⟨o,e'⟩;refine I.write (x:=a) (e:=dx) (by rw [e];exact DN) (.inr ho) (λb q hb z=>(sb.2 b hb).trans z) hd ?_;refine ⟨by rw [aE O.ne];exact ho,?_,O.ne,O'.obj,_,O'.ns,λg=>?_,λg hg=>?_⟩
 ·have:=jL f y fs;omega
 ·show RelO ((putF f y fs).lookup g) (if g=f then some u else mA g)
  rw [jK]
  by_cases q:g=f
  ·rw [if_pos q,if_pos q];exact ry
  ·rw [if_neg q,if_neg q];exact r g
 ·by_cases q:g=f
  ·rw [q];exact (jP f y fs).1
  ·refine (jP f y fs).2 g (wi g λz=>hg ?_)
   show (if g=f then some u else mA g)=none;rw [if_neg q];exact z
def Inv.made (I:Inv X pins σ H s):Inv X pins σ (upd (upd H s.heap.objs.size (.own (s.heap.objs.size+1))) (s.heap.objs.size+1) (.ins C s.heap.objs.size []))
  { s with heap:=(s.heap.push Cj).push (CV C s.heap.objs.size) }:=by
 have e1:(s.heap.push Cj).get? s.heap.objs.size=some Cj:=An s.heap rfl;have e2:((s.heap.push Cj).push (CV C s.heap.objs.size)).get? (s.heap.objs.size+1)=some (CV C s.heap.objs.size):=by
  have:=An (s.heap.push Cj) (o:=CV C s.heap.objs.size) rfl;rwa [CT] at this
 have e3:(s.heap.push Cj).Ns s.heap.objs.size (λ_=>none):=⟨Cj,#[],_,e1,rfl,(λe he=>absurd he (by simp)),λ_=>rfl⟩;have I1:=I.laid (a:=s.heap.objs.size) (o:=.own (s.heap.objs.size+1)) (h':=s.heap.push Cj) (t':=s.toks) (λb u q=>Ae _ q) (Ao _) ⟨_,e1⟩;refine I1.laid (a:=s.heap.objs.size+1) (o:=.ins C s.heap.objs.size []) (t':=s.toks) (λb u q=>Ae _ q) (Nat.le_of_eq (CT _ _)) ?_;have ne:s.heap.objs.size≠s.heap.objs.size+1:=AG (CO _);refine ⟨by rw [aE ne,aB],Bi _,ne,e2,λ_=>none,(Heap.Ns1.of_empty e3).at λo q=>Ae _ q,λ_=>DN,λy hy=>absurd rfl hy⟩
def yN {f:Str}{pos:Pos}{s:Shared}(hb:Ee e f env (eval e env)=eval e env)(h:wpAny (model prog w) A (eval e env) (λo s₁=>wpAny (model prog w) A (getAttr o f true) Q E s₁) E s):wpAny (model prog w) A (eval (.Attribute e f pos) env) Q E s:=
 Attribute_any_ h (by rw [arm_eval_Attribute,hb])
end
def tFld (K:Ab)(ta:TE)(f:Str):TE:=λσ H Q=>ta σ H λx H1=>∃ a C dx fs v,x=.ref a/\H1 a=some (.ins C dx fs)/\Cls K C/\NoAttr K C f/\fs.lookup f=some v/\Q v H1
def tCon (K:Ab)(ta:TE)(f:Str):TE:=λσ H Q=>ta σ H λx H1=>∃ a C dx fs v u,x=.ref a/\H1 a=some (.ins C dx fs)/\Cls K C/\Con K C f v u/\fs.lookup f=none/\Q v H1
def sFld (K:Ab)(ta tv:TE)(f:Str):TS:=λD σ H=>tv σ H λy H1=>ta σ H1 λx H2=>∃ a C dx fs,x=.ref a/\H2 a=some (.ins C dx fs)/\Cls K C/\NoAttr K C f/\fs.length<1000 /\
 D.nx σ (upd H2 a (.ins C dx (putF f y fs)))
def InOp (X:Cx)(op:Operator)(rd:V->V->Hp->VK->Prop):Prop:=
 ∀ (pins:List (Addr×Obj)) (s:Shared) (σ:St) (H:Hp) (x y:V) (u v:Value) (Q:VK),Inv X pins σ H s->RelV x u->RelV y v->rd x y H Q->wpAny (model X.prog X.w) X.A (inplaceOp op u v) (EP X pins σ Q) X.xe s
def sFldAug (K:Ab)(ta tv:TE)(rd:V->V->Hp->VK->Prop)(f:Str):TS:=λD σ H=>ta σ H λx H1=>∃ a C dx fs v,x=.ref a/\H1 a=some (.ins C dx fs)/\Cls K C/\NoAttr K C f/\fs.lookup f=some v /\
 tv σ H1 λy H2=>rd v y H2 λz H3=>∃ dx' fs',H3 a=some (.ins C dx' fs')/\fs'.length<1000/\D.nx σ (upd H3 a (.ins C dx' (putF f z fs')))
section
variable {X:Cx}{o e value:Expr}{f:Str}{pos pos' tpos:Pos}{ta tv:TE}
def bU (he:PE X e ta)(hb:Ee e f X.env (eval e X.env)=eval e X.env):PE X (.Attribute e f pos) (tFld X.K ta f):=by
 intro pins s σ H Q I h;refine yN hb (thn (he pins s σ H _ I h) λu s1 ⟨x,H1,I1,rx,a,C,dx,fs,v,ex,ea,c,n,l,q⟩=>?_);subst ex;obtain rfl:u=AN a:=rx;exact uA I1 ea c n l λu' s2 I2 ru=>⟨v,H1,I2,ru,q⟩
def iX (ha:PE X o ta)(hv:PE X value tv)(hs:swapsWith value (some (.Attribute o f pos')) pos.line X.env=pure false):PS X (.Assign [.Attribute o f pos'] value pos) (sFld X.K ta tv f):=by
 intro pins s σ H D I h;refine EN (thn (hv pins s σ H _ I h) λu s1 ⟨y,H1,I1,ry,q⟩=>thn (ha pins s1 σ H1 _ I1 q) λov s2 ⟨x,H2,I2,rx,a,C,dx,fs,ex,ea,c,n,l,q2⟩=>?_) hs;subst ex;obtain rfl:ov=AN a:=rx;exact sZ I2 ea c n l ry λs3 I3=>⟨σ,_,I3,q2⟩
def rAdd:V->V->Hp->VK->Prop:=λx y H Q=>∃ i j,x=.int i/\y=.int j/\Q (.int (i+j)) H
def rSub:V->V->Hp->VK->Prop:=λx y H Q=>∃ i j,x=.int i/\y=.int j/\Q (.int (i-j)) H
def methcall_of {s:Shared}{σ:St}(he:PE X e te)(I:Inv X pins σ H s)(h:te σ H λx H1=>∃ a C dx fs g,x=.ref a/\H1 a=some (.ins C dx fs)/\Cls X.K C/\Meth X.K C m g/\fs.lookup m=none /\
   ∀ s1,Inv X pins σ H1 s1->wpAny (model X.prog X.w) X.A (callWith pos (.ref g) [.ref a] (backTo pos (AV args X.env)) (backToKw pos (Dy [] X.env))) Q X.xe s1)(ht:eval (.Call (.Attribute e m apos) args [] pos) X.env=(do
   let ov <- eval e X.env
   standAt apos.atName
   let (f,first) <- holding [ov] (getMethod ov m pl)
   callWith pos f first (backTo pos (AV args X.env)) (backToKw pos (Dy [] X.env)))) :
  wpAny (model X.prog X.w) X.A (eval (.Call (.Attribute e m apos) args [] pos) X.env) Q X.xe s:=by
 refine PySem.W.methodCall_KW (pl:=pl) (thn (he pins s σ H _ I h) λu s1 ⟨x,H1,I1,rx,a,C,dx,fs,g,ex,ea,c,k,l,q⟩=>?_) ht;subst ex;obtain rfl:u=AN a:=rx;exact kU I1 ea c k l (q s1 I1)
end
section
variable {X:Cx}{pins:List (Addr×Obj)}{σ:St}{H:Hp}{s:Shared}{A:Around}{E:Value->Shared->Prop}{Q:Value->Shared->Prop}{c:Value}{b:Bool}
inductive TyOf (K:Ab)(H:Hp):V->Value->Prop where
 |non:TyOf K H .non (.type "NoneType")
 |bl (x:Bool):TyOf K H (.bl x) (.type "bool")
 |int (i:Int):TyOf K H (.int i) (.type "int")
 |str (x:Str):TyOf K H (.str x) (.type "str")
 |flt (x:UInt64):TyOf K H (.flt x) (.type "float")
 |lst {a:Addr} {xs:List V} (e:H a=some (.lst xs)):TyOf K H (.ref a) (.type "list")
 |frz {a:Addr} {o:Obj} {xs:List V} (e:H a=some (.frz o (.lst xs))):TyOf K H (.ref a) (.type "list")
 |tup {a:Addr} {xs:List V} (e:H a=some (.tup xs)):TyOf K H (.ref a) (.type "tuple")
 |dK {a:Addr} {kvs:List (Key×V)} (e:H a=some (.dK kvs)):TyOf K H (.ref a) (.type "dict")
 |dT {a:Addr} {kvs:List (List Key×V)} (e:H a=some (.dT kvs)):TyOf K H (.ref a) (.type "dict")
 |ins {a C dx:Addr} {fs:List (Str×V)} (e:H a=some (.ins C dx fs)) (cl:Cls K C) (ha:AZ K (.ref C) "__class__" = some (some (.builtin "object.__class__")))
   (hn:PySem.W.specialIn K (.builtin "object.__class__") "__get__" = some (some (.builtin "getset_descriptor.__get__"))) (htk:PySem.W.takesIn K (.builtin "object.__class__")=some true)
   (hm:PySem.W.mroIn K C (.type "object")=some true):TyOf K H (.ref a) (.ref C)
end
structure Room (k:Nat)(A:Around):Prop where
 hd:A.handled=none
 dp:A.depth+3*k+5<recursionLimit
 un:A.units+16*k+200<cLine
 gd:A.guards=some []
def Room.mono {j k:Nat}(r:Room k A)(h:j<=k):Room j A:=⟨r.hd,by have:=r.dp;omega,by have:=r.un;omega,r.gd⟩
def Room.deeper {k:Nat}(r:Room (k+1) A)(env:Env):Room k (A.deeper env):=
 ⟨r.hd,by have:=r.dp;show A.depth+1+3*k+5<_;omega,by have:=r.un;show A.units+3+16*k+200<_;omega,r.gd⟩
theorem tT {A:Around}{C:Addr}{us:List Value}{kw:List (Str×Value)}:(A.under (.builtin "type.__call__" ⟨.ref C::us,kw⟩)).depth=A.depth+1:=by
 first|rfl|simp [Around.under,Code.weight,Code.isCreation,Code.isGuard,Code.isCaller,Code.frames,Code.isFrame,guardIds]
theorem tS {A:Around}{C:Addr}{us:List Value}{kw:List (Str×Value)}:(A.under (.builtin "type.__call__" ⟨.ref C::us,kw⟩)).units=A.units+1:=by
 first|rfl|simp [Around.under,Code.cUnits,Code.frames,Code.isFrame]
theorem qF {A:Around}{C:Addr}{us:List Value}{kw:List (Str×Value)}:(A.under (.builtin "type.__call__" ⟨.ref C::us,kw⟩)).guards=A.guards:=by
 first|rfl|(cases h:A.guards<;>simp [Around.under,Code.guards,Code.isGuard,guardIds,pushGuards,h])
def Room.make {k:Nat}{A:Around}(r:Room (k+1) A)(C:Addr)(us:List Value)(kw:List (Str×Value)):Room k (A.under (.builtin "type.__call__" ⟨.ref C::us,kw⟩)):=
 ⟨r.hd,by have:=r.dp;rw [tT];omega,by have:=r.un;rw [tS];omega,by rw [qF];exact r.gd⟩
theorem Room.depth {k:Nat}(r:Room k A):A.depth<recursionLimit:=by have:=r.dp;omega
def Room.units {k:Nat}(r:Room k A):A.units+64<cLine:=by have:=r.un;omega
def tNil:TA:=λ_ H Q=>Q [] H
def aGy (ta:TE)(tr:TA):TA:=λσ H Q=>ta σ H λx H1=>tr σ H1 λxs H2=>Q (x::xs) H2
section
variable {X:Cx}{e:Expr}{es:List Expr}{te:TE}{t:TA}{pos:Pos}
def aC:PA X [] tNil:=λ_ _ _ _ H Q I h=>DJ ⟨[],H,I,.nil,h⟩
def aA (ha:PE X e te)(hr:PA X es t)(hs:AV (e::es) X.env=(false,eval e X.env)::AV es X.env:=by rfl):PA X (e::es) (aGy te t):=by
 intro pos pins s σ H Q I h;rw [hs];show wpAny _ _ (spliced ((false,eval e X.env)::backTo pos (AV es X.env))) _ _ s;refine CM (thn (ha pins s σ H _ I h) λu s1 ⟨x,H1,I1,r1,q1⟩=>?_);exact thn (hr pos pins s1 σ H1 _ I1 q1) λus s2 ⟨xs,H2,I2,r2,q2⟩=>⟨x::xs,H2,I2,.cons r1 r2,q2⟩
def tTup (t:TA):TE:=λσ H Q=>t σ H λxs H1=>xs.length<=AE/\∀ p,H1 p=none->Q (.ref p) (upd H1 p (.tup xs))
def tLst (t:TA):TE:=λσ H Q=>t σ H λxs H1=>xs.length<=AE/\∀ p,H1 p=none->Q (.ref p) (upd H1 p (.lst xs))
def aT {x1}(h:PA X es t):PE X (.Tuple es x1 pos) (tTup t):=by
 intro pins s σ H Q I hq;refine wpAny_Tuple_spliced (thn (h pos pins s σ H _ I hq) λus s1 ⟨xs,H1,I1,r,z,q⟩=>⟨by rw [<- r.length];exact z,?_⟩);have hf:H1 s1.heap.objs.size=none:=I1.hok.fresh (Ao _);refine ⟨.ref s1.heap.objs.size,upd H1 s1.heap.objs.size (.tup xs),I1.laid (t':=s1.toks) (λb u e=>Ae _ e) (Ao _) ?_,rfl,q _ hf⟩;exact ⟨⟨z,_,An _ rfl,rfl⟩,us,r,⟨_,An _ rfl,rfl,_,rfl⟩⟩
def bC (h:PA X es t):PE X (.List es pos) (tLst t):=by
 intro pins s σ H Q I hq;refine wpAny_List_spliced (thn (h pos pins s σ H _ I hq) λus s1 ⟨xs,H1,I1,r,z,q⟩=>⟨by rw [<- r.length];exact z,?_⟩);have hf:H1 s1.heap.objs.size=none:=I1.hok.fresh (Ao _);refine ⟨.ref s1.heap.objs.size,upd H1 s1.heap.objs.size (.lst xs),I1.laid (t':=s1.toks) (λb u e=>Ae _ e) (Ao _) ?_,rfl,q _ hf⟩;exact ⟨z,us,0,r,An _ rfl⟩
end
abbrev Sp:=List V->Hp->VK->XK->Prop
abbrev CXT:=List Env->Hp->Shared->XK->Value->Shared->Prop
structure Env0 (P:AF)(w:World)(K:Ab)(mg:Str->Option Value)(base:Heap)(A:Around)(outer:List Env)(s:Shared)(H:Hp):Prop where
 frames:A.frames=some outer
 mod:Mod K mg base
 bs:∀ b o,base.get? b=some o->s.heap.get? b=some o/\H b=none
 bsz:base.objs.size<=s.heap.objs.size
 funs:s.heap.FunFrames base outer
 frf:∀ b∈frs outer,H b=none
 hok:HOk P w H s.heap
 bare:AllBare s.gens
def CE (outer:List Env)(P:AF)(w:World)(H:Hp)(s:Shared)(Q:VK)(u:Value)(s':Shared):Prop:=
 ∃ v H',s'.os=s.os/\AllBare s'.gens/\Un (frs outer) [] H H' s.heap s'.heap/\HOk P w H' s'.heap/\RelV v u/\Q v H'
def CR (CX:CXT)(outer:List Env)(P:AF)(w:World)(H:Hp)(s:Shared)(Q:VK)(E:XK)(r:Result)(s':Shared):Prop:=
 match r with
 |.ok (.ret u)=>CE outer P w H s Q u s'
 |.ok _=>False
 |.error e=>CX outer H s E e s'
structure FnOk (P:AF)(w:World)(K:Ab)(mg:Str->Option Value)(base:Heap)(CX:CXT)(k:Nat)(f:Addr)(fd:AM)(ps:List Str)(sp:Sp):Prop where
 len:∀ vs H Q E,sp vs H Q E->vs.length=ps.length
 run:∀ (A:Around) (outer:List Env) (s:Shared) (H:Hp) (args:Args) (us:List Value) (vs:List V) (Q:VK) (E:XK),Room k A->Env0 P w K mg base A outer s H->BindsTo s fd args (ps.zip us)->Vals vs us->sp vs H Q E ->
  DE (model P w) A (.call (.ref f) args) (CR CX outer P w H s Q E) s
def FnOk.mono {P:AF}{w:World}{K:Ab}{mg:Str->Option Value}{base:Heap}{CX:CXT}{j k:Nat}{f:Addr}{fd:AM}{ps:List Str}{sp:Sp}(F:FnOk P w K mg base CX j f fd ps sp)(h:j<=k) :
  FnOk P w K mg base CX k f fd ps sp:=⟨F.len,λA outer s H args us vs Q E hr=>F.run A outer s H args us vs Q E (hr.mono h)⟩
def Env0.make {P:AF}{w:World}{K:Ab}{mg:Str->Option Value}{base:Heap}{A:Around}{outer:List Env}{s:Shared}{H:Hp}(e:Env0 P w K mg base A outer s H)(C:Addr)(us:List Value)(kw:List (Str×Value)) :
    Env0 P w K mg base (A.under (.builtin "type.__call__" ⟨.ref C::us,kw⟩)) outer s H:=⟨by first|exact e.frames|(simpa [Around.under,Code.envs,Code.isFrame,pushEnvs] using e.frames),e.mod,e.bs,e.bsz,e.funs,e.frf,e.hok,e.bare⟩
section
variable {X:Cx}{pins:List (Addr×Obj)}{σ:St}{H:Hp}{s s':Shared}
def Inv.env0 (I:Inv X pins σ H s):Env0 X.prog X.w X.K X.mg X.base X.A X.stack s H:=
 ⟨I.ok.frames,I.ok.mod,I.bs,Bh I.ok.bsz I.sz,I.stack,I.stkFree,I.hok,I.bare⟩
def Inv.after {u:Value}(I:Inv X pins σ H s)(h:CE X.stack X.prog X.w H s Q u s'):EP X pins σ Q u s':=by
 obtain ⟨v,H',os,bare,un,hok,r,q⟩:=h;obtain ⟨hh,g,d,t,os'⟩:=s';obtain rfl:os'=s.os:=os;exact ⟨v,H',I.call (h':=hh) (g':=g) (d':=d) (t':=t) (ch:=[]) un hok bare (λb z=>absurd z (by simp)),r,q⟩
end
def aCq (sp:Sp)(dvs:List V)(E:XK)(t:TA):TE:=λσ H Q=>t σ H λvs H1=>sp (vs++dvs) H1 Q E
def aEx (C:Addr)(m:Str)(sp:Sp)(dvs:List V)(E:XK)(ta:TE)(t:TA):TE:=λσ H Q=>ta σ H λx H1=>∃ a dx fs,x=.ref a/\H1 a=some (.ins C dx fs)/\fs.lookup m=none /\
 t σ H1 λvs H2=>sp (x::(vs++dvs)) H2 Q E
def aGt (C:Addr)(sp:Sp)(dvs:List V)(E:XK)(t:TA):TE:=λσ H Q=>t σ H λvs H1=>∀ x dx,H1 x=none->H1 dx=none->dx≠x ->
 sp (.ref x::(vs++dvs)) (upd (upd H1 dx (.own x)) x (.ins C dx [])) (λv H2=>v=.non/\Q (.ref x) H2) E
def Binds (K:Ab)(fd:AM)(ps:List Str)(ds:List Value):Prop:=
 ∀ (s:Shared) (us:List Value),K.In s.heap->(us++ds).length=ps.length->BindsTo s fd ⟨us,[]⟩ (ps.zip (us++ds))
def Binds.all {K:Ab}{fd:AM}{ps:List Str}(h:∀ us:List Value,us.length=ps.length->bindArgs fd ⟨us,[]⟩=pure (ps.zip us)):Binds K fd ps []:=λs us _ hl=>by
 rw [AL] at hl ⊢;exact .of_eq (h us hl)
def iB (CX:CXT)(X:Cx)(E:XK):Prop:=∀ (pins:List (Addr×Obj)) (σ:St) (H:Hp) (s:Shared) (e:Value) (s':Shared),Inv X pins σ H s->CX X.stack H s E e s'->X.xe e s'
section
variable {X:Cx}{CX:CXT}{k:Nat}{f C:Addr}{fd:AM}{ps:List Str}{sp:Sp}{dvs:List V}{ds:List Value}{E:XK}{x m:Str}{p pos apos:Pos}{e o:Expr}{es:List Expr}{ta:TE}{t:TA}
def aBq {σ:St}{s:Shared}(F:FnOk X.prog X.w X.K X.mg X.base CX k f fd ps sp)(hr:Room k X.A)(hb:Binds X.K fd ps ds)(hd:Vals dvs ds)(hx:iB CX X E)(I:Inv X pins σ H s)(r:Vals vs us)(h:sp (vs++dvs) H Q E):wpAny (model X.prog X.w) X.A (call (.ref f) us) (EP X pins σ Q) X.xe s:=by
 have r2:Vals (vs++dvs) (us++ds):=r.append hd;have hl:(us++ds).length=ps.length:=by rw [<- r2.length];exact F.len _ _ _ _ h
 refine EM (CZ (F.run X.A X.stack s H ⟨us,[]⟩ (us++ds) (vs++dvs) Q E hr I.env0 (hb s us I.kIn hl) r2 h) λr s' hq=>?_);cases r with
 |error e=>exact hx pins σ H s e s' I hq
 |ok fl=>
  cases fl with
  |ret u=>exact I.after hq
  |next=>exact Cu hq
  |brk=>exact Cu hq
  |cont=>exact Cu hq
def aDj (F:FnOk X.prog X.w X.K X.mg X.base CX k f fd ps sp)(hr:Room k X.A)(hg:Gl X x)(hm:X.mg x=some (.ref f))(hk:BK X.K (.ref f)=true)(hb:Binds X.K fd ps ds)(hd:Vals dvs ds)(hx:iB CX X E)
  (ha:PA X (e::es) t) (hdb:(x==("__debug__":Str))=false:=by decide) (he:AV (e::es) X.env=(false,eval e X.env)::AV es X.env:=by rfl) (hpl:(backTo pos (AV es X.env)).any (·.1)=false:=by rfl) :
  PE X (.Call (.Name x p) (e::es) [] pos) (aCq sp dvs E t):=by
 intro pins s σ H Q I h;refine CB (fN I hg hm ?_ hdb);refine Ej (h₀:=X.base) I.ok.mod.kin hk (thn (ha pos pins s σ H _ I h) λus s1 ⟨vs,H1,I1,r,q⟩=>⟨I1.kIn,?_⟩) he hpl;exact aBq F hr hb hd hx I1 r q
def aDf (he:PE X o ta)(c:Cls X.K C)(hm:Meth X.K C m f)(F:FnOk X.prog X.w X.K X.mg X.base CX k f fd ps sp)(hr:Room k X.A)(hb:Binds X.K fd ps ds)(hd:Vals dvs ds)(hx:iB CX X E)(ha:PA X (e::es) t)(hst:AV (e::es) X.env=(false,eval e X.env)::AV es X.env:=by rfl)(hpl:(backTo pos (AV es X.env)).any (·.1)=false:=by rfl)(ht:eval (.Call (.Attribute o m apos) (e::es) [] pos) X.env=(do
   let ov <- eval o X.env
   standAt apos.atName
   let (f,first) <- holding [ov] (getMethod ov m pl)
   callWith pos f first (backTo pos (AV (e::es) X.env)) (backToKw pos (Dy [] X.env))):=by rfl) :
  PE X (.Call (.Attribute o m apos) (e::es) [] pos) (aEx C m sp dvs E ta t):=by
 intro pins s σ H Q I h;refine PySem.W.methodCall_KW (pl:=pl) (thn (he pins s σ H _ I h) λu s1 ⟨x,H1,I1,rx,a,dx,fs,ex,ea,l,q⟩=>?_) ht;subst ex;obtain rfl:u=AN a:=rx;refine kU I1 ea c hm l ?_;refine Ej (first:=[.ref a]) (h₀:=X.base) I.ok.mod.kin hm.kp (thn (ha pos pins s1 σ H1 _ I1 q) λus s2 ⟨vs,H2,I2,r,q2⟩=>⟨I2.kIn,?_⟩) hst hpl;exact aBq (us:=.ref a::us) (vs:=.ref a::vs) F hr hb hd hx I2 (.cons rfl r) q2
structure Mk (K:Ab)(C f:Addr):Prop where
 makes:PySem.W.makesIn K C=true
 init:AZ K (.ref C) "__init__" = some (some (.ref f))
 fn:PySem.W.isFn K (.ref f)=true
 kp:BK K (.ref C)=true
def zF {σ:St}{s:Shared}(M:Mk X.K C f)(F:FnOk X.prog X.w X.K X.mg X.base CX k f fd ps sp)(hr:Room (k+1) X.A)(hb:Binds X.K fd ps ds)(hd:Vals dvs ds)(hx:iB CX X E)(I:Inv X pins σ H s)(r:Vals vs us)(h:∀ x dx,H x=none->H dx=none->dx≠x->sp (.ref x::(vs++dvs)) (upd (upd H dx (.own x)) x (.ins C dx [])) (λv H2=>v=.non/\Q (.ref x) H2) E) :
  wpAny (model X.prog X.w) X.A (call (.ref C) us) (EP X pins σ Q) X.xe s:=by
 have hq:=h (s.heap.objs.size+1) s.heap.objs.size (I.hok.fresh (Cb _)) (I.hok.fresh (Ao _)) (AG (CO _));have I2:=Inv.made (C:=C) I;have r2:Vals (V.ref (s.heap.objs.size+1)::(vs++dvs)) (AN (s.heap.objs.size+1)::(us++ds)):=.cons rfl (r.append hd);have hl:(AN (s.heap.objs.size+1)::us++ds).length=ps.length:=by
  have e:=r2.length;rw [F.len _ _ _ _ hq] at e;exact e.symm
 refine EM (aAz (f:=f) I.kIn M.makes M.init (beq_iff_eq.mp M.fn) (CZ (F.run _ X.stack _ _ ⟨AN (s.heap.objs.size+1)::us,[]⟩ (AN (s.heap.objs.size+1)::(us++ds)) _ _ E (hr.make C us [])
  (I2.env0.make C us []) (hb _ (AN (s.heap.objs.size+1)::us) I2.kIn hl) r2 hq) λr s' hq'=>?_))
 cases r with
 |error e=>exact hx pins σ _ _ e s' I2 hq'
 |ok fl=>
  cases fl with
  |ret u=>
   obtain ⟨v,H',I3,rv,ev,q3⟩:=I2.after hq';subst ev;exact ⟨rv,⟨V.ref (s.heap.objs.size+1),H',I3,rfl,q3⟩⟩
  |next=>exact Cu hq'
  |brk=>exact Cu hq'
  |cont=>exact Cu hq'
def aDh (M:Mk X.K C f)(F:FnOk X.prog X.w X.K X.mg X.base CX k f fd ps sp)(hr:Room (k+1) X.A)(hg:Gl X x)(hm:X.mg x=some (.ref C))(hb:Binds X.K fd ps ds)(hd:Vals dvs ds)(hx:iB CX X E)
  (ha:PA X (e::es) t) (hdb:(x==("__debug__":Str))=false:=by decide) (he:AV (e::es) X.env=(false,eval e X.env)::AV es X.env:=by rfl) (hpl:(backTo pos (AV es X.env)).any (·.1)=false:=by rfl) :
  PE X (.Call (.Name x p) (e::es) [] pos) (aGt C sp dvs E t):=by
 intro pins s σ H Q I h;refine CB (fN I hg hm ?_ hdb);refine Ej (h₀:=X.base) I.ok.mod.kin M.kp (thn (ha pos pins s σ H _ I h) λus s1 ⟨vs,H1,I1,r,q⟩=>⟨I1.kIn,?_⟩) he hpl;exact zF M F hr hb hd hx I1 r q
end
def PK (X:Cx)(kws:List Keyword)(t:TA):Prop:=
 ∀ (pos:Pos) (pins:List (Addr×Obj)) (s:Shared) (σ:St) (H:Hp) (Q:List V->Hp->Prop),Inv X pins σ H s->t σ H Q->wpAny (model X.prog X.w) X.A (evalAll ((backToKw pos (Dy kws X.env)).map (·.2))) (AP X pins σ Q) X.xe s
section
variable {X:Cx}{CX:CXT}{k:Nat}{f C:Addr}{fd:AM}{ps ks:List Str}{sp:Sp}{E:XK}{x m:Str}{p pos apos kpos:Pos}{e o:Expr}{es:List Expr}{kws:List Keyword}{te ta:TE}{t tk:TA}{nm:Option Str}
structure KBinds (K:Ab)(fd:AM)(ps ks:List Str)(g:List Value->List Value->List Value)(gV:List V->List V->List V):Prop where
 to:∀ (s:Shared) (us ws:List Value),K.In s.heap->(g us ws).length=ps.length->BindsTo s fd ⟨us,ks.zip ws⟩ (ps.zip (g us ws))
 rel:∀ {vs:List V} {us:List Value} {zs:List V} {ws:List Value},Vals vs us->Vals zs ws->Vals (gV vs zs) (g us ws)
def tCallK (sp:Sp)(gV:List V->List V->List V)(E:XK)(t tk:TA):TE:=λσ H Q=>t σ H λvs H1=>tk σ H1 λzs H2=>sp (gV vs zs) H2 Q E
variable {g:List Value->List Value->List Value}{gV:List V->List V->List V}
end
structure FnScope (N P:List Str)(sc:Scope):Prop where
 kind:sc.kind=.function
 co:sc.isCoroutine=false
 gen:sc.isGenerator=false
 nd:N.Nodup
 pre:N.take P.length=P
 par:∀ x∈P,sc.names.lookup x=some .local\/sc.names.lookup x=some .cell
 nofree:∀ y∈sc.names,y.2≠.free
def fnScOk {N P:List Str}{sc:Scope}(h:(sc.kind==.function&&!sc.isCoroutine&&!sc.isGenerator&&decide N.Nodup&&decide (N.take P.length=P)&&P.all (λx=>sc.names.lookup x==some .local||sc.names.lookup x==some .cell)&&sc.names.all λy=>y.2!=.free)=true):FnScope N P sc:=by
 simp only [BV,decide_eq_true_eq,Cy,Bool.or_eq_true,beq_iff_eq,bne_iff_ne,Bool.not_eq_true'] at h
 exact ⟨h.1.1.1.1.1.1,h.1.1.1.1.1.2,h.1.1.1.1.2,h.1.1.1.2,h.1.1.2,h.1.2,h.2⟩
theorem oW {kindOf:Str->Option Bj}{x:Str}:∀ {binds:List (Str×Value)} {m:Str->Option Value},(∀ v,(x,v)∉binds)->bindL kindOf binds m x=m x
  |[],_,_=>rfl
  |(n,v)::r,m,h=>by
    unfold bindL;rw [oW λw hw=>h w (Au _ hw)];split
    · have:x≠n:=by rintro rfl;exact h v Az
      simp [this]
    · rfl
theorem oY {kindOf:Str->Option Bj}{x:Str}:∀ {binds:List (Str×Value)} {m:Str->Option Value},(∀ v,(x,v)∉binds)->bindC kindOf binds m x=m x
  |[],_,_=>rfl
  |(n,v)::r,m,h=>by
    unfold bindC;rw [oY λw hw=>h w (Au _ hw)];split
    · rfl
    · have:x≠n:=by rintro rfl;exact h v Az
      simp [this]
theorem oX {kindOf:Str->Option Bj}{x:Str}{v:Value}:∀ {P:List Str} {vs:List Value} {i:Nat} {m:Str->Option Value},P.Nodup->P[i]?=some x->vs[i]?=some v->kindOf x=some .local ->
  bindL kindOf (P.zip vs) m x=some v
 |[],_,_,_,_,h,_,_=>by simp at h
 |_::_,[],_,_,_,_,h,_=>by simp at h
 |p::P,w::vs,0,m,nd,h1,h2,hk=>by
  simp at h1 h2;subst h1;subst h2;show bindL kindOf ((p,w)::P.zip vs) m p=_;unfold bindL;rw [oW λv hv=>(CC.mp nd).1 (List.of_mem_zip hv).1,if_pos hk];simp
 |p::P,w::vs,i+1,m,nd,h1,h2,hk=>by
  show bindL kindOf ((p,w)::P.zip vs) m x=_;unfold bindL;exact oX (i:=i) (CC.mp nd).2 (by simpa using h1) (by simpa using h2) hk
theorem oZ {kindOf:Str->Option Bj}{x:Str}{v:Value}:∀ {P:List Str} {vs:List Value} {i:Nat} {m:Str->Option Value},P.Nodup->P[i]?=some x->vs[i]?=some v->kindOf x≠some .local ->
  bindC kindOf (P.zip vs) m x=some v
 |[],_,_,_,_,h,_,_=>by simp at h
 |_::_,[],_,_,_,_,h,_=>by simp at h
 |p::P,w::vs,0,m,nd,h1,h2,hk=>by
  simp at h1 h2;subst h1;subst h2;show bindC kindOf ((p,w)::P.zip vs) m p=_;unfold bindC;rw [oY λv hv=>(CC.mp nd).1 (List.of_mem_zip hv).1,if_neg hk];simp
 |p::P,w::vs,i+1,m,nd,h1,h2,hk=>by
  show bindC kindOf ((p,w)::P.zip vs) m x=_;unfold bindC;exact oZ (i:=i) (CC.mp nd).2 (by simpa using h1) (by simpa using h2) hk
def start (N:List Str)(vs:List V):St:=vs.map some++AR (N.length-vs.length) none
def cxOf (CX:CXT)(P:AF)(w:World)(K:Ab)(mg:Str->Option Value)(base:Heap)(N:List Str)(qual:Str)(scope:Scope)(f:Addr)(cd:Value)(A:Around)(outer:List Env)(s:Shared)(H:Hp)(E:XK):Cx where
 prog:=P
 w:=w
 K:=K
 mg:=mg
 base:=base
 A:=A.deeper (envOfC qual scope s.heap.objs.size f cd)
 N:=N
 s₀:=s
 H₀:=H
 env:=envOfC qual scope s.heap.objs.size f cd
 outer:=outer
 stack:=envOfC qual scope s.heap.objs.size f cd::outer
 ex:=[]
 calm:=true
 fn:=λ_=>true
 pn:=[]
 xe:=λe s'=>wpAny (model P w) (A.deeper (envOfC qual scope s.heap.objs.size f cd)) (leaving (envOfC qual scope s.heap.objs.size f cd) e) (λ_ s''=>CX outer H s E e s'') (λe' s''=>CX outer H s E e' s'') s'
def sO {sc:Scope}{n:Nat}{x:Str}(h:sc.names.lookup x=some .cell):∃ c,(cellsFrom n sc.names []).lookup x=some c:=by
 have q:=PySem.W.cellsFrom_some sc.names n [] (.inl h);exact BY.mp q
def xO {CX:CXT}{P:AF}{w:World}{K:Ab}{mg:Str->Option Value}{base:Heap}{N ps:List Str}{qual:Str}{scope:Scope}{f:Addr}{cd:Value}{A:Around}{outer:List Env}{s s1:Shared}{H:Hp}{E:XK}{us:List Value}{vs:List V}
  (S:FnScope N ps scope) (hd:A.handled=none) (e0:Env0 P w K mg base A outer s H) (hl:vs.length=ps.length) (r:Vals vs us)
  (x:InCallC s s.heap.objs.size (bindL (envOfC qual scope s.heap.objs.size f cd).kindOf (ps.zip us) λ_=>none) (cellsFrom (s.heap.objs.size+1) scope.names []) (bindC (envOfC qual scope s.heap.objs.size f cd).kindOf (ps.zip us) λ_=>none) s1) :
  Inv (cxOf CX P w K mg base N qual scope f cd A outer s H E) [] (start N vs) H s1:=by
 have hpl:ps.length<=N.length:=by have:=congrArg DB S.pre;rw [CL] at this;omega
 obtain ⟨h1,tk,rfl,hk⟩:=x.done;have noA:∀ b:Addr,b∉(cxOf CX P w K mg base N qual scope f cd A outer s H E).ex:=λb z=>absurd (show b∈([]:List Addr) from z) (by simp);refine ⟨⟨e0.mod,S.kind,rfl,rfl,Ao _,λy z c h1 h2=>?_,λy hy=>?_,λy c _ h=>?_,λ_=>hd,Around.frames_deeper e0.frames,.inr ⟨rfl,rfl⟩,λb z=>absurd z (noA b),e0.bs,e0.bsz,λb _ _=>noA b,λb z=>absurd z (noA b),e0.funs,e0.frf⟩,
  rfl,e0.bare,Un.kept hk,⟨_,x.toInCall.ns,λi y v h1 h2 h3=>?_⟩,λy c h=>⟨_,x.cell y c h⟩,e0.hok.fresh (Ao _),λy c h=>?_,λp hp=>absurd (show p∈([]:List (Addr×Obj)) from hp) (by simp),e0.hok.kept hk,?_⟩
 ·exact name_of_addr x.apart (BW h1) (BW h2)
 ·have hy:scope.names.lookup y=some .cell\/scope.names.lookup y=some .free:=hy
  rcases hy with hy|hy
  ·exact sO hy
  ·exact absurd rfl (S.nofree _ (BW hy))
 ·exact Nat.le_of_lt (x.above y c (BW h))
 ·have hi:i<vs.length:=by
   unfold start at h2
   by_cases hi:i<vs.length
   ·exact hi
   ·rw [DU (by simpa using hi)] at h2
    rw [List.getElem?_replicate] at h2;split at h2<;>cases h2
  have ha:vs[i]?=some v:=by
   unfold start at h2;rw [CS (by simpa using hi),Aj] at h2;cases e:vs[i]? with
   |none=>rw [e] at h2;cases h2
   |some a=>rw [e] at h2;cases h2;rfl
  obtain ⟨u,hu,rv⟩:=r.get ha;have hp:ps[i]?=some y:=by
   rw [<- S.pre,List.getElem?_take_of_lt (by omega)];exact h1
  have ndP:ps.Nodup:=by rw [<- S.pre];exact S.nd.sublist (List.take_sublist _ _)
  refine ⟨u,rv,?_⟩
  rcases S.par y (AJ hp) with k|k
  ·exact .inl ⟨k,oX ndP hp hu k⟩
  ·obtain ⟨c,e⟩:=sO (n:=s.heap.objs.size+1) k
   refine .inr ⟨.inl k,c,e,?_⟩;have q:=x.cell y c e;rw [oZ ndP hp hu (by show scope.names.lookup y≠_;rw [k];decide)] at q;exact q
 ·exact e0.hok.fresh (Nat.le_of_lt (x.above y c (BW h)))
 ·unfold start
  show _=N.length;rw [Aq,Ac,List.length_replicate];omega
def aEa {CX:CXT}{P:AF}{w:World}{K:Ab}{mg:Str->Option Value}{base:Heap}{k:Nat}{f:Addr}{name qual:Str}{params:Arguments}{body:List Stmt}{scope:Scope}{dV kV doc pm cdv ct oc:Value}{an od:Option Addr}
  {osl:Array (Option Value)} {N ps:List Str} {sp:Sp} (lk:K.lookup f=some ⟨oc,od,.func (BD name qual params body scope dV kV doc pm an cdv ct),osl⟩) (hcd:CJ K cdv qual=true) (S:FnScope N ps scope)
  (len:∀ vs H Q E,sp vs H Q E->vs.length=ps.length)
  (hbody:∀ (A:Around) (outer:List Env) (s:Shared) (H:Hp) (vs:List V) (Q:VK) (E:XK),Room k (A.deeper (envOfC qual scope s.heap.objs.size f cdv))->sp vs H Q E ->
   ∃ t,PSs (cxOf CX P w K mg base N qual scope f cdv A outer s H E) body t/\t { nx:=λ_ H'=>Q .non H',rt:=Q } (start N vs) H) :
  FnOk P w K mg base CX (k+1) f (BD name qual params body scope dV kV doc pm an cdv ct) ps sp:=by
 refine ⟨len,λA outer s H args us vs Q E hr e0 hb r hsp=>?_⟩;have hl:=len _ _ _ _ hsp;have KX:K.In s.heap:=e0.mod.kin.keeps λb o e=>(e0.bs b o e).1;have lim:s.heap.NoLimit:=e0.mod.nolimit.keeps λb o e=>(e0.bs b o e).1;have hkind:∀ y∈ps.zip us,scope.names.lookup y.1=some .local\/(scope.names.lookup y.1=some .cell/\((cellsFrom (s.heap.objs.size+1) scope.names []).lookup y.1).isSome=true):=λ⟨n,v⟩ hy=>by
  rcases S.par n (List.of_mem_zip hy).1 with q|q
  ·exact .inl q
  ·exact .inr ⟨q,PySem.W.cellsFrom_some _ _ _ (.inl q)⟩
 refine codeAny_call_function hr.depth (KX _ _ lk) rfl S.co S.gen rfl (PySem.W.codeRec_of KX hcd) (hb _ _ _ _ ?_);refine wpAny_newFunctionEnv_cells S.kind hkind λenv he s1 x=>?_;subst he;refine ⟨lim.keeps x.toInCall.keep,codeAny_func ?_⟩;obtain ⟨t,ht,hq⟩:=hbody A outer s H vs Q E (hr.deeper _) hsp;have I:Inv (cxOf CX P w K mg base N qual scope f cdv A outer s H E) [] (start N vs) H s1:=xO S hr.hd e0 hl r x;refine BH (ht [] s1 (start N vs) H _ I hq) (λfl s' hs=>?_) λe s' hs=>hs;have fin:∀ {σ':St} {H':Hp} {v:V} {u:Value},Inv (cxOf CX P w K mg base N qual scope f cdv A outer s H E) [] σ' H' s'->RelV v u->Q v H'->CE outer P w H s Q u s':=
  λ{σ' H' v u} J rv q=>⟨v,H',J.os,J.bare,J.base,J.hok,rv,q⟩
 cases fl with
 |ret u=>
  obtain ⟨v,σ',H',J,rv,q⟩:=hs;exact fin J rv q
 |next=>
  obtain ⟨σ',H',J,q⟩:=hs;exact fin (v:=V.non) (u:=BI) J rfl q
 |brk=>
  obtain ⟨_,_,_,q⟩:=hs;exact Cu q
 |cont=>
  obtain ⟨_,_,_,q⟩:=hs;exact Cu q
section
variable {X:Cx}{x:Str}{p pos:Pos}{e:Expr}{es:List Expr}{t:TA}{id T:String}{r:List V->Hp->VK->Prop}
def tCB (r:List V->Hp->VK->Prop)(t:TA):TE:=λσ H Q=>t σ H λvs H1=>r vs H1 Q
def aQ (hc:eX X (.builtin id) r)(hg:Gl X x)(hm:X.mg x=none)(hv:Ck x=some (.builtin id))(ha:PA X (e::es) t)(hn:x ≠ "__name__":=by decide)(hdb:(x==("__debug__":Str))=false:=by decide)
  (he:AV (e::es) X.env=(false,eval e X.env)::AV es X.env:=by rfl) (hpl:(backTo pos (AV es X.env)).any (·.1)=false:=by rfl):PE X (.Call (.Name x p) (e::es) [] pos) (tCB r t):=by
 intro pins s σ H Q I h;refine CB (fH I hg hm hv ?_ hn hdb);exact PyProof.Rows.callWith_builtin1 (thn (ha pos pins s σ H _ I h) λus s1 ⟨vs,H1,I1,r1,q1⟩=>hc pins s1 σ H1 vs us Q I1 r1 q1) he hpl
def bY (hc:eX X (.type T) r)(hg:Gl X x)(hm:X.mg x=none)(hv:Ck x=some (.type T))(ha:PA X (e::es) t)(hn:x ≠ "__name__":=by decide)(hdb:(x==("__debug__":Str))=false:=by decide)
  (he:AV (e::es) X.env=(false,eval e X.env)::AV es X.env:=by rfl) (hpl:(backTo pos (AV es X.env)).any (·.1)=false:=by rfl):PE X (.Call (.Name x p) (e::es) [] pos) (tCB r t):=by
 intro pins s σ H Q I h;refine CB (fH I hg hm hv ?_ hn hdb);exact BX (thn (ha pos pins s σ H _ I h) λus s1 ⟨vs,H1,I1,r1,q1⟩=>hc pins s1 σ H1 vs us Q I1 r1 q1) he hpl
end
end L2
namespace HT
open PySem PyProof.Rows
def lexLt:List Int->List Int->Bool
 |[],[]=>false
 |[],_::_=>true
 |_::_,[]=>false
 |x::xs,y::ys=>if x=y then lexLt xs ys else decide (x<y)
theorem tU (x y:Int)(xs ys:List Int):lexLt (x::xs) (y::ys)=if x=y then lexLt xs ys else decide (x<y):=rfl
theorem lZ:lexLt [] []=false:=rfl
theorem jX (y:Int)(ys:List Int):lexLt [] (y::ys)=true:=rfl
theorem jY (x:Int)(xs:List Int):lexLt (x::xs) []=false:=rfl
def aBb (A:Around)(s:Shared)(a:Int)(t:Tok)(c:Int)(u:Tok):∃ e,Bm A s (.int a t) (.int c u) e/\(e=true↔a=c):=
 ⟨(a==c),Bm.int_int a t c u,by simp⟩
def zJ (A:Around)(s:Shared)(a:Int)(t:Tok)(c:Int)(u:Tok)(prog:AF)(w:World)(E:Value->Shared->Prop)(Q:Value->Shared->Prop)(h:Q (.bool (decide (a<c))) s) :
  wpAny (model prog w) A (richCompare .Lt (.int a t) (.int c u)) Q E s:=
 (PyProof.Rows.lt_int h:wpAny (model prog w) A (BO .Lt (.int a t) (.int c u)) Q E s)
section
open PySem.SeqAt
open PySem.AutoSeq1 (wpAny_loadPart')
open PySem.MeetsSeq PySem.MeetsSeq2 PySem.MeetsSeq3
def lB (l b:Addr)(items items2:Array Value)(n n2:Nat)(dd dd2:Option Addr)(sl sl2:Array (Option Value))(ns ms:List Int)(hi:DH items.toList ns)(hj:DH items2.toList ms) :
  Meets (AU.«tuple.__lt__» ⟨[.ref l,.ref b],[]⟩)
   (λ_ R s=>s.heap.get? l=some { cls:=.type "tuple",dict:=dd,data:=.seq items n,slots:=sl }/\s.heap.get? b=some { cls:=.type "tuple",dict:=dd2,data:=.seq items2 n2,slots:=sl2 } /\
    R (.ok (.ret (.bool (lexLt ns ms)))) s):=
 .of_wp λprog w A R s h=>by
  obtain ⟨hp,g,d,tk,os⟩:=s;obtain ⟨hl,hb,h⟩:=h;have f2:=AutoSeq1.sub_tuple_tuple;have z1:items.size=ns.length:=by rw [<- hi.length];simp
  have z2:items2.size=ms.length:=by rw [<- hj.length];simp
  wp_walk using CI hl,CI hb,wpAny_forIn_list _ (λrest b s'=>b.1=none/\s'=⟨hp,g,d,tk,os⟩/\∃ (vs ws:List Value) (ns' ms':List Int),rest=vs.zip ws /\
   DH vs ns'/\DH ws ms'/\ns'.length+items2.size=ms'.length+items.size/\R (.ok (.ret (.bool (lexLt ns' ms')))) ⟨hp,g,d,tk,os⟩) _
  case turn=>
   rintro ⟨y,x⟩ rest b s' ⟨hb',rfl,vs,ws,ns',ms',hz,hvi,hwi,hlen,hR⟩
   cases hvi with
   |nil=>rw [List.zip_nil_left] at hz;cases hz
   |cons a t hvi'=>
    cases hwi with
    |nil=>rw [List.zip_nil_right] at hz;cases hz
    |cons c u hwi'=>
     rw [Fg] at hz;injection hz with hyx hrest;injection hyx with hy hx;subst hy hx;rw [tU] at hR;simp only [AI] at hlen;obtain ⟨e,he,hiff⟩:=aBb A.in1 ⟨hp,g,d,tk,os⟩ a t c u;refine Aa (he prog w _ _ ?_);cases e with
     |true=>
      rw [if_pos (hiff.mp rfl)] at hR
      wp_walk
      exact ⟨rfl,rfl,_,_,_,_,hrest,hvi',hwi',by omega,hR⟩
     |false=>
      rw [if_neg (λq=>absurd (hiff.mpr q) AK)] at hR;have hri:=zJ A.in1 ⟨hp,g,d,tk,os⟩ a t c u prog w
      wp_walk using hri
      exact ⟨_,rfl,by simpa using hR⟩
  case fin=>
   rintro ⟨b1,b2⟩ s' ⟨hb',rfl,vs,ws,ns',ms',hz,hvi,hwi,hlen,hR⟩
   simp only at hb';subst hb';have hv:lexLt ns' ms'=decide (items.size<items2.size):=by
    cases hvi with
    |nil=>
     cases hwi with
     |nil=>
      simp only [Ep] at hlen;rw [lZ];exact (decide_eq_false (by omega)).symm
     |cons c u hw=>
      simp only [Ep,AI] at hlen;rw [jX];exact (decide_eq_true (by omega)).symm
    |cons a t hv=>
     cases hwi with
     |nil=>
      simp only [Ep,AI] at hlen;rw [jY];exact (decide_eq_false (by omega)).symm
     |cons c u hw=>
      rw [Fg] at hz;cases hz
   rw [hv] at hR
   wp_walk
   exact ⟨_,rfl,by simpa [AU.Tuple.tupleCompareSizes] using hR⟩
  case h=>
   exact ⟨rfl,rfl,items.toList,items2.toList,ns,ms,rfl,hi,hj,by omega,h⟩
end
section
variable {prog:AF}{w:World}{A:Around}{E:Value->Shared->Prop}{s:Shared}
def lt_tupInts {l b:Addr}(hl:IsTup s.heap l items)(hb:IsTup s.heap b items2)(hi:DH items.toList ns)(hj:DH items2.toList ms)(hu:A.units<cLine)(h:Q (.bool (lexLt ns ms)) s):wpAny (model prog w) A (BO .Lt (.ref l) (.ref b)) Q E s:=by
 obtain ⟨⟨cls,dd,data,sl⟩,ho,hc,n,hd⟩:=id hl;obtain ⟨⟨cls2,dd2,data2,sl2⟩,ho2,hc2,n2,hd2⟩:=id hb;simp only at hc hd hc2 hd2;subst hc hd hc2 hd2;exact richCompare_meets_room (op:=.Lt) ⟨_,ho,rfl⟩ ⟨_,ho2,rfl⟩ PySem.F.slot_tuple_lt PySem.F.entry_tuple_lt (PySem.F.args_tuple_lt_2 _ _) (lB l b items items2 n n2 dd dd2 sl sl2 ns ms hi hj)
  ⟨ho,ho2,show Value.bool (lexLt ns ms)≠Value.notImplemented/\Q (.bool (lexLt ns ms)) s from ⟨(λx=>nomatch x),h⟩⟩ hu
def cat_tup {t b:Addr}(ht:IsTup s.heap t vs.toArray)(hb:IsTup s.heap b ws.toArray)(hv:vs≠[])(h1:ws=[]->Q (.ref t) s)(h2:ws≠[]->Q (.ref s.heap.objs.size) { s with heap:=s.heap.push { cls:=.type "tuple",data:=.seq (vs++ws).toArray } })(hsz:vs.length+ws.length<=AE):wpAny (model prog w) A (DM .Add (.ref t) (.ref b)) Q E s:=by
 obtain ⟨⟨cls,dd,data,sl⟩,ho,hc,n,hd⟩:=id ht;obtain ⟨⟨cls2,dd2,data2,sl2⟩,ho2,hc2,n2,hd2⟩:=id hb;simp only at hc hd hc2 hd2;subst hc hd hc2 hd2;have e:vs.toArray++ws.toArray=(vs++ws).toArray:=by simp
 by_cases hw:ws=[]
 ·exact concat_meets ⟨_,ho,rfl⟩ ⟨_,ho2,rfl⟩ noFill_tuple_add seq_tuple_add PySem.F.slot_tuple_add Fo (Ff _ _)
   (tuple_addW1 t b vs.toArray ws.toArray n n2 dd dd2 sl sl2 (by simpa using hv) (by simp [hw])) ⟨ho,ho2,h1 hw⟩
 ·refine concat_meets ⟨_,ho,rfl⟩ ⟨_,ho2,rfl⟩ noFill_tuple_add seq_tuple_add PySem.F.slot_tuple_add Fo (Ff _ _)
   (tuple_addW2 t b vs.toArray ws.toArray n n2 dd dd2 sl sl2 (by simpa using hv) (by simpa using hw) (by rw [Ai,Ai];exact hsz)) ⟨ho,ho2,?_⟩
  rw [e];exact h2 hw
def sIx (n d:Nat):Option Int->Nat
 |none=>d
 |some v=>if v<0 then (v+(n:Int)).toNat else min v.toNat n
theorem sIx_none (n d:Nat):sIx n d none=d:=rfl
def aFa (n d:Nat)(hd:d<=n)(o:Option Int):sIx n d o<=n:=by
 cases o with
 |none=>exact hd
 |some v=>
  show (if v<0 then (v+(n:Int)).toNat else min v.toNat n)<=n
  by_cases hv:v<0
  ·rw [if_pos hv];omega
  ·rw [if_neg hv];exact Nat.min_le_right _ _
def yH (v:Int)(n d:Nat):(if v<0 then max (v+(n:Int)) 0 else min v (n:Int))=((sIx n d (some v):Nat):Int):=by
 show (if v<0 then max (v+(n:Int)) 0 else min v (n:Int))=(((if v<0 then (v+(n:Int)).toNat else min v.toNat n):Nat):Int)
 by_cases hv:v<0
 ·simp only [if_pos hv];omega
 ·simp only [if_neg hv];omega
theorem uL (lo hi:Option Int)(n:Nat):EH lo hi 1 (n:Int)=(((sIx n 0 lo:Nat):Int),((sIx n n hi:Nat):Int)):=by
 have h1:¬ ((1:Int)<0):=by omega
 unfold EH;simp only [h1,if_false];refine Prod.ext ?_ ?_
 ·cases lo with
  |none=>rfl
  |some v=>exact yH v n 0
 ·cases hi with
  |none=>rfl
  |some v=>exact yH v n n
theorem tJ (i j:Nat):Dz (i:Int) (j:Int) 1=j-i:=by
 unfold Dz;have h1:(1:Int) > 0:=by omega
 simp only [h1,if_true,Int.ediv_one];split<;>omega
def kJ (p:IsPart v o)(h:Q o s):wpAny (model prog w) A (AU.Slice.slicePartIndex v) Q E s:=by
 cases p with
 |none=>exact slicePart_none h
 |int i t=>exact slicePart_int h
def eO {sl:Addr}{vl vu:Value}{lo hi:Option Int}{n:Nat}{Q:Int×Int×Nat->Shared->Prop}(hs:s.heap.IsSliceOf sl vl vu .none)(pl:IsPart vl lo)(pu:IsPart vu hi)
    (h:Q (((sIx n 0 lo:Nat):Int),1,sIx n n hi-sIx n 0 lo) s):wpAny (model prog w) A (AU.Slice.sliceApplied (.ref sl) (pure (n:Int))) Q E s:=by
  obtain ⟨os,hos,hcs,hds⟩:=id hs;unfold AU.Slice.sliceApplied AU.Slice.sliceFields;refine Aa (Aa (Ct hos hds (x:=vl) rfl (Aa (Ct hos hds (x:=vu) rfl (Aa (Ct hos hds (x:=.none) rfl (Ag ?_)))))));refine Aa (slicePart_none ?_);show wpAny _ _ (if ((1:Int)==0)=true then _ else _) _ _ s;rw [if_neg (by decide)];refine Aa (kJ pl (Aa (kJ pu (Aa (Ag ?_)))));show wpAny _ _ (match EH lo hi 1 (n:Int) with|(lo,hi)=>pure (lo,(1:Int),Dz lo hi 1)) _ _ s;rw [uL lo hi n];show wpAny _ _ (pure (((sIx n 0 lo:Nat):Int),(1:Int),Dz ((sIx n 0 lo:Nat):Int) ((sIx n n hi:Nat):Int) 1)) _ _ s;rw [tJ];exact Ag h
theorem zO (xs:Array Value)(i k:Nat):((Ay k).filterMap λ(m:Nat)=>xs[((i:Int)+(m:Int)*1).toNat]?).toArray=((xs.toList.drop i).take k).toArray:=by
 have e:(λ(m:Nat)=>xs[((i:Int)+(m:Int)*1).toNat]?)=λm=>xs[i+m]?:=by
  funext m
  have:((i:Int)+(m:Int)*1).toNat=i+m:=by omega
  rw [this]
 rw [e];have:=pick_run xs i k;rw [List.filterMap_map] at this;have e2:((λx=>xs[x]?) ∘ λx=>i+x)=λm=>xs[i+m]?:=rfl;rw [e2] at this;rw [this]
def getItem_tuple_cut {t sl:Addr}{items:Array Value}{vl vu:Value}{lo hi:Option Int}{Q:Value->Shared->Prop}(ht:IsTup s.heap t items)(hs:s.heap.IsSliceOf sl vl vu .none)(pl:IsPart vl lo)(pu:IsPart vu hi)
  (hw:¬ (sIx items.size 0 lo=0/\sIx items.size items.size hi=items.size))
  (h:Q (.ref s.heap.objs.size) { s with heap:=s.heap.push { cls:=.type "tuple",data:=.seq ((items.toList.drop (sIx items.size 0 lo)).take (sIx items.size items.size hi-sIx items.size 0 lo)).toArray } })
  (hsz:items.size<=AE):wpAny (model prog w) A (getItem (.ref t) (.ref sl)) Q E s:=by
 have htake:sizeOk (.seq ((items.toList.drop (sIx items.size 0 lo)).take (sIx items.size items.size hi-sIx items.size 0 lo)).toArray):=by
  show ((items.toList.drop (sIx items.size 0 lo)).take (sIx items.size items.size hi-sIx items.size 0 lo)).toArray.size<=AE;rw [Ai,CL,List.length_drop,BL];omega
 have hj:sIx items.size items.size hi<=items.size:=aFa _ _ (Ao _) hi;obtain ⟨os,hos,hcs,hds⟩:=id hs;have hTs:s.TypeIs (.ref sl) "slice":=⟨os,hos,hcs⟩;unfold getItem
 try with_reducible refine BE ?_
 first|refine Aa (Ag ?_)|skip
 refine Aa (wpAny_sequenceKey ht.typeIs (by decide) ?_);refine Aa (BR (name:=DF "__getitem__") ht.typeIs BJ
  (BG BJ ht.typeIs entry_tuple_getitem ?_ (args_tuple_getitem _ _)))
 show wpAny _ _ (AU.Tuple.tupleItemsOf (.ref t) >>= _) _ _ s;refine Aa (tupleItemsOf_ ht ?_);refine Aa (wpAny_typeOf hTs ?_);rw [if_pos (by decide)];refine Aa (eO hs pl pu ?_);have hno:¬ ((((sIx items.size 0 lo:Nat):Int)==0&&(1:Int)==1&&(sIx items.size items.size hi-sIx items.size 0 lo)==items.size)=true):=by
  intro q;rw [BV,BV] at q;have q1:((sIx items.size 0 lo:Nat):Int)=0:=ED q.1.1;have q2:sIx items.size items.size hi-sIx items.size 0 lo=items.size:=ED q.2;exact hw ⟨by omega,by omega⟩
 show wpAny _ _ (if (((sIx items.size 0 lo:Nat):Int)==0&&(1:Int)==1&&(sIx items.size items.size hi-sIx items.size 0 lo)==items.size)=true then _ else _) _ _ s;rw [if_neg hno,zO]
 first
  |exact Aa (m:=DD _) (Be (Ag ⟨_,rfl,Ag h⟩) htake)
  |exact Aa (m:=DD _) (Be (Aa (Ag (Ag ⟨_,rfl,Ag h⟩))) htake)
  |exact Aa (Aa (m:=DD _) (Be (Ag (Ag ⟨_,rfl,Ag h⟩)) htake))
  |exact Aa (Aa (m:=DD _) (Be (Ag ⟨_,rfl,Ag h⟩) htake))
end
end HT
namespace L2
open PySem PySem.Spec PyProof.Rows
abbrev TO:=St->Hp->(Option Int->Hp->Prop)->Prop
def PO (X:Cx)(e:Option Expr)(t:TO):Prop:=
 ∀ (pins:List (Addr×Obj)) (s:Shared) (σ:St) (H:Hp) (Q:Option Int->Hp->Prop),Inv X pins σ H s->t σ H Q ->
  wpAny (model X.prog X.w) X.A (evalPart e X.env) (λu s'=>∃ o H',Inv X pins σ H' s'/\IsPart u o/\Q o H') X.xe s
def aCn:TO:=λ_ H Q=>Q none H
def aGq (t:TE):TO:=λσ H Q=>t σ H λx H1=>∃ i,x=.int i/\Q (some i) H1
def intsAre_of :∀ {us:List Value},Vals (ns.map V.int) us->DH us ns:=by
 induction ns with
 |nil=>intro us r;rw [List.map_nil] at r;cases r;exact .nil
 |cons n ns ih=>
  intro us r;rw [Bb] at r;cases r with
  |cons r1 r2=>
   obtain ⟨t,e⟩:=r1;subst e;exact .cons n t (ih r2)
section
variable {X:Cx}{e:Expr}{te:TE}{lo hi:Option Expr}{tl th:TO}{pos p2:Pos}
def aDc:PO X none aCn:=by
 intro pins s σ H Q I h;rw [evalPart_none];exact Ag ⟨none,H,I,.none,h⟩
def aDb (h:PE X e te):PO X (some e) (aGq te):=by
 intro pins s σ H Q I hw;rw [evalPart_some];refine thn (h pins s σ H _ I hw) λu s1 ⟨x,H1,I1,r1,q1⟩=>?_;obtain ⟨i,rfl,q⟩:=q1;obtain ⟨t,rfl⟩:=r1;exact ⟨some i,H1,I1,.int i t,q⟩
def SlR (X:Cx)(r:V->Option Int->Option Int->Hp->VK->Prop):Prop:=
 ∀ (pins:List (Addr×Obj)) (s:Shared) (σ:St) (H:Hp) (x:V) (v vl vu:Value) (lo hi:Option Int) (sl:Addr) (Q:VK),Inv X pins σ H s->RelV x v->s.heap.IsSliceOf sl vl vu .none->IsPart vl lo->IsPart vu hi->r x lo hi H Q ->
  ∃ T id,typeLookup (.type T) "__getitem__" = pure (some (.builtin id))/\s.TypeIs v T/\wpAny (model X.prog X.w) X.A (getItem v (.ref sl)) (EP X pins σ Q) X.xe s
def tSl (r:V->Option Int->Option Int->Hp->VK->Prop)(te:TE)(tl th:TO):TE:=λσ H Q=>te σ H λx H1=>tl σ H1 λl H2=>th σ H2 λu H3=>r x l u H3 Q
def zU {r:V->Option Int->Option Int->Hp->VK->Prop}(hr:SlR X r)(he:PE X e te)(hl:PO X lo tl)(hu:PO X hi th):PE X (.Subscript e (.Slice lo hi none p2) pos) (tSl r te tl th):=by
 intro pins s σ H Q I h;refine Subscript_ (thn (he pins s σ H _ I h) λv s1 ⟨x,H1,I1,r1,q1⟩=>?_);refine wpAny_Slice (thn (hl pins s1 σ H1 _ I1 q1) λvl s2 ⟨l,H2,I2,pl,q2⟩=>thn (hu pins s2 σ H2 _ I2 q2) λvu s3 ⟨u,H3,I3,pu,q3⟩=>?_);rw [evalPart_none];refine Ag ?_;have I4:Inv X pins σ H3 { s3 with heap:=s3.heap.push { cls:=.type "slice",data:=.fields #[vl,vu,.none] } }:=I3.kept (t':=s3.toks) λb ob q=>Ae _ q;obtain ⟨T,id,hT,ht,hg⟩:=hr pins { s3 with heap:=s3.heap.push { cls:=.type "slice",data:=.fields #[vl,vu,.none] } } σ H3 x v vl vu l u s3.heap.objs.size Q I4 r1 (Heap.IsSliceOf.new ..) pl pu q3;show wpAny (model X.prog X.w) X.A (subscriptTail e (.Slice lo hi none p2) v (.ref s3.heap.objs.size)) (EP X pins σ Q) X.xe { s3 with heap:=s3.heap.push { cls:=.type "slice",data:=.fields #[vl,vu,.none] } };exact tail_any (ops:=[.ref s3.heap.objs.size,v]) ht hT hg (by with_unfolding_all rfl)
def cutV (xs:List V)(lo hi:Option Int):List V:=(xs.drop (HT.sIx xs.length 0 lo)).take (HT.sIx xs.length xs.length hi-HT.sIx xs.length 0 lo)
def qS (xs:List V)(lo hi:Option Int):(cutV xs lo hi).length<=xs.length:=by
 unfold cutV;rw [CL,List.length_drop];omega
def rSlT (K:Ab):V->Option Int->Option Int->Hp->VK->Prop:=λx lo hi H Q=>∃ a xs,x=.ref a/\SqT K H a xs /\
 ¬ (HT.sIx xs.length 0 lo=0/\HT.sIx xs.length xs.length hi=xs.length)/\∀ p,H p=none->Q (.ref p) (upd H p (.tup (cutV xs lo hi)))
def aE2:SlR X (rSlT X.K):=by
 intro pins s σ H x v vl vu lo hi sl Q I rx hs pl pu h;obtain ⟨a,xs,rfl,hx,hw,q⟩:=h;cases rx;obtain ⟨its,r,ht,hz⟩:=I.tuple hx;have hlen:its.toArray.size=xs.length:=by rw [Ai];exact r.length.symm
 refine ⟨"tuple",_,BJ.lookup,ht.typeIs,?_⟩;refine HT.getItem_tuple_cut ht hs pl pu (by rw [hlen];exact hw) ?_ (by rw [hlen];exact hz);rw [hlen];refine ⟨.ref s.heap.objs.size,_,I.laid (t':=s.toks) (o:=.tup (cutV xs lo hi)) (λb ob q=>Ae _ q) (Ao _) ?_,rfl,q _ (I.hok.fresh (Ao _))⟩;exact ⟨⟨Bh (qS xs lo hi) hz,_,An _ rfl,rfl⟩,_,(r.drop (HT.sIx xs.length 0 lo)).take (HT.sIx xs.length xs.length hi-HT.sIx xs.length 0 lo),IsTup.new _ _⟩
def rLtT (K:Ab):R2:=λx y H Q=>∃ a b ns ms,x=.ref a/\y=.ref b/\SqT K H a (ns.map V.int)/\SqT K H b (ms.map V.int)/\Q (.bl (HT.lexLt ns ms)) H
def aFk (K:Ab):R2:=λx y H Q=>∃ a b xs ys,x=.ref a/\y=.ref b/\SqT K H a xs/\SqT K H b ys/\xs≠[]/\xs.length+ys.length<=AE /\
 (ys=[]->Q (.ref a) H)/\(ys≠[]->∀ p,H p=none->Q (.ref p) (upd H p (.tup (xs++ys))))
def Vals.nil_iff (r:Vals xs us):us=[]↔xs=[]:=by
 cases r with
 |nil=>simp
 |cons _ _=>simp
def aDp:OpR X (DM .Add) (aFk X.K):=by
 intro pins s σ H x y v u Q I rx ry h;obtain ⟨a,b,xs,ys,rfl,rfl,ha,hb,hx,hz,q1,q2⟩:=h;cases rx;cases ry;obtain ⟨its,r1,p1,_⟩:=I.tuple ha;obtain ⟨its2,r2,p2,_⟩:=I.tuple hb;refine HT.cat_tup p1 p2 (λz=>hx (r1.nil_iff.mp z)) (λz=>⟨.ref a,H,I,rfl,q1 (r2.nil_iff.mp z)⟩) (λz=>?_) (by rw [<- r1.length,<- r2.length];exact hz);refine ⟨.ref s.heap.objs.size,_,I.laid (t':=s.toks) (o:=.tup (xs++ys)) (λb ob q=>Ae _ q) (Ao _) ?_,rfl,q2 (λw=>z (r2.nil_iff.mpr w)) _ (I.hok.fresh (Ao _))⟩;exact ⟨⟨by rw [Aq];exact hz,_,An _ rfl,rfl⟩,_,r1.append r2,IsTup.new _ _⟩
end
def ixN (n:Nat)(i:Int):Option Nat:=if 0<=i then (if i<n then some i.toNat else none) else if -(n:Int)<=i then some (i+n).toNat else none
def atI {α:Type}(xs:List α)(i:Int):Option α:=(ixN xs.length i).bind λj=>xs[j]?
def xN {n:Nat}{i:Int}{j:Nat}(h:ixN n i=some j):seqIndex? i n=some j/\j<n/\-(n:Int)<=i/\i<n:=by
 unfold ixN at h
 by_cases h0:0<=i
 ·rw [if_pos h0] at h
  by_cases h1:i<n
  ·rw [if_pos h1] at h
   have e:i.toNat=j:=AS h;exact ⟨by rw [seqIndex_of h0 h1,e],by omega,by omega,h1⟩
  ·rw [if_neg h1] at h;cases h
 ·rw [if_neg h0] at h
  by_cases h1:-(n:Int)<=i
  ·rw [if_pos h1] at h
   have e:(i+n).toNat=j:=AS h;exact ⟨by rw [seqIndex_neg (by omega) h1,e],by omega,h1,by omega⟩
  ·rw [if_neg h1] at h;cases h
def qV {α:Type}{xs:List α}{i:Int}{v:α}(h:atI xs i=some v):∃ j,seqIndex? i xs.length=some j/\xs[j]?=some v/\j<xs.length/\-(xs.length:Int)<=i/\i<xs.length:=by
 unfold atI at h;cases e:ixN xs.length i with
 |none=>rw [e] at h;cases h
 |some j=>
  rw [e] at h;obtain ⟨h1,h2,h3,h4⟩:=xN e;exact ⟨j,h1,h,h2,h3,h4⟩
def aZ {α:Type}{xs:List α}{j:Nat}{v:α}(h:xs[j]?=some v):atI xs (j:Int)=some v:=by
 have hj:j<xs.length:=(Ah.mp h).1;have e:ixN xs.length (j:Int)=some j:=by
  unfold ixN;rw [if_pos (by omega),if_pos (by omega)];simp
 unfold atI;rw [e];exact h
def mK {α:Type}(xs:List α)(v:α):atI (xs++[v]) (-1)=some v:=by
 have hl:(xs++[v]).length=xs.length+1:=by simp
 have e:ixN (xs++[v]).length (-1)=some xs.length:=by
  unfold ixN;rw [hl,if_neg (by decide),if_pos (by omega)]
  congr 1
  omega
 unfold atI;rw [e];show (xs++[v])[xs.length]?=some v;simp
def aEh (b:Expr):Prop:=∀ o i,subscripted b false o i=operate [o,i] (getItem o i)
def IxR (X:Cx)(r:R2):Prop:=
 ∀ (value slice:Expr) (pins:List (Addr×Obj)) (s:Shared) (σ:St) (H:Hp) (x y:V) (v u:Value) (Q:VK),Inv X pins σ H s->RelV x v->RelV y u->r x y H Q ->
  subscripted slice false v u=operate [v,u] (getItem v u)->wpAny (model X.prog X.w) X.A (subscriptTail value slice v u) (EP X pins σ Q) X.xe s
def MtR (X:Cx)(id:String)(r:V->List V->Hp->VK->Prop):Prop:=
 ∀ (pins:List (Addr×Obj)) (s:Shared) (σ:St) (H:Hp) (x:V) (xs:List V) (v:Value) (us:List Value) (Q:VK),Inv X pins σ H s->RelV x v->Vals xs us->r x xs H Q ->
  wpAny (model X.prog X.w) X.A (call (.builtin id) (v::us)) (EP X pins σ Q) X.xe s
section
variable {X:Cx}{a b:Expr}{ta tb:TE}{pos:Pos}
def bE {r:R2}(hr:IxR X r)(ha:PE X a ta)(hb:PE X b tb)(hs:aEh b):PE X (.Subscript a b pos) (tOp r ta tb):=by
 intro pins s σ H Q I h;exact Subscript_ (binT ha hb I h λv u s2 x y H2 I2 rx ry q=>hr a b pins s2 σ H2 x y v u Q I2 rx ry q (hs _ _))
def rIxL (K:Ab):R2:=λx y H Q=>∃ p xs i v,x=.ref p/\y=.int i/\SqL K H p xs/\atI xs i=some v/\Q v H
def rIxT (K:Ab):R2:=λx y H Q=>∃ p xs i v,x=.ref p/\y=.int i/\SqT K H p xs/\atI xs i=some v/\Q v H
def rIxS:R2:=λx y H Q=>∃ z i c,x=.str z/\y=.int i/\z.length<=AE/\atI z.cps.toList i=some c/\Q (.str ⟨#[c]⟩) H
def aW:IxR X (rIxL X.K):=by
 intro value slice pins s σ H x y v u Q I rx ry h hs;obtain ⟨p,xs,i,z,rfl,rfl,hq,he,q⟩:=h;cases rx;obtain ⟨t,rfl⟩:=ry;obtain ⟨its,r,pl,hz⟩:=I.list hq;obtain ⟨j,h1,h2,h3,h4,h5⟩:=qV he;obtain ⟨w,ew,rw'⟩:=r.get h2;have hl:=r.length;have hn:=nX;have fin:EP X pins σ Q w s:=⟨z,H,I,rw',q⟩
 by_cases h0:0<=i
 ·have hj:i.toNat=j:=by
   rw [seqIndex_of h0 h5] at h1;exact AS h1
  exact item_listR pl.isList h0 (by omega) (by rw [hj];simpa using ew) fin hs
 ·have hj:(i+(its.toArray.size:Int)).toNat=j:=by
   rw [seqIndex_neg (by omega) h4] at h1;rw [Ai,<- hl];exact AS h1
  exact subscriptTail_builtinR (x:=w) pl.isList.typeIs slot_list_getitem.lookup
   (wpAny_getItem_list_neg (Q:=λr s'=>r=w/\EP X pins σ Q r s') pl.isList (by omega) (by rw [Ai]<;>omega) (by omega) (by rw [hj];simpa using ew) ⟨rfl,fin⟩) hs
def hJ:IxR X (rIxT X.K):=by
 intro value slice pins s σ H x y v u Q I rx ry h hs;obtain ⟨p,xs,i,z,rfl,rfl,hq,he,q⟩:=h;cases rx;obtain ⟨t,rfl⟩:=ry;obtain ⟨its,r,pl,hz⟩:=I.tuple hq;obtain ⟨j,h1,h2,h3,h4,h5⟩:=qV he;obtain ⟨w,ew,rw'⟩:=r.get h2;have hl:=r.length;have hn:=nX;have fin:EP X pins σ Q w s:=⟨z,H,I,rw',q⟩;exact subscriptTail_builtinR (x:=w) pl.typeIs slot_tuple_getitem.lookup
  (getItem_tuple (j:=j) (Q:=λr s'=>r=w/\EP X pins σ Q r s') pl (by omega) (by omega) (by rw [Ai,<- hl];exact h1) (by simpa using ew) ⟨rfl,fin⟩) hs
def oA:IxR X rIxS:=by
 intro value slice pins s σ H x y v u Q I rx ry h hs;obtain ⟨z,i,c,rfl,rfl,hz,he,q⟩:=h;obtain ⟨t,rfl⟩:=rx;obtain ⟨t',rfl⟩:=ry;obtain ⟨j,h1,h2,h3,h4,h5⟩:=qV he;have hl:z.cps.toList.length=z.length:=by simp [Str.length]
 rw [hl] at h1 h4 h5;have hn:=nX;exact tail_any (typeIs_str s z t) slot_str_getitem.lookup (getItem_str (c:=c) (by
  have e1:decide (i < -(2^63:Int))=false:=decide_eq_false (by omega);have e2:decide (i ≥ 2^63)=false:=decide_eq_false (by omega);rw [e1,e2,Bool.or_false]) (by rw [h1];simpa using h2) ⟨.str ⟨#[c]⟩,H,I.tok _,⟨_,rfl⟩,q⟩) hs
def rIx (K:Ab):R2:=λx y H Q=>rIxL K x y H Q\/rIxT K x y H Q\/rIxS x y H Q
def tR (its:List Value)(n j:Nat)(u:Value):Br (·.setIfInBounds j u) { cls:=.type "list",data:=.seq its.toArray n }={ cls:=.type "list",data:=.seq (its.set j u).toArray n }:=by
 simp [Br]
theorem Inv.lst {σ:St}{s:Shared}(I:Inv X pins σ H s)(h:H p=some (.lst xs)) :
  ∃ (its:List Value) (n:Nat),Vals xs its/\s.heap.get? p=some { cls:=.type "list",data:=.seq its.toArray n }/\xs.length<=AE:=by
 obtain ⟨z,its,n,r,e⟩:=I.hok p _ h;exact ⟨its,n,r,e,z⟩
def Inv.lstUpd {pins:List (Addr×Obj)}{σ:St}{H:Hp}{s:Shared}{p:Addr}{xs ys:List V}{its its':List Value}{n n':Nat}{f:Obj->Obj}(I:Inv X pins σ H s)(h:H p=some (.lst xs))
  (ho:s.heap.get? p=some { cls:=.type "list",data:=.seq its.toArray n }) (hf:f { cls:=.type "list",data:=.seq its.toArray n }={ cls:=.type "list",data:=.seq its'.toArray n' }) (r:Vals ys its') (hz:ys.length<=AE) (t:Nat) :
  Inv X pins σ (upd H p (.lst ys)) { s with heap:=s.heap.update p f,toks:=t }:=by
 have e:(s.heap.update p f).get? p=some { cls:=.type "list",data:=.seq its'.toArray n' }:=by
  rw [BB f ho (by rw [hf]<;>rfl),hf]
 refine I.write (x:=p) (e:=p) (by rw [h];trivial) (.inl rfl) (λb u hb q=>(Bg _ _ (BU hb)).trans q) ⟨_,e⟩ ?_;exact ⟨hz,its',n',r,e⟩
def aG4:V->V->V->Hp->(Hp->Prop)->Prop:=λo i v H Q=>∃ p xs k j,o=.ref p/\i=.int k/\H p=some (.lst xs)/\ixN xs.length k=some j/\Q (upd H p (.lst (xs.set j v)))
def set_list:PSet X aG4:=by
 intro pins s σ H o i v ov iv u Q I ro ri rv h;obtain ⟨p,xs,k,j,rfl,rfl,hp,hj,q⟩:=h;cases ro;obtain ⟨t,rfl⟩:=ri;obtain ⟨its,n,r,ho,hz⟩:=I.lst hp;obtain ⟨h1,h2,h3,h4⟩:=xN hj;have hl:=r.length;have hn:=nX;have I':Inv X pins σ (upd H p (.lst (xs.set j v))) { s with heap:=s.heap.update p (Br (·.setIfInBounds j u)) }:=
  I.lstUpd hp ho (tR its n j u) (r.set rv j) (by rw [List.length_set];exact hz) s.toks
 by_cases h0:0<=k
 ·have hk:k.toNat=j:=by
   rw [seqIndex_of h0 h4] at h1;exact AS h1
  exact PySem.W.ki_setAt ho h0 (by omega) (by rw [Ai,<- hl];exact h4) (by rw [hk];exact ⟨_,I',q⟩)
 ·have hk:(k+(its.toArray.size:Int)).toNat=j:=by
   rw [seqIndex_neg (by omega) h3] at h1;rw [Ai,<- hl];exact AS h1
  exact PySem.W.ki_setBack ho (by omega) (by rw [Ai,<- hl];exact h3) (by omega) (by rw [hk];exact ⟨_,I',q⟩)
def rSlL (K:Ab):V->Option Int->Option Int->Hp->VK->Prop:=λx lo hi H Q=>∃ a xs,x=.ref a/\SqL K H a xs/\∀ p,H p=none->Q (.ref p) (upd H p (.lst (cutV xs lo hi)))
def dX:V->Bool
 |.non=>true
 |.bl _=>true
 |.int _=>true
 |.str _=>true
 |_=>false
def eqV:V->V->Bool
 |.non,.non=>true
 |.bl a,.bl b=>a==b
 |.bl a,.int b=>(if a then 1 else 0)==b
 |.int a,.bl b=>a==(if b then 1 else 0)
 |.int a,.int b=>a==b
 |.str a,.str b=>a==b
 |_,_=>false
def aCa {s:Shared}{u v:Value}(ry:RelV y u)(rx:RelV x v)(fy:dX y=true)(fx:dX x=true):Bm A s u v (eqV y x):=by
 cases y with
 |non=>
  cases ry;cases x with
  |non=>cases rx;exact Bm.same _
  |bl b=>cases rx;exact Bm.none_bool b
  |int b=>obtain ⟨t,rfl⟩:=rx;exact Bm.none_int b t
  |str b=>obtain ⟨t,rfl⟩:=rx;exact Bm.none_str b t
  |_=>exact absurd (show false=true from fx) AK
 |bl a=>
  cases ry;cases x with
  |non=>cases rx;exact Bm.bool_none a
  |bl b=>cases rx;exact Bm.bool_bool a b
  |int b=>obtain ⟨t,rfl⟩:=rx;exact Bm.bool_int a b t
  |str b=>obtain ⟨t,rfl⟩:=rx;exact Bm.bool_str a b t
  |_=>exact absurd (show false=true from fx) AK
 |int a=>
  obtain ⟨t',rfl⟩:=ry;cases x with
  |non=>cases rx;exact Bm.int_none a t'
  |bl b=>cases rx;exact Bm.int_bool a t' b
  |int b=>obtain ⟨t,rfl⟩:=rx;exact Bm.int_int a t' b t
  |str b=>obtain ⟨t,rfl⟩:=rx;exact Bm.int_str a t' b t
  |_=>exact absurd (show false=true from fx) AK
 |str a=>
  obtain ⟨t',rfl⟩:=ry;cases x with
  |non=>cases rx;exact Bm.str_none a t'
  |bl b=>cases rx;exact Bm.str_bool a t' b
  |int b=>obtain ⟨t,rfl⟩:=rx;exact Bm.str_int a t' b t
  |str b=>obtain ⟨t,rfl⟩:=rx;exact Bm.str_str a t' b t
  |_=>exact absurd (show false=true from fx) AK
 |_=>exact absurd (show false=true from fy) AK
def eqU (x:V)(u:Value):Bool:=match u with
 |.none=>eqV .non x
 |.bool b=>eqV (.bl b) x
 |.int i _=>eqV (.int i) x
 |.str z _=>eqV (.str z) x
 |_=>false
theorem aB9 {u:Value}(r:RelV y u)(f:dX y=true):eqU x u=eqV y x:=by
 cases y with
 |non=>cases r;rfl
 |bl b=>cases r;rfl
 |int i=>obtain ⟨t,rfl⟩:=r;rfl
 |str z=>obtain ⟨t,rfl⟩:=r;rfl
 |_=>exact absurd (show false=true from f) AK
theorem jU :∀ {xs:List V} {us:List Value},Vals xs us->xs.all dX=true->us.any (eqU x)=xs.any λy=>eqV y x
 |_,_,.nil,_=>rfl
 |y::xs,u::us,.cons r t,f=>by
  rw [List.all_cons,BV] at f;rw [List.any_cons,List.any_cons,aB9 r f.1,jU t f.2]
theorem fZ {s:Shared}(rx:RelV x v)(fx:dX x=true):∀ {xs:List V} {us:List Value},Vals xs us->xs.all dX=true->∀ u∈us,Bm A s u v (eqU x u)
 |_,_,.nil,_=>λu hu=>by cases hu
 |y::xs,u::us,.cons r t,f=>λu' hu=>by
  rw [List.all_cons,BV] at f
  rcases Aw.mp hu with rfl|hu
  ·rw [aB9 r f.1];exact aCa r rx f.1 fx
  ·exact fZ rx fx t f.2 u' hu
def inV (x:V)(xs:List V):Bool:=xs.any λy=>eqV y x
def rIn (K:Ab)(neg:Bool):R2:=λx y H Q=>∃ p xs,y=.ref p/\(SqL K H p xs\/SqT K H p xs)/\dX x=true/\xs.all dX=true/\Q (.bl (if neg then !inV x xs else inV x xs)) H
def dH:OpR X (BO .In) (rIn X.K false):=by
 intro pins s σ H x y v u Q I rx ry h;obtain ⟨p,xs,rfl,hq,fx,fs,q⟩:=h;cases ry
 rcases hq with hq|hq
 ·obtain ⟨its,r,pl,hz⟩:=I.list hq
  refine SeqAt.in_listAt (eqU x) pl.isList (λw hw=>fZ rx fx r fs w (by simpa using hw)) ⟨.bl _,H,I,rfl,?_⟩;rw [show its.toArray.any (eqU x)=its.any (eqU x) by simp,jU r fs];exact q
 ·obtain ⟨its,r,pl,hz⟩:=I.tuple hq
  refine SeqAt.in_tupleAt (eqU x) pl (λw hw=>fZ rx fx r fs w (by simpa using hw)) ⟨.bl _,H,I,rfl,?_⟩;rw [show its.toArray.any (eqU x)=its.any (eqU x) by simp,jU r fs];exact q
def dQ:OpR X (BO .NotIn) (rIn X.K true):=by
 intro pins s σ H x y v u Q I rx ry h;obtain ⟨p,xs,rfl,hq,fx,fs,q⟩:=h;cases ry
 rcases hq with hq|hq
 ·obtain ⟨its,r,pl,hz⟩:=I.list hq
  refine SeqAt.notIn_listAt (eqU x) pl.isList (λw hw=>fZ rx fx r fs w (by simpa using hw)) ⟨.bl _,H,I,rfl,?_⟩;rw [show its.toArray.any (eqU x)=its.any (eqU x) by simp,jU r fs];exact q
 ·obtain ⟨its,r,pl,hz⟩:=I.tuple hq
  refine SeqAt.notIn_tupleAt (eqU x) pl (λw hw=>fZ rx fx r fs w (by simpa using hw)) ⟨.bl _,H,I,rfl,?_⟩;rw [show its.toArray.any (eqU x)=its.any (eqU x) by simp,jU r fs];exact q
def bA:eX X (.builtin "len") (λxs H Q=>∃ p ys,xs=[.ref p]/\(SqL X.K H p ys\/SqT X.K H p ys)/\Q (.int ys.length) H):=by
 intro pins s σ H xs us Q I r h;obtain ⟨p,ys,rfl,hq,q⟩:=h;obtain ⟨u,rfl,rx⟩:=vals1 r;cases rx;have hn:=nX
 rcases hq with hq|hq
 ·obtain ⟨its,r',pl,hz⟩:=I.list hq
  have hlen:=r'.length;exact Calls.call_len_list pl.isList (by simp only [Ai]<;>omega) ⟨.int ys.length,H,I.tok _,⟨s.toks+1,by rw [Ai,hlen]⟩,q⟩
 ·obtain ⟨its,r',pl,hz⟩:=I.tuple hq
  have hlen:=r'.length;exact len_tuple pl (by simp only [Ai]<;>omega) ⟨.int ys.length,H,I.tok _,⟨s.toks+1,by rw [Ai,hlen]⟩,q⟩
def eV:eX X (.type "list") (λxs H Q=>∃ p ys,xs=[.ref p]/\(SqL X.K H p ys\/SqT X.K H p ys)/\∀ l,H l=none->Q (.ref l) (upd H l (.lst ys))):=by
 intro pins s σ H xs us Q I r h;obtain ⟨p,ys,rfl,hq,q⟩:=h;obtain ⟨u,rfl,rx⟩:=vals1 r;cases rx;have fin:∀ (its:List Value),Vals ys its->ys.length<=AE->∀ (h':Heap) (c':Nat),(∀ b o',s.heap.get? b=some o'->h'.get? b=some o') ->
   h'.get? s.heap.objs.size=some { cls:=.type "list",dict:=none,data:=.seq its.toArray c',slots:=#[] }->EP X pins σ Q (.ref s.heap.objs.size) { s with heap:=h' }:=λits r' hz h' c' kp e=>
  ⟨.ref s.heap.objs.size,_,I.laid (t':=s.toks) kp (Ao _) (show ObjOk X.prog X.w _ h' _ (.lst ys) from ⟨hz,its,c',r',e⟩),rfl,q _ (I.hok.fresh (Ao _))⟩
 rcases hq with hq|hq
 ·obtain ⟨its,r',pl,hz⟩:=I.list hq
  have hlen:=r'.length;obtain ⟨o,ho,hc,n,hd⟩:=pl.isList;exact call_list_seq p (.inl rfl) ho hc hd (λh' c' kp e=>fin its r' hz h' c' kp e) (by simp only [Ai]<;>omega)
 ·obtain ⟨its,r',pl,hz⟩:=I.tuple hq
  have hlen:=r'.length;obtain ⟨o,ho,hc,n,hd⟩:=pl;exact call_list_seq p (.inr rfl) ho hc hd (λh' c' kp e=>fin its r' hz h' c' kp e) (by simp only [Ai]<;>omega)
def cE:eX X (.type "tuple") (λxs H Q=>∃ p ys,xs=[.ref p]/\((SqL X.K H p ys/\∀ l,H l=none->Q (.ref l) (upd H l (.tup ys)))\/(SqT X.K H p ys/\Q (.ref p) H))):=by
 intro pins s σ H xs us Q I r h;obtain ⟨p,ys,rfl,h⟩:=h;obtain ⟨u,rfl,rx⟩:=vals1 r;cases rx
 rcases h with ⟨hq,q⟩|⟨hq,q⟩
 ·obtain ⟨its,r',pl,hz⟩:=I.list hq
  have hlen:=r'.length;refine call_tuple_list pl.isList (λh' kp=>?_) (by simp only [Ai]<;>omega);have I1:Inv X pins σ H { s with heap:=h' }:=I.kept (t':=s.toks) kp;have I2:Inv X pins σ (upd H h'.objs.size (.tup ys)) { s with heap:=h'.push { cls:=.type "tuple",data:=.seq its.toArray } }:=
   I1.laid (t':=s.toks) (λb o e=>Ae _ e) (Ao _) (show ObjOk X.prog X.w _ _ _ (.tup ys) from ⟨⟨hz,_,An _ rfl,rfl⟩,its,r',IsTup.new _ _⟩)
  exact ⟨.ref h'.objs.size,_,I2,rfl,q _ (I1.hok.fresh (Ao _))⟩
 ·obtain ⟨its,r',pl,hz⟩:=I.tuple hq
  exact call_tuple_same pl ⟨.ref p,H,I,rfl,q⟩
def tyV (K:Ab)(T:String)(x:V)(H:Hp):Prop:=match x with
 |.str _=>T = "str"
 |.int _=>T = "int"
 |.ref p=>(T = "list" /\ ∃ xs,SqL K H p xs)\/(T = "tuple" /\ ∃ o,K.lookup p=some o/\o.cls=.type "tuple" /\ o.dict=none) \/
   (T = "dict" /\ ((∃ kvs,H p=some (.dK kvs))\/∃ kvs,H p=some (.dT kvs)))\/(T = "set" /\ ∃ S n,H p=some (.set S n))
 |_=>False
def aBm {σ:St}{s:Shared}(I:Inv X pins σ H s)(r:RelV x v)(ty:tyV X.K T x H) :
  s.TypeIs v T/\∀ a,v=.ref a->∃ ob,s.heap.get? a=some ob/\ob.dict=none:=by
 cases x with
 |str z=>
  obtain ⟨t,rfl⟩:=r;cases (show T = "str" from ty);exact ⟨typeIs_str s z t,λ_ e=>nomatch e⟩
 |int i=>
  obtain ⟨t,rfl⟩:=r;cases (show T = "int" from ty);exact ⟨typeIs_int s i t,λ_ e=>nomatch e⟩
 |ref p=>
  cases r
  rcases ty with ⟨rfl,xs,hq⟩|⟨rfl,o,hk,hc,hd⟩|⟨rfl,hk⟩|⟨rfl,S,n,hk⟩
  ·obtain ⟨its,_,pl,_⟩:=I.list hq
   refine ⟨pl.isList.typeIs,λa e=>?_⟩;cases e;obtain ⟨o,n,e,c,hd,_⟩:=pl;exact ⟨o,e,hd⟩
  ·refine ⟨⟨o,I.kIn p o hk,hc⟩,λa e=>?_⟩
   cases e;exact ⟨o,I.kIn _ o hk,hd⟩
  ·have z:∃ o,s.heap.get? p=some o/\o.ExactDict:=by
    rcases hk with ⟨kvs,hk⟩|⟨kvs,hk⟩
    ·obtain ⟨_,_,_,_,o,_,_,e,ex,_⟩:=I.hok p _ hk
     exact ⟨o,e,ex⟩
    ·obtain ⟨_,_,_,_,o,_,_,e,ex,_⟩:=I.hok p _ hk
     exact ⟨o,e,ex⟩
   obtain ⟨o,e,ex⟩:=z;refine ⟨⟨o,e,ex.1⟩,λa e2=>?_⟩;cases e2;exact ⟨o,e,ex.2.1⟩
  ·obtain ⟨o,_,_,_,e,ex,_⟩:=I.hok p _ hk
   refine ⟨⟨o,e,ex.1⟩,λa e2=>?_⟩;cases e2;exact ⟨o,e,ex.2.1⟩
 |_=>exact Cu ty
def tBM0 (K:Ab)(T:String)(r:V->List V->Hp->VK->Prop)(to:TE):TE:=λσ H Q=>to σ H λx H1=>tyV K T x H1/\r x [] H1 Q
def tBM (K:Ab)(T:String)(r:V->List V->Hp->VK->Prop)(to:TE)(t:TA):TE:=λσ H Q=>to σ H λx H1=>tyV K T x H1/\t σ H1 λxs H2=>r x xs H2 Q
variable {o e:Expr}{es:List Expr}{to:TE}{t:TA}{name:Str}{apos cpos:Pos}{T id:String}{r:V->List V->Hp->VK->Prop}
def rP (pa:PlainAttrs T)(slot:Slot T name id)(hty:typeOf (.builtin id)=pure (.type "method_descriptor"))(hm:MtR X id r)(ho:PE X o to)
  (hbase:Ee o name X.env (eval o X.env)=eval o X.env:=by rfl) (hline:(apos.endLine==cpos.line)=true:=by rfl):PE X (.Call (.Attribute o name apos) [] [] cpos) (tBM0 X.K T r to):=by
 intro pins s σ H Q I h;refine wpAny_Call_method0_late hbase hline (thn (ho pins s σ H _ I h) λv s1 ⟨x,H1,I1,r1,ty,q1⟩=>?_);obtain ⟨h1,h2⟩:=aBm I1 r1 ty;exact ⟨T,id,pa,slot,hty,h1,h2,Du rfl (PySem.evalArgs_none (hm pins s1 σ H1 x [] v [] Q I1 r1 .nil q1))⟩
def cO (pa:PlainAttrs T)(slot:Slot T name id)(hty:typeOf (.builtin id)=pure (.type "method_descriptor"))(hm:MtR X id r)(ho:PE X o to)(ha:PA X (e::es) t)
  (hbase:Ee o name X.env (eval o X.env)=eval o X.env:=by rfl)
  (hfew:((backTo cpos (AV (e::es) X.env)).all (λx=>!x.1)&&(backToKw cpos (Dy [] X.env)).all (λx=>x.1.isSome)
   && decide ((e::es).length+([]:List Keyword).length+(if ([]:List Keyword).isEmpty then 0 else 1)<30))=true:=by rfl)
  (hline:(apos.endLine==cpos.line)=true:=by rfl) (hs:AV (e::es) X.env=(false,eval e X.env)::AV es X.env:=by rfl) (hplain:(backTo cpos (AV es X.env)).any (·.1)=false:=by rfl) :
  PE X (.Call (.Attribute o name apos) (e::es) [] cpos) (tBM X.K T r to t):=by
 intro pins s σ H Q I h;refine wpAny_Call_method_late hbase hfew hline rfl (thn (ho pins s σ H _ I h) λv s1 ⟨x,H1,I1,r1,ty,q1⟩=>?_);obtain ⟨h1,h2⟩:=aBm I1 r1 ty;refine ⟨T,id,pa,slot,hty,h1,h2,?_⟩;have hA:=ha cpos pins s1 σ H1 _ I1 q1;rw [hs] at hA ⊢;refine Du (by show (false||(backTo cpos (AV es X.env)).any (·.1))=false;rw [hplain]<;>rfl) (EL ?_);exact thn hA λus s2 ⟨vs,H2,I2,r2,q2⟩=>hm pins s2 σ H2 x vs v us Q I2 r1 r2 q2
end
def MtM (X:Cx)(id:String)(r:V->List V->Hp->VK->Prop):Prop:=
 ∀ (pins:List (Addr×Obj)) (s:Shared) (σ:St) (H:Hp) (x:V) (xs:List V) (v:Value) (us:List Value) (Q:VK),Inv X pins σ H s->RelV x v->Vals xs us->r x xs H Q ->
  wpAny (model X.prog X.w) X.A (call (.builtin id) (v::us)) (EP X pins σ Q) X.xe s
def Vals.one:∀ {x:V} {us:List Value},Vals [x] us->∃ u,us=[u]/\RelV x u
 |_,_,.cons r .nil=>⟨_,rfl,r⟩
def Vals.two:∀ {x y:V} {us:List Value},Vals [x,y] us->∃ u v,us=[u,v]/\RelV x u/\RelV y v
 |_,_,_,.cons r (.cons q .nil)=>⟨_,_,rfl,r,q⟩
def Vals.zero:∀ {us:List Value},Vals [] us->us=[]
 |_,.nil=>rfl
def Vals.dropLast (h:Vals xs us):Vals xs.dropLast us.dropLast:=by
 induction h with
 |nil=>exact .nil
 |cons r t ih=>
  cases t with
  |nil=>exact .nil
  |cons q t'=>exact .cons r ih
theorem Vals.eraseIdx:∀ {xs:List V} {us:List Value} (i:Nat),Vals xs us->Vals (xs.eraseIdx i) (us.eraseIdx i)
 |_,_,_,.nil=>.nil
 |_,_,0,.cons _ t=>t
 |_,_,i+1,.cons r t=>.cons r (Vals.eraseIdx i t)
theorem Vals.rep (h:Vals xs us):∀ k:Nat,Vals (AR k xs).flatten (AR k us).flatten
 |0=>.nil
 |k+1=>by
  rw [BZ,BZ,Ey,Ey];exact Vals.append h (Vals.rep h k)
theorem uD {α:Type}(l:List α):l.eraseIdx (l.length-1)=l.dropLast:=by
 induction l with
 |nil=>rfl
 |cons a r ih=>
  cases r with
  |nil=>rfl
  |cons b r=>
   have e:(a::b::r).length-1=((b::r).length-1)+1:=by
    have h1:(a::b::r).length=r.length+2:=rfl;have h2:(b::r).length=r.length+1:=rfl;omega
   rw [e,Fq,ih]
   all_goals rfl
theorem jN {α:Type}:∀ (l:List α) (i:Nat),(l.eraseIdx i).length<=l.length
 |[],_=>Ao _
 |_::_,0=>Cb _
 |_::r,i+1=>Nat.succ_le_succ (jN r i)
theorem foldl_rep (its:List Value):∀ (k:Nat) (acc:List Value),
  List.foldl (λx1 x2=>x1++x2) acc.toArray (AR k its.toArray)=(acc++(AR k its).flatten).toArray
 |0,acc=>by simp
 |k+1,acc=>by
  have e:acc.toArray++its.toArray=(acc++its).toArray:=by simp
  have e2:(acc++its)++(AR k its).flatten=acc++(AR (k+1) its).flatten:=by
   rw [BZ,Ey,Bo]
  rw [<- e2,<- foldl_rep its k (acc++its),<- e,BZ,List.foldl_cons]
section
variable {X:Cx}{pins:List (Addr×Obj)}{σ:St}{H:Hp}{s:Shared}{l b:Addr}{xs ys zs:List V}
def Inv.lset {its its':List Value}{n:Nat}{f:Array Value->Array Value}{t':Nat}(I:Inv X pins σ H s)(hH:H l=some (.lst xs))
  (e:s.heap.get? l=some { cls:=.type "list",data:=.seq its.toArray n }) (hf:f its.toArray=its'.toArray) (hv:Vals ys its') (hz:ys.length<=AE) :
  Inv X pins σ (upd H l (.lst ys)) { s with heap:=s.heap.update l (Br f),toks:=t' }:=by
 have q:=PySem.IsL.update e f;rw [hf] at q;refine I.write (x:=l) (e:=l) (by rw [hH];exact trivial) (.inl rfl) (λb' u hb hu=>(Bg s.heap (Br f) (BU hb)).trans hu) ⟨_,q⟩ ?_;exact ⟨hz,its',_,hv,q⟩
def Inv.lnew {t':Nat}(I:Inv X pins σ H s)(hv:Vals ys its)(hz:ys.length<=AE) :
  Inv X pins σ (upd H s.heap.objs.size (.lst ys)) { s with heap:=s.heap.push { cls:=.type "list",data:=.seq its.toArray },toks:=t' }:=
 I.laid (λ_ _ q=>Ae _ q) (Ao _) ⟨hz,its,0,hv,An _ rfl⟩
def Inv.fresh (I:Inv X pins σ H s):H s.heap.objs.size=none:=I.hok.fresh (Ao _)
def Inv.lstM (I:Inv X pins σ H s)(hH:H l=some (.lst xs)):xs.length<=AE/\∃ (its:List Value) (n:Nat),Vals xs its/\xs.length=its.length/\s.heap.get? l=some { cls:=.type "list",data:=.seq its.toArray n }:=by
 obtain ⟨z,its,n,r,e⟩:=I.hok l _ hH;exact ⟨z,its,n,r,r.length,e⟩
theorem rT {n:Nat}(h:n<=AE):DK n=false:=by
 unfold DK;exact decide_eq_false (by omega)
end
section
variable {X:Cx}
def aC8:V->List V->Hp->VK->Prop:=λx vs H Q=>∃ l xs y,x=.ref l/\vs=[y]/\H l=some (.lst xs)/\xs.length<AE/\Q .non (upd H l (.lst (xs++[y])))
def aX:MtM X "list.append" aC8:=by
 intro pins s σ H x vs v us Q I rx rv h;obtain ⟨l,xs,y,rfl,rfl,hH,hz,q⟩:=h;cases rx;obtain ⟨u,rfl,ru⟩:=rv.one;obtain ⟨z,its,n,r,hl,e⟩:=I.lstM hH;refine call_meets F.slot_list_append ⟨_,e,rfl⟩ F.entry_list_append (F.args_list_append_2 _ _) (PySem.list_append l its.toArray n u (by rw [Ai];omega)) ⟨e,?_⟩;refine ⟨.non,_,I.lset (its':=its++[u]) hH e (by simp) (r.append (.cons ru .nil)) ?_,rfl,q⟩;rw [Aq,List.length_singleton];omega
def aC7:V->List V->Hp->VK->Prop:=λx vs H Q=>∃ l b xs zs,x=.ref l/\vs=[.ref b]/\H l=some (.lst xs)/\H b=some (.lst zs)/\xs.length+zs.length<=AE/\Q .non (upd H l (.lst (xs++zs)))
def nQ:MtM X "list.extend" aC7:=by
 intro pins s σ H x vs v us Q I rx rv h;obtain ⟨l,b,xs,zs,rfl,rfl,hH,hB,hz,q⟩:=h;cases rx;obtain ⟨u,rfl,ru⟩:=rv.one;cases ru;obtain ⟨z,its,n,r,hl,e⟩:=I.lstM hH;obtain ⟨z2,its2,n2,r2,hl2,e2⟩:=I.lstM hB;have hsz:its.toArray.size+its2.toArray.size<=AE:=by rw [Ai,Ai];omega
 have hlong:¬ (!its.toArray.isEmpty&&DK (its.toArray.size+its2.toArray.size))=true:=by
  rw [rT hsz,Bool.and_false];exact AK
 refine call_meets F.slot_list_extend ⟨_,e,rfl⟩ F.entry_list_extend (F.args_list_extend_2 _ _)
  (AutoSeq1.list_extend_list_list_0 l its.toArray n b its2.toArray n2 hlong (by rw [Ai];omega) (by omega)) ⟨e,e2,?_⟩
 refine ⟨.non,_,I.lset (its':=its++its2) hH e (by simp) (r.append r2) ?_,rfl,q⟩;rw [Aq];omega
def rPop:V->List V->Hp->VK->Prop:=λx vs H Q=>∃ l xs y,x=.ref l/\vs=[]/\H l=some (.lst xs)/\xs[xs.length-1]?=some y/\Q y (upd H l (.lst xs.dropLast))
def nO:MtM X "list.pop" rPop:=by
 intro pins s σ H x vs v us Q I rx rv h;obtain ⟨l,xs,y,rfl,rfl,hH,hy,q⟩:=h;cases rx;have hus:=rv.zero;subst hus;obtain ⟨z,its,n,r,hl,e⟩:=I.lstM hH;obtain ⟨u,hu,ru⟩:=r.get hy;have hy':its.toArray[its.toArray.size-1]?=some u:=by
  show its.toArray[its.length-1]?=some u;rw [<- Cr,<- hl];exact hu
 refine call_meets F.slot_list_pop ⟨_,e,rfl⟩ F.entry_list_pop (F.args_list_pop_1 _) (MeetsSeq.list_pop_last l its.toArray n u hy' (by rw [Ai];omega)) ⟨e,?_⟩;refine ⟨y,_,I.lset (its':=its.dropLast) hH e ?_ r.dropLast ?_,ru,q⟩
 ·show its.toArray.eraseIdxIfInBounds (its.toArray.size-1)=its.dropLast.toArray
  rw [Ai,Ez,uD]
 ·rw [List.length_dropLast]
  omega
def aFh:V->List V->Hp->VK->Prop:=λx vs H Q=>∃ l xs i k y,x=.ref l/\vs=[.int i]/\H l=some (.lst xs)/\-(2^63)<=i/\i<2^63/\seqIndex? i xs.length=some k/\xs[k]?=some y/\Q y (upd H l (.lst (xs.eraseIdx k)))
def aAy:MtM X "list.pop" aFh:=by
 intro pins s σ H x vs v us Q I rx rv h;obtain ⟨l,xs,i,k,y,rfl,rfl,hH,h1,h2,hk,hy,q⟩:=h;cases rx;obtain ⟨u,rfl,ru⟩:=rv.one;obtain ⟨t,rfl⟩:=ru;obtain ⟨z,its,n,r,hl,e⟩:=I.lstM hH;obtain ⟨w,hw,rw'⟩:=r.get hy;refine call_meets F.slot_list_pop ⟨_,e,rfl⟩ F.entry_list_pop (F.args_list_pop_2 _ _)
  (MeetsSeq.list_pop_at l its.toArray n i t k w (fitsIndex_both h1 h2) (by rw [Ai,<- hl];exact hk) (by rw [<- Cr];exact hw) (by rw [Ai];omega)) ⟨e,?_⟩
 refine ⟨y,_,I.lset (its':=its.eraseIdx k) hH e ?_ (r.eraseIdx k) ?_,rw',q⟩
 ·show its.toArray.eraseIdxIfInBounds k=(its.eraseIdx k).toArray
  rw [Ez]
 ·have:=jN xs k
  omega
def rReverse:V->List V->Hp->VK->Prop:=λx vs H Q=>∃ l xs,x=.ref l/\vs=[]/\H l=some (.lst xs)/\Q .non (upd H l (.lst xs.reverse))
def rClear:V->List V->Hp->VK->Prop:=λx vs H Q=>∃ l xs,x=.ref l/\vs=[]/\H l=some (.lst xs)/\Q .non (upd H l (.lst []))
def rCat:R2:=λx y H Q=>∃ l b xs zs,x=.ref l/\y=.ref b/\H l=some (.lst xs)/\H b=some (.lst zs)/\xs.length+zs.length<=AE/\∀ p,H p=none->Q (.ref p) (upd H p (.lst (xs++zs)))
def aBx:OpR X (DM .Add) rCat:=by
 intro pins s σ H x y v u Q I rx ry h;obtain ⟨l,b,xs,zs,rfl,rfl,hH,hB,hz,q⟩:=h;cases rx;cases ry;obtain ⟨z,its,n,r,hl,e⟩:=I.lstM hH;obtain ⟨z2,its2,n2,r2,hl2,e2⟩:=I.lstM hB;refine PySem.P.add_list e e2 ?_ (by rw [Ai,Ai];omega);have ea:its.toArray++its2.toArray=(its++its2).toArray:=by simp
 rw [ea];exact ⟨.ref _,_,I.lnew (t':=s.toks) (r.append r2) (by rw [Aq];omega),rfl,q _ I.fresh⟩
def rRep:R2:=λx y H Q=>∃ l k xs,x=.ref l/\y=.int k/\H l=some (.lst xs)/\-(2^63)<=k/\k<2^63/\xs.length*k.toNat<=AE /\
 ∀ p,H p=none->Q (.ref p) (upd H p (.lst (AR k.toNat xs).flatten))
theorem len_rep {α:Type}(xs:List α)(k:Nat):(AR k xs).flatten.length=k*xs.length:=by
 induction k with
 |zero=>simp
 |succ k ih=>rw [BZ,Ey,Aq,ih,Nat.succ_mul,Nat.add_comm]
def aFs:OpR X (DM .Mult) rRep:=by
 intro pins s σ H x y v u Q I rx ry h;obtain ⟨l,k,xs,rfl,rfl,hH,h1,h2,hz,q⟩:=h;cases rx;obtain ⟨t,rfl⟩:=ry;obtain ⟨z,its,n,r,hl,e⟩:=I.lstM hH;have hlen:its.toArray.size*k.toNat<=AE:=by rw [Ai,<- hl];exact hz
 have hcap:¬ its.toArray.size*k.toNat > (2^63-1)/8:=by
  have:(AE:Nat)<=(2^63-1)/8:=by decide
  omega
 have hfit:¬ (!Builtin.List.listFitsIndex k)=true:=by
  rw [fitsIndex_both h1 h2];exact AK
 have hlong:¬ DK (its.toArray.size*k.toNat)=true:=by
  rw [rT hlen];exact AK
 have hnew:List.foldl (λx1 x2=>x1++x2) #[] (AR (if its.toArray.isEmpty=true then 0 else k.toNat) its.toArray)=(AR k.toNat its).flatten.toArray:=by
  have f0:∀ m:Nat,List.foldl (λx1 x2=>x1++x2) #[] (AR m its.toArray)=(AR m its).flatten.toArray:=λm=>by
   have:=foldl_rep its m [];rw [List.nil_append] at this;exact this
  rw [f0];cases its with
  |nil=>simp
  |cons a r'=>rw [if_neg (by simp)]
 refine wpAny_binaryOp_repeat_ref (T:="list") (U:="int") (by decide) ⟨_,e,rfl⟩ (λs'=>typeIs_int s' k t) noFill_list_mul F.fills_int_mul F.slot_int_rmul repeat_list F.slot_int_index.lookup
  (call_meets F.slot_int_rmul (typeIs_int s k t) F.entry_int_rmul (F.args_int_rmul_2 _ _) (int___rmul___int_list k t l its.toArray n)
   ⟨e,rfl,⟨_,e,rfl⟩,call_meets F.slot_list_mul ⟨_,e,rfl⟩ F.entry_list_mul (F.args_list_mul_2 _ _) (AutoListH.list___mul___list_int_3 l its.toArray n k t hfit hcap hlong) ⟨e,?_⟩⟩)
 rw [hnew];exact ⟨.ref _,_,I.lnew (t':=s.toks) (r.rep k.toNat) (by rw [len_rep,Nat.mul_comm];exact hz),rfl,q _ I.fresh⟩
end
section
variable {prog:AF}{w:World}{A:Around}{E:Value->Shared->Prop}{s:Shared}
set_option maxRecDepth 100000 in
end
section
variable {X:Cx}
end
end L2
namespace Att
open PySem PySem.W PySem.Calls PyProof.Rows
def jQ :∀ (ns:List Int) (vs:List Value),WellAll P h vs (ns.map WData.int)->DH vs ns:=by
 intro ns
 induction ns with
 |nil=>
  intro vs w;rw [List.map_nil] at w;cases w;exact .nil
 |cons n ns ih=>
  intro vs w;rw [Bb] at w;cases w with
  |cons a b=>
   cases a;exact .cons _ _ (ih _ b)
def vF {l:OpenLaw}{n:Nat}(hn:l.most=some n){P:Params}{h:Heap}{args:List WData}{vals:List Value}
  (hpre:l.row.toRowW.claim.pre args=true) (hwl:WellAll P h vals args) :
  ∃ a vs ns,vals=[AN a]/\args=[WData.list (ns.map WData.int)]/\h.get? a=some { cls:=.type "list",data:=.seq vs.toArray }/\DH vs ns/\ns.length<=n:=by
 have hsh:WShape.hasAll [] args [.list .int]=true:=(pre_splitW hpre).1;have hc:l.pre.holds [] { args:=args }=true:=(pre_splitW hpre).2;obtain ⟨d,r,rfl,h1,h2⟩:=hasAllW_cons hsh;obtain rfl:=hasAllW_nil h2;obtain ⟨xs,rfl,h3⟩:=hasW_list h1;obtain ⟨ns,rfl⟩:=items_int h3;have hlen:ns.length<=n:=by
  unfold OpenLaw.pre at hc;have h4:(WTm.not (.lt (.lit (.int (n:Int))) (.len (.arg 0)))).holds [] { args:=[.list (ns.map .int)] }=true:=by
   have h4:=(holds_andW hc).1;rw [hn] at h4;exact h4
  have h5:=condW_of h4 (w_not (w_lt w_lit (w_len_list (w_arg rfl))));rw [Ac] at h5;refine Nat.le_of_not_lt λq=>?_;have q':(n:Int)<((ns.length:Nat):Int):=by omega
  first
   |(rw [decide_eq_true q'] at h5;exact absurd h5 (by decide))
   |(simp at h5;omega)
 cases hwl with
 |cons w1 w2=>
  cases w2;cases w1 with
  |list ho hall=>exact ⟨_,_,ns,rfl,rfl,ho,jQ ns _ hall,hlen⟩
def vP (l:OpenLaw)(args:List WData):l.row.toRowW.claim.post args (.bool true) args=true:=
 postW_of (r:=l.row.toRowW) (X:=(true==true))
  (show WShape.has [] (.bool true) .bool=true by first|rfl|decide|simp [WShape.has,WShape.arms,WShape.armsAll])
  (show (WTm.eq .res (.lit (.bool true))).value [] { args:=args,res:=some (.bool true),after:=args }=some (.bool (true==true)) from w_eq_bool (w_res rfl) w_lit) rfl
def attach_call {l:OpenLaw}{n:Nat}{q:AF}{loose:List Str}{XP:(Str->Option Value)->Heap->Prop}{YP:World->Heap->Prop}{d:DefRec}
  (hn:l.most=some n) (hdf:d.params.defaults=[])
  (call:∀ (w:World) (s₀ s₁:Shared) (mg mb:Str->Option Value) (fa:Addr) (o:Obj) (pm cd doc:Value) (a:Addr) (vs:List Value) (ns:List Int),
   Ground q loose [] XP w s₀ mg mb s₁.heap->YP w s₁.heap ->
   s₁.heap.get? fa=some o->o.data=.func (docDef d.name d.params d.body d.scope pm cd doc)->s₁.heap.CodeRec cd d.name->mg d.name=some (.ref fa) ->
   s₁.heap.get? a=some { cls:=.type "list",data:=.seq vs.toArray }->DH vs ns->ns.length<=n->s₁.gens=#[] ->
   DE (model l.prog w) callerA (.call (.ref fa) ⟨[.ref a],[]⟩) (λr s'=>r=.ok (.ret (.bool true))/\OldK s₁.heap s'.heap/\s'.os=s₁.os/\AllBare s'.gens) s₁) :
  WalkO q loose XP YP l.row.toRowW d [] (λf vs=>PySem.call f vs):=by
 intro w s₀ s₁ mg mb G Y fa o pm cd doc dV kV ho hd hcd hD hmg hg args vals as hpre hlay hrd hwl hlo;obtain rfl:dV=.none:=Dflts.none hD hdf;obtain rfl:kV=.none:=Dflts.noKw hD;obtain ⟨a,vs,ns,rfl,rfl,hobj,hints,hlen⟩:=vF hn hpre hwl;refine enter_call (CZ (call w s₀ s₁ mg mb fa o pm cd doc a vs ns G Y ho (fd_plain hd) hcd hmg hobj hints hlen hg) λr s' hq=>?_);obtain ⟨rfl,h2,h3,h4⟩:=hq;exact ⟨.inl ⟨.bool true,.bool true,[],rfl,λ_=>rfl,.bool true,vP l _,λ_=>⟨List.Pairwise.nil,λ_ hm=>(nomatch hm)⟩⟩,h2,h3,h4⟩
section
variable {prog:AF}{w:World}{A:Around}{E:Value->Shared->Prop}{s:Shared}{K:Frag}
def noObjs (h:Heap):Heap:={ h with objs:=#[] }
def ledger (h:Heap)(L d:Addr):List (Addr×Obj):=(Ay h.objs.size).filterMap λa=>if a=L\/a=d then none else (h.get? a).map λo=>(a,o)
end
end Att
namespace L2
open PySem PySem.Spec PyProof.Rows
theorem mS:∀ {vs:List Value} {ns:List Int},DH vs ns->Vals (ns.map V.int) vs
 |_,_,.nil=>.nil
 |_,_,.cons n t h=>.cons ⟨t,rfl⟩ (mS h)
def Only (H:Hp):Prop:=∀ b,H b=none\/∃ o xs,H b=some (.frz o (.lst xs))
abbrev KOf {K:Ab}{h:Heap}(_:K.In h):Ab:=K
def inClass (s:Stmt)(j:Nat):Stmt:=match s with
 |.ClassDef _ _ _ body _ _ _ _ _ _ _=>body.getD j (.Pass ⟨0,0,0,0⟩)
 |_=>.Pass ⟨0,0,0,0⟩
def cJ (s:Stmt):Arguments:=match s with
 |.FunctionDef _ a _ _ _ _ _ _ _ _=>a
 |_=>{ posonlyargs:=[],args:=[],vararg:=none,kwonlyargs:=[],kw_defaults:=[],kwarg:=none,defaults:=[] }
def bW (s:Stmt):List Stmt:=match s with
 |.FunctionDef _ _ b _ _ _ _ _ _ _=>b
 |_=>[]
def aJ (s:Stmt):Scope:=match s with
 |.FunctionDef _ _ _ _ _ _ sc _ _ _=>sc
 |_=>{ kind:=.function,names:=[],isGenerator:=false,isCoroutine:=false }
abbrev CX0:CXT:=λ_ _ _ _ _ _=>False
abbrev E0:XK:=λ_ _ _=>False
def aS :iB CX0 X E0:=λ_ _ _ _ _ _ _ h=>h.elim
structure Fun (K:Ab)(x qual:Str)(st:Stmt)(f:Addr)(fd:AM):Prop where
 ex:∃ (oc:Value) (od:Option Addr) (kV doc pm:Value) (an:Option Addr) (cdv ct:Value) (osl:Array (Option Value)),
  fd=BD x qual (cJ st) (bW st) (aJ st) .none kV doc pm an cdv ct/\K.lookup f=some ⟨oc,od,.func fd,osl⟩/\CJ K cdv qual=true
 kp:BK K (.ref f)=true
section
variable {P:AF}{w:World}{K:Ab}{mg:Str->Option Value}{base:Heap}
def Fun.ok {x qual:Str}{st:Stmt}{f:Addr}{fd:AM}{N ps:List Str}{k:Nat}{sp:Sp}(F:Fun K x qual st f fd)(S:FnScope N ps (aJ st))(len:∀ vs H Q E,sp vs H Q E->vs.length=ps.length)
  (hbody:∀ (cdv:Value) (A:Around) (outer:List Env) (s:Shared) (H:Hp) (vs:List V) (Q:VK) (E:XK),Room k (A.deeper (envOfC qual (aJ st) s.heap.objs.size f cdv))->sp vs H Q E ->
   ∃ t,PSs (cxOf CX0 P w K mg base N qual (aJ st) f cdv A outer s H E).nox (bW st) t/\t { nx:=λ_ H'=>Q .non H',rt:=Q } (start N vs) H):FnOk P w K mg base CX0 (k+1) f fd ps sp:=by
 obtain ⟨oc,od,kV,doc,pm,an,cdv,ct,osl,rfl,lk,hcd⟩:=F.ex;refine aEa lk hcd S len λA outer s H vs Q E hr hsp=>?_;obtain ⟨t,h,q⟩:=hbody cdv A outer s H vs Q E hr hsp;exact ⟨t,h.nox,q⟩
def Fun.binds {x qual:Str}{st:Stmt}{f:Addr}{fd:AM}{ps:List Str}(F:Fun K x qual st f fd)
  (h:∀ (kV doc pm:Value) (an:Option Addr) (cdv ct:Value) (us:List Value),us.length=ps.length->bindArgs (BD x qual (cJ st) (bW st) (aJ st) .none kV doc pm an cdv ct) ⟨us,[]⟩=pure (ps.zip us)):Binds K fd ps []:=by
 obtain ⟨oc,od,kV,doc,pm,an,cdv,ct,osl,rfl,lk,hcd⟩:=F.ex;exact .all (h kV doc pm an cdv ct)
def hU {x qual:Str}{st:Stmt}{f:Addr}{oc:Value}{od an:Option Addr}{osl:Array (Option Value)}{kV doc pm cdv ct:Value}(l:K.lookup f=some ⟨oc,od,.func (BD x qual (cJ st) (bW st) (aJ st) .none kV doc pm an cdv ct),osl⟩)
  (c:CJ K cdv qual=true) (k:BK K (.ref f)=true):Fun K x qual st f (BD x qual (cJ st) (bW st) (aJ st) .none kV doc pm an cdv ct):=⟨⟨oc,od,kV,doc,pm,an,cdv,ct,osl,rfl,l,c⟩,k⟩
end
def iE {k:Nat}(hr:Room k A):A.units+1<cLine:=Fj (Nat.add_le_add_left (by decide:1<=64) _) hr.units
def aP {n:Nat}(h:n<=1000):n<AE:=Fj h (by decide)
section
variable {X:Cx}
def pv (i:Nat){pos:Pos}(hN:X.N[i]?=some x:=by rfl)(hv:Vis X.env.scope x:=by first|exact Or.inl rfl|exact Or.inr (Or.inl rfl)|exact Or.inr (Or.inr rfl))(hd:(x==("__debug__":Str))=false:=by decide)(hcd:(x==("__classdict__":Str))=false:=by decide):PE X (.Name x pos) (tVar i):=vV hN hv hd hcd
end
def iteF {A B:Prop}(h:B):if false=true then A else B:=by
 rw [if_neg AK];exact h
def iteT {A B:Prop}(h:A):if true=true then A else B:=by
 rw [if_pos rfl];exact h
def ite2 {c A B:Prop}[Decidable c](h1:c->A)(h2:¬ c->B):if c then A else B:=by
 by_cases h:c
 ·rw [if_pos h]
  exact h1 h
 ·rw [if_neg h]
  exact h2 h
def Same (H H':Hp):Prop:=∀ b o,H b=some o->H' b=some o
def Same.refl (H:Hp):Same H H:=λ_ _ h=>h
theorem Same.trans (a:Same H H1)(b:Same H1 H2):Same H H2:=λc o h=>b c o (a c o h)
theorem Same.free (e:Same H H')(h:H' l=Option.none):H l=Option.none:=by
 cases q:H l with
 |none=>rfl
 |some o=>
  rw [e l o q] at h;cases h
def Same.seq {K:Ab}{H H':Hp}{a:Addr}{xs:List V}(e:Same H H')(h:SqL K H a xs):SqL K H' a xs:=by
 rcases h with (h|⟨o,h⟩)|h
 ·exact .inl (.inl (e _ _ h))
 ·exact .inl (.inr ⟨o,e _ _ h⟩)
 ·exact .inr h
end L2
namespace GM
def G (a b:Int):Int:=(Int.gcd a b:Int)
theorem aGk {a:Int}(h:0<=a):G a 0=a:=by
 unfold G;rw [Int.gcd_zero_right];omega
theorem aGl (a b:Int):G b (a%b)=G a b:=by
 unfold G
 congr 1
 have e:a%b=a-b*(a/b):=by
  have:=Int.emod_add_mul_ediv a b;omega
 rw [e,Int.gcd_sub_mul_left_right,Int.gcd_comm]
def qW {a b:Int}(h:0<b):0<G a b:=by
 unfold G;have:0<Int.gcd a b:=Int.gcd_pos_of_ne_zero_right a (by omega);omega
def aEj (a b:Int):G a b∣a:=Int.gcd_dvd_left a b
def yP (a b:Int):G a b∣b:=Int.gcd_dvd_right a b
def sT {a b:Int}(h:0<b):G a b<=b:=Int.le_of_dvd h (yP a b)
structure Amt (t b:Int):Prop where
 t0:0<=t
 b1:1<=b
 g:G t b=1
def aD6 {t b:Int}(h0:0<=t)(h1:1<=b):Amt (t/G t b) (b/G t b):=by
 have gp:=qW (a:=t) (b:=b) (by omega);refine ⟨DI h0 (by omega),Int.ediv_pos_of_pos_of_dvd (by omega) (by omega) (yP t b),?_⟩;unfold G at *
 have:=Int.gcd_ediv_gcd_ediv_gcd (i:=t) (j:=b) (by omega);omega
end GM
namespace L2
open PySem PySem.Spec PyProof.Rows
inductive Isi (K:Ab)(H:Hp):V->String->Bool->Prop where
 |int_int {n}:Isi K H (.int n) "int" true
 |int_bool {n}:Isi K H (.int n) "bool" false
 |int_tuple {n}:Isi K H (.int n) "tuple" false
 |int_str {n}:Isi K H (.int n) "str" false
 |int_list {n}:Isi K H (.int n) "list" false
 |bl_int {b}:Isi K H (.bl b) "int" true
 |bl_bool {b}:Isi K H (.bl b) "bool" true
 |bl_tuple {b}:Isi K H (.bl b) "tuple" false
 |bl_str {b}:Isi K H (.bl b) "str" false
 |str_int {x}:Isi K H (.str x) "int" false
 |str_bool {x}:Isi K H (.str x) "bool" false
 |str_tuple {x}:Isi K H (.str x) "tuple" false
 |str_str {x}:Isi K H (.str x) "str" true
 |non_int:Isi K H .non "int" false
 |non_str:Isi K H .non "str" false
 |non_tuple:Isi K H .non "tuple" false
 |tup_tuple {a xs}:SqT K H a xs->Isi K H (.ref a) "tuple" true
 |tup_int {a xs}:SqT K H a xs->Isi K H (.ref a) "int" false
 |tup_str {a xs}:SqT K H a xs->Isi K H (.ref a) "str" false
 |tup_list {a xs}:SqT K H a xs->Isi K H (.ref a) "list" false
 |lst_tuple {a xs}:SqL K H a xs->Isi K H (.ref a) "tuple" false
 |lst_int {a xs}:SqL K H a xs->Isi K H (.ref a) "int" false
 |lst_str {a xs}:SqL K H a xs->Isi K H (.ref a) "str" false
 |lst_list {a xs}:SqL K H a xs->Isi K H (.ref a) "list" true
section
variable {X:Cx}
def gC:eX X (.builtin "isinstance") (λxs H Q=>∃ x T b,xs=[x,.ty T]/\Isi X.K H x T b/\Q (.bl b) H):=by
 intro pins s σ H xs us Q I r h;obtain ⟨x,T,b,rfl,hi,q⟩:=h;obtain ⟨u,w',rfl,rx,ry⟩:=vals2 r;cases ry;have f1:EP X pins σ Q (.bool b) s:=⟨.bl b,H,I,rfl,q⟩;have f2:EP X pins σ Q (.bool b) { s with toks:=s.toks+1 }:=⟨.bl b,H,I.tok _,rfl,q⟩;cases hi with
 |int_int=>obtain ⟨t,rfl⟩:=rx;exact IsiPair.int_int f1
 |int_bool=>obtain ⟨t,rfl⟩:=rx;exact IsiPair.int_bool f2
 |int_tuple=>obtain ⟨t,rfl⟩:=rx;exact IsiPair.int_tuple f2
 |int_str=>obtain ⟨t,rfl⟩:=rx;exact IsiPair.int_str f2
 |int_list=>obtain ⟨t,rfl⟩:=rx;exact IsiPair.int_list f2
 |bl_int=>cases rx;exact IsiPair.bool_int f1
 |bl_bool=>cases rx;exact IsiPair.bool_bool f1
 |bl_tuple=>cases rx;exact IsiPair.bool_tuple f2
 |bl_str=>cases rx;exact IsiPair.bool_str f2
 |str_int=>obtain ⟨t,rfl⟩:=rx;exact IsiPair.str_int f2
 |str_bool=>obtain ⟨t,rfl⟩:=rx;exact IsiPair.str_bool f2
 |str_tuple=>obtain ⟨t,rfl⟩:=rx;exact IsiPair.str_tuple f2
 |str_str=>obtain ⟨t,rfl⟩:=rx;exact IsiPair.str_str f1
 |non_int=>cases rx;exact IsiPair.NoneType_int f2
 |non_str=>cases rx;exact IsiPair.NoneType_str f2
 |non_tuple=>cases rx;exact IsiPair.NoneType_tuple f2
 |tup_tuple hq=>cases rx;obtain ⟨its,_,⟨o,e,c,_⟩,_⟩:=I.tuple hq;exact IsiPair.tuple_tuple e c f1
 |tup_int hq=>cases rx;obtain ⟨its,_,⟨o,e,c,_⟩,_⟩:=I.tuple hq;exact IsiPair.tuple_int e c f2
 |tup_str hq=>cases rx;obtain ⟨its,_,⟨o,e,c,_⟩,_⟩:=I.tuple hq;exact IsiPair.tuple_str e c f2
 |tup_list hq=>cases rx;obtain ⟨its,_,⟨o,e,c,_⟩,_⟩:=I.tuple hq;exact IsiPair.tuple_list e c f2
 |lst_tuple hq=>cases rx;obtain ⟨its,_,⟨o,n,e,c,_⟩,_⟩:=I.list hq;exact IsiPair.list_tuple e c f2
 |lst_int hq=>cases rx;obtain ⟨its,_,⟨o,n,e,c,_⟩,_⟩:=I.list hq;exact IsiPair.list_int e c f2
 |lst_str hq=>cases rx;obtain ⟨its,_,⟨o,n,e,c,_⟩,_⟩:=I.list hq;exact IsiPair.list_str e c f2
 |lst_list hq=>cases rx;obtain ⟨its,_,⟨o,n,e,c,_⟩,_⟩:=I.list hq;exact IsiPair.list_list e c f1
inductive DEq (K:Ab)(H:Hp):Nat->V->V->Bool->Prop where
 |flat {n x y}:dX x=true->dX y=true->DEq K H n x y (eqV x y)
 |same {n a}:DEq K H n (.ref a) (.ref a) true
 |tup {n a b xs ys} {e:Nat->Bool}:a≠b->SqT K H a xs->SqT K H b ys->(∀ (j:Nat) x y,xs[j]?=some x->ys[j]?=some y->DEq K H n x y (e j)) ->
   DEq K H (n+1) (.ref a) (.ref b) ((Ay (min xs.length ys.length)).all e&&xs.length==ys.length)
 |lst {n a b xs ys} {e:Nat->Bool}:a≠b->SqL K H a xs->SqL K H b ys->(∀ (j:Nat) x y,xs[j]?=some x->ys[j]?=some y->DEq K H n x y (e j)) ->
   DEq K H (n+1) (.ref a) (.ref b) ((Ay (min xs.length ys.length)).all e&&xs.length==ys.length)
def uQ {σ:St}{s:Shared}(I:Inv X pins σ H s){a b:Addr}(hx:SqT X.K H a xs)(hy:SqT X.K H b ys)(hu:A.units<cLine)(hd:∀ (j:Nat) x y u v,xs[j]?=some x->ys[j]?=some y->RelV x u->RelV y v->Bm A.in1 s u v (e j)) :
  SeqAt.RcAt A s (.ref a) (.ref b) ((Ay (min xs.length ys.length)).all e&&xs.length==ys.length):=by
 obtain ⟨its,r,tx,_⟩:=I.tuple hx;obtain ⟨its',r',ty,_⟩:=I.tuple hy;have l1:=r.length;have l2:=r'.length;have q:=SeqAt.RcAt.tuples (A:=A) (e:=e) tx ty hu (λj h1 h2=>?_)
 ·rw [Ai,Ai,<- l1,<- l2] at q
  exact q
 ·rw [Ai] at h1 h2
  obtain ⟨x,hxj⟩:∃ x,xs[j]?=some x:=⟨_,Af (by omega)⟩;obtain ⟨y,hyj⟩:∃ y,ys[j]?=some y:=⟨_,Af (by omega)⟩;obtain ⟨u1,hu1,ru1⟩:=r.get hxj;obtain ⟨u2,hu2,ru2⟩:=r'.get hyj;have e1:its.toArray[j]=u1:=by
   have:=(Ah.mp hu1).2
   simpa using this
  have e2:its'.toArray[j]=u2:=by
   have:=(Ah.mp hu2).2
   simpa using this
  rw [e1,e2];exact hd j x y u1 u2 hxj hyj ru1 ru2
def dI {a:Addr}(p:PlainL h a its):h.IsList a its:=by
 obtain ⟨o,n,e,c,_,d⟩:=p;exact ⟨o,e,c,n,d⟩
def xA {σ:St}{s:Shared}(I:Inv X pins σ H s){a b:Addr}(hx:SqL X.K H a xs)(hy:SqL X.K H b ys)(hu:A.units<cLine)(hd:∀ (j:Nat) x y u v,xs[j]?=some x->ys[j]?=some y->RelV x u->RelV y v->Bm A.in1 s u v (e j)) :
  SeqAt.RcAt A s (.ref a) (.ref b) ((Ay (min xs.length ys.length)).all e&&xs.length==ys.length):=by
 obtain ⟨its,r,tx,_⟩:=I.list hx;obtain ⟨its',r',ty,_⟩:=I.list hy;have l1:=r.length;have l2:=r'.length
 by_cases hl:xs.length=ys.length
 ·have q:=SeqAt.RcAt.lists (A:=A) (e:=e) (dI tx) (dI ty) (by rw [Ai,Ai];omega) hu (λj h1 h2=>?_)
  ·rw [Ai,<- l1] at q
   have e1:((Ay (min xs.length ys.length)).all e&&xs.length==ys.length)=(Ay xs.length).all e:=by
    rw [<- hl,Nat.min_self,beq_self_eq_true,Bool.and_true]
   rw [e1];exact q
  ·rw [Ai] at h1 h2
   obtain ⟨x,hxj⟩:∃ x,xs[j]?=some x:=⟨_,Af (by omega)⟩;obtain ⟨y,hyj⟩:∃ y,ys[j]?=some y:=⟨_,Af (by omega)⟩;obtain ⟨u1,hu1,ru1⟩:=r.get hxj;obtain ⟨u2,hu2,ru2⟩:=r'.get hyj;have e1:its.toArray[j]=u1:=by
    have:=(Ah.mp hu1).2
    simpa using this
   have e2:its'.toArray[j]=u2:=by
    have:=(Ah.mp hu2).2
    simpa using this
   rw [e1,e2];exact hd j x y u1 u2 hxj hyj ru1 ru2
 ·have q:=SeqAt.RcAt.lists_lengths (A:=A) (dI tx) (dI ty) (by rw [Ai,Ai,<- l1,<- l2,bne_iff_ne];exact hl) hu
  have e1:((Ay (min xs.length ys.length)).all e&&xs.length==ys.length)=false:=by
   rw [beq_eq_false_iff_ne.mpr hl,Bool.and_false]
  rw [e1];exact q
theorem DEq.at {σ:St}{s:Shared}(I:Inv X pins σ H s){n:Nat}{k:Bool}(d:DEq X.K H n x y k):∀ {A:Around} {u v:Value},A.units+n<cLine->RelV x u->RelV y v->Bm A s u v k:=by
 induction d with
 |flat fx fy=>intro A u v _ rx ry;exact aCa rx ry fx fy
 |same=>intro A u v _ rx ry;cases rx;cases ry;exact Bm.same _
 |@tup n a b xs ys e hne hx hy hd ih=>
  intro A u v hu rx ry;cases rx;cases ry;exact Bm.of_refs hne (uQ I hx hy (by omega) λj x y u v h1 h2 r1 r2=>ih j x y h1 h2 (by show A.units+1+n<cLine;omega) r1 r2)
 |@lst n a b xs ys e hne hx hy hd ih=>
  intro A u v hu rx ry;cases rx;cases ry;exact Bm.of_refs hne (xA I hx hy (by omega) λj x y u v h1 h2 r1 r2=>ih j x y h1 h2 (by show A.units+1+n<cLine;omega) r1 r2)
def rEqT (K:Ab):R2:=λx y H Q=>∃ a b xs ys,∃ e:Nat->Bool,x=.ref a/\y=.ref b/\SqT K H a xs/\SqT K H b ys/\(∀ (j:Nat) x y,xs[j]?=some x->ys[j]?=some y->DEq K H 40 x y (e j)) /\
 Q (.bl ((Ay (min xs.length ys.length)).all e&&xs.length==ys.length)) H
def rNeT (K:Ab):R2:=λx y H Q=>∃ a b xs ys,∃ e:Nat->Bool,x=.ref a/\y=.ref b/\SqT K H a xs/\SqT K H b ys/\(∀ (j:Nat) x y,xs[j]?=some x->ys[j]?=some y->DEq K H 40 x y (e j)) /\
 Q (.bl (!((Ay (min xs.length ys.length)).all e&&xs.length==ys.length))) H
def aBv (hu:X.A.units+64<cLine):OpR X (BO .Eq) (rEqT X.K):=by
 intro pins s σ H x y v u Q I rx ry h;obtain ⟨a,b,xs,ys,e,rfl,rfl,hx,hy,hd,q⟩:=h;cases rx;cases ry;exact uQ I hx hy (by omega) (λj x y u v h1 h2 r1 r2=>(hd j x y h1 h2).at I (by show X.A.units+1+40<cLine;omega) r1 r2) X.prog X.w X.xe _ ⟨.bl _,H,I,rfl,q⟩
end
def iA {s:Shared}{pos:Pos}(I:Nat->Shared->Prop)(turn:∀ n s,I n s->wpAny (model prog w) A (pyNext it) (λr s₁=>match r with
   |none=>R (.ok .next) s₁
   |some v=>wpAny (model prog w) A (Fn target it v) (λ_ s₁'=>wpAny (model prog w) A (assign target env v) (λ_ s₂=>
     wpAny (model prog w) A (forIn ifs true λc r=>if r=true then do let ok <- isTrue c env (eval c env);pure (CQ ok) else pure (CQ r)) (λok s₃=>
      if ok=true then wpAny (model prog w) A (eval elt env) (λx s₄=>
       wpAny (model prog w) A (call (.builtin "list.append") [acc,x]) (λ_ s₅=>∃ m,m<n/\I m s₅) (λ_ _=>False) s₄) (λ_ _=>False) s₃
      else ∃ m,m<n/\I m s₃) (λ_ _=>False) s₂) (λ_ _=>False) s₁') (λ_ _=>False) s₁) (λ_ _=>False) s)(n:Nat)(h:I n s):DE (model prog w) A (.compLoop (.ListComp elt [⟨target,iter,ifs,0⟩] scope pos) 0 it acc env) R s:=by
 refine codeAny_loop rfl I (λn s hI=>?_) n h;show wpAny _ A ((compTurn (.ListComp elt [⟨target,iter,ifs,0⟩] scope pos) 0 it acc env).onRaise (λx=>do noteFrame x env;theTreesLotGoes x)) _ _ s;refine wpAny_noted ?_;rw [compTurn_list];refine Aa (Fb (Aa (BH (turn n s hI) (λr s₁ h₁=>?_) λ_ _ z=>z.elim)));cases r with
 |none=>exact Ag h₁
 |some v=>
  refine Aa (BH h₁ (λ_ s₁' h₁'=>?_) λ_ _ z=>z.elim);refine Aa (BH h₁' (λ_ s₂ h₂=>Aa (BH h₂ (λok s₃ h₃=>?_) λ_ _ z=>z.elim)) λ_ _ z=>z.elim);cases ok with
  |false=>exact Ag ⟨rfl,h₃⟩
  |true=>
   exact Aa (Aa (BH h₃ (λx s₄ h₄=>Aa (BH h₄ (λ_ s₅ h₅=>Ag (Ag ⟨rfl,h₅⟩)) λ_ _ z=>z.elim)) λ_ _ z=>z.elim))
def blk (X:Cx)(N':List Str)(scope:Scope)(cl:List (Str×Addr))(C:Addr)(s₀:Shared)(H₀:Hp)(ex:List Addr)(pn:List (Addr×Obj)):Cx where
 prog:=X.prog
 w:=X.w
 K:=X.K
 mg:=X.mg
 base:=X.base
 A:=X.A
 N:=N'
 s₀:=s₀
 H₀:=H₀
 env:=compEnvC scope cl C X.env
 outer:=X.stack
 stack:=X.stack
 ex:=ex
 fn:=λ_=>false
 calm:=X.calm
 pn:=pn
 xe:=λ_ _=>False
structure ClOk (X:Cx)(scope:Scope)(cl:List (Str×Addr)):Prop where
 run:closureFor scope X.env=pure cl
 sub:∀ x c,cl.lookup x=some c->X.env.cells.lookup x=some c
 has:∀ x,((relabel scope X.env).names.lookup x=some .cell\/(relabel scope X.env).names.lookup x=some .free)->∃ c,cl.lookup x=some c
structure BlkN (X:Cx)(N':List Str)(scope:Scope)(cl:List (Str×Addr))(σ σ':St):Prop where
 len:σ'.length=N'.length
 from':∀ (i:Nat) (x:Str) (v:V),N'[i]?=some x->σ'[i]?=some (some v)->∃ j:Nat,X.N[j]?=some x/\σ[j]?=some (some v)/\Vis X.env.scope x/\X.env.kindOf x≠some .local /\
  ((relabel scope X.env).names.lookup x=some .cell\/(relabel scope X.env).names.lookup x=some .free)
section
variable {X:Cx}{pins:List (Addr×Obj)}{σ σ':St}{H:Hp}{s:Shared}
def oV {t':Nat}(I:Inv X pins σ H s)(hkind:scope.kind=.function)(hcl:ClOk X scope cl)(hN:BlkN X N' scope cl σ σ')(hf:∀ b∈fp,FpOk X pins H b)(hfo:∀ b∈fp,b<s.heap.objs.size)(hns:h₁.Ns s.heap.objs.size (λ_=>none))(hk:∀ b o,s.heap.get? b=some o->h₁.get? b=some o) :
  Inv (blk X N' scope cl s.heap.objs.size s H fp (X.pn++pins)) [] σ' H { s with heap:=h₁,toks:=t' }:=by
 have hfs:∀ b,b∉(X.env.locals::X.fs)->b∉frs X.stack:=λb hb z=>hb (I.stkSub b z);refine ⟨⟨I.ok.mod,hkind,I.ok.glob,I.ok.blt,Ao _,?_,hcl.has,λ_ _ h=>absurd h (by intro z;cases z),I.ok.hd,I.ok.frames,.inl rfl,?_,I.bs,Bh I.ok.bsz I.sz,?_,?_,I.stack,I.stkFree⟩,
  rfl,I.bare,Un.kept hk,⟨_,hns,?_⟩,?_,I.hok.fresh (Ao _),λx c e=>I.freeC x c (hcl.sub x c e),?_,I.hok.kept hk,hN.len⟩
 ·intro x y c h1 h2
  exact I.ok.inj x y c (hcl.sub x c h1) (hcl.sub y c h2)
 ·intro b hb
  exact ⟨AG (hfo b hb),λx c e=>(hf b hb).2.2.2.2.1 x c (hcl.sub x c e)⟩
 ·intro b o e hb
  rcases (hf b hb).2.2.2.1 with q|q
  ·exact I.ok.noex b o e q
  ·exact absurd (AX (Ar e) (Bh I.ok.bsz q)) (Ce _)
 ·intro b hb
  refine hfs b λz=>?_
  rcases Aw.mp z with z|z
  ·exact (hf b hb).2.1 z
  ·exact (hf b hb).2.2.1 z
 ·intro i x v h1 h2 _
  obtain ⟨j,hj,hσ,hv,hnl,hk'⟩:=hN.from' i x v h1 h2;obtain ⟨m,hn,hl⟩:=I.loc;obtain ⟨u,r,l⟩:=hl j x v hj hσ hv;refine ⟨u,r,.inr ⟨hk',?_⟩⟩;obtain ⟨c,hc⟩:=hcl.has x hk'
  rcases l with ⟨hloc,_⟩|⟨_,c',hc',hcell⟩
  ·exact absurd hloc hnl
  ·have e:=hcl.sub x c hc
   rw [hc'] at e;cases e;obtain ⟨o,ho,hd⟩:=hcell;exact ⟨_,hc,o,hk _ _ ho,hd⟩
 ·intro x c e
  obtain ⟨v,o,ho,hd⟩:=I.cell x c (hcl.sub x c e);exact ⟨v,o,hk _ _ ho,hd⟩
 ·intro p hp
  rw [show (blk X N' scope cl s.heap.objs.size s H fp (X.pn++pins)).pn=X.pn++pins from rfl,AL] at hp;obtain ⟨a1,a2,a3,a4,a5⟩:=I.pin p hp;refine ⟨hk _ _ a1,a2,AG (Ar a1),hfs _ λz=>?_,a5⟩
  rcases Aw.mp z with z|z
  ·exact a3 z
  ·exact a4 z
def yM (I:Inv X pins σ H s)(hf:∀ b∈fp,FpOk X pins H b)(J:Inv (blk X N' scope cl s.heap.objs.size s H fp (X.pn++pins)) pl σ' H' s')(hs:Bq s.heap.objs.size s'.heap h''):Inv X pins σ H' { s' with heap:=h'' }:=by
 have hne:∀ b o,s.heap.get? b=some o->b≠s.heap.objs.size:=λb o e=>AG (Ar e);have hC:H' s.heap.objs.size=none:=J.free;have ub:Un (frs X.stack) fp H H' s.heap s'.heap:=J.base;have u:Un (frs X.stack) fp H H' s.heap h'':={
  keep:=λb o e n hb hx=>hs.extBut b o (hne b o e) (ub.keep b o e n hb hx)
  slot:=λb o e n hb hx=>by
   obtain ⟨sl,q⟩:=ub.slot b o e n hb hx;exact ⟨sl,hs.extBut b _ (hne b o e) q⟩
  free:=ub.free
  there:=λb o e hx=>by
   obtain ⟨o',q⟩:=ub.there b o e hx;exact ⟨o',hs.extBut b _ (hne b o e) q⟩
  tups:=ub.tups
  frzs:=ub.frzs
  tbls:=ub.tbls }
 have hok:HOk X.prog X.w H' h'':=λa o e=>(J.hok a o e).stay (λb ob hb q=>hs.extBut b ob (λz=>by
  rw [z] at hb
  rcases hb with hb|hb
  ·rw [<- hb,hC] at e;cases e
  ·rw [hC] at hb;cases hb) q) (λ_ h=>h) (λ_ _ h=>h)
 exact I.call' (s':={ s' with heap:=h'' }) J.os u hok J.bare λb hb=>by
  obtain ⟨f0,f1,f2,f3,f4,f5⟩:=hf b hb;exact ⟨f3,f1,f4,f5⟩
end
def PIfs (X:Cx)(ifs:List Expr)(t:TT):Prop:=
 ∀ (pins:List (Addr×Obj)) (s:Shared) (σ:St) (H:Hp) (Q:Bool->Hp->Prop),Inv X pins σ H s->t σ H Q ->
  wpAny (model X.prog X.w) X.A (forIn ifs true λc r=>if r=true then do let ok <- isTrue c X.env (eval c X.env);pure (CQ ok) else pure (CQ r)) (TP X pins σ Q) X.xe s
def yW:TT:=λ_ H Q=>Q true H
def fA :PIfs X [] yW:=λ_ _ _ H _ I h=>wpAny_tests_nil ⟨H,I,h⟩
def iL {t:TT}(h:PT X c t):PIfs X [c] t:=λpins s σ H Q I hw=>wpAny_tests_one (h pins s σ H Q I hw)
structure Keep (σa σb:St):Prop where
 len:σb.length=σa.length
 at':∀ (i:Nat) (v:V),σa[i]?=some (some v)->σb[i]?=some (some v)
def Keep.refl (σ:St):Keep σ σ:=⟨rfl,λ_ _ h=>h⟩
theorem Keep.set {σa σb:St}{i:Nat}(k:Keep σa σb)(h:σa[i]?=some none):Keep σa (σb.set i (some v)):=by
 refine ⟨by rw [List.length_set];exact k.len,λj u e=>?_⟩;have hj:i≠j:=by
  rintro rfl
  rw [h] at e;cases e
 rw [ET hj];exact k.at' j u e
def aCp (σf:St->St)(wi:TI)(g:TG)(tt:TT)(te:TE):TE:=λσ H Q=>wi σ H λJ H1=>∀ D,H1 D=none->∃ W:Nat->Nat->List V->Hp->Prop,(∃ m,W 0 m [] (upd H1 D (.lst []))) /\
 ∀ i m ys H,W i m ys H->H D=some (.lst ys)/\ys.length<AE /\
  ((J.stop i H/\Q (.ref D) H)\/(J.go i H/\∀ x H',J.yld i H x H'->g x (σf σ) H' λσ2 H2=>Keep (σf σ) σ2/\tt σ2 H2 λb H3=>
   if b=true then te σ2 H3 λy H4=>H4 D=some (.lst ys)/\∃ m',m'<m/\W (i+1) m' (ys++[y]) (upd H4 D (.lst (ys++[y]))) else ∃ m',m'<m/\W (i+1) m' ys H3))
def lV {pos:Pos}{tt:TT}(σf:St->St)(hc:X.calm=true)(hkind:scope.kind=.function)(hcell:∀ y∈scope.names,y.2≠.cell)(hnames:∀ y∈scope.names,y.2=.local->scope.names.lookup y.1=some .local)(hcl:ClOk X scope cl)(hN:∀ σ:St,σ.length=X.N.length->BlkN X N' scope cl σ (σf σ))(hi:PI X tg iter wi)(hg:∀ C s₀ H₀ ex pn,PG (blk X N' scope cl C s₀ H₀ ex pn) tg g)(ht:∀ C s₀ H₀ ex pn,PIfs (blk X N' scope cl C s₀ H₀ ex pn) ifs tt)(he:∀ C s₀ H₀ ex pn,PE (blk X N' scope cl C s₀ H₀ ex pn) elt te)(hs:∀ x,foldedSetIterable iter X.env x=pure x:=by intro _;rfl):PE X (.ListComp elt [⟨tg,iter,ifs,0⟩] scope pos) (aCp σf wi g tt te):=by
 intro pins s σ H Q I h;rw [eval_ListComp];refine wpAny_comprehension_free (use:=none) rfl hs hcl.run hkind hnames (thn (hi pins s σ H _ I h) λv s1 h1=>thn h1 λitv s2 h2=>?_);obtain ⟨it,fp,tn,J,H2,rfl,I2,T,st2,f2,q⟩:=h2;refine Be (wpAny_newFunctionEnv hcell (by intro y hy;simp at hy) (λh₁ hns₁ hsb₁=>?_) hkind);dsimp only at hns₁ hsb₁ ⊢;have hfo:∀ b∈fp,b<s2.heap.objs.size:=λb hb=>by
  obtain ⟨o,e,_⟩:=T.obj _ _ st2 b hb;exact Ar e
 have hDf:H2 s2.heap.objs.size=none:=I2.hok.fresh (Ao _);obtain ⟨W,⟨m0,w0⟩,turn⟩:=q s2.heap.objs.size hDf;have I3:Inv X pins σ (upd H2 s2.heap.objs.size (.lst [])) { s2 with heap:=s2.heap.push { cls:=.type "list",data:=.seq ([]:List Value).toArray } }:=I2.lnew (its:=[]) (t':=s2.toks) .nil (Bi _);have f3:∀ b∈fp,FpOk X pins (upd H2 s2.heap.objs.size (.lst [])) b:=λb hb=>⟨by rw [aE (AG (hfo b hb))];exact (f2 b hb).1,(f2 b hb).2⟩;generalize hD:s2.heap.objs.size=D at *
 generalize hs3:({ s2 with heap:=s2.heap.push { cls:=.type "list",data:=.seq ([]:List Value).toArray } }:Shared)=s3 at *
 have hh3:s3.heap=s2.heap.push { cls:=.type "list",data:=.seq ([]:List Value).toArray }:=by rw [<- hs3]
 have hsz3:s2.heap.objs.size<s3.heap.objs.size:=by rw [hh3,CT];exact CO _
 have e3:∀ h t,({ s2 with heap:=h,toks:=t }:Shared)={ s3 with heap:=h,toks:=t }:=λh t=>by rw [<- hs3]
 rw [<- hh3] at hns₁ hsb₁ ⊢;have hk3:∀ b o,s3.heap.get? b=some o->h₁.get? b=some o:=λb o e=>hsb₁.extBut b o (AG (Ar e)) (Ae _ e);have I4:=oV (t':=s3.toks) I3 hkind hcl (hN σ I.len) f3 (λb hb=>DG (hfo b hb) (hD▸hsz3)) (hns:=by simpa using hns₁) hk3;generalize hB:blk X N' scope cl s3.heap.objs.size s3 (upd H2 D (.lst [])) fp (X.pn++pins)=B at *
 have hBp:B.prog=X.prog:=by rw [<- hB];rfl
 have hBw:B.w=X.w:=by rw [<- hB];rfl
 have hBK:B.K=X.K:=by rw [<- hB];rfl
 have hBA:B.A=X.A:=by rw [<- hB];rfl
 have hBc:B.calm=true:=by rw [<- hB];exact hc
 have hBe:B.env=compEnvC scope cl s3.heap.objs.size X.env:=by rw [<- hB];rfl
 have hBx:B.xe=λ_ _=>False:=by rw [<- hB];rfl
 have hGB:PG B tg g:=hB▸hg _ _ _ _ _;have hTB:PIfs B ifs tt:=hB▸ht _ _ _ _ _;have hEB:PE B elt te:=hB▸he _ _ _ _ _;have stat:∀ {H':Hp},(∀ b∈fp,H' b=none)->∀ b∈fp,FpOk B [] H' b:=λ{H'} hn b hb=>by
  obtain ⟨f0,f1,f2',f3',f4,f5⟩:=f3 b hb;rw [<- hB];refine ⟨hn b hb,AG (DG (hfo b hb) (hD▸hsz3)),λz=>?_,.inl hb,λx c e=>f4 x c (hcl.sub x c e),λp hp=>?_⟩
  ·rcases Aw.mp (I.stkSub b z) with z|z
   ·exact f1 z
   ·exact f2' z
  ·rw [show (blk X N' scope cl s3.heap.objs.size s3 (upd H2 D (.lst [])) fp (X.pn++pins)).pn=X.pn++pins from rfl,AL] at hp
   exact f5 p hp
 have loop:∀ s4:Shared,Inv B [] (σf σ) (upd H2 D (.lst [])) s4->tn 0 s4.heap ->
   DE (model X.prog X.w) X.A (.compLoop (.ListComp elt [⟨tg,iter,ifs,0⟩] scope pos) 0 (.ref it) (.ref D) (compEnvC scope cl s3.heap.objs.size X.env)) (compPost (model X.prog X.w) X.A X.xe none (EP X pins σ Q) (.ref D) s3.heap.objs.size) s4:=by
  intro s4 I4 st4;refine iA (I:=λn s'=>∃ i ys H',Inv B [] (σf σ) H' s'/\tn i s'.heap/\(∀ b∈fp,H' b=none)/\W i n ys H') ?_ m0 ⟨0,[],_,I4,st4,λb hb=>(f3 b hb).1,w0⟩
  rintro n s5 ⟨i,ys,H5,I5,st5,fr5,w5⟩
  obtain ⟨hD5,hlen5,alt⟩:=turn i n ys H5 w5
  rcases alt with ⟨stop,qn⟩|⟨go,step⟩
  ·have z:=T.done B hBp hBw hBK hBc i [] s5 (σf σ) H5 (λ_ _=>False) I5 (stat fr5) st5 stop
   rw [hBA] at z;refine thn z λr s6 ⟨hr,I6⟩=>?_;subst hr;obtain ⟨m6,hn6,_⟩:=I6.loc;rw [hBe] at hn6;refine ⟨m6,hn6,λh' hs'=>?_⟩;subst hB;exact ⟨.ref D,H5,yM I3 f3 I6 hs',rfl,qn⟩
  ·have z:=T.item B hBp hBw hBK hBc i [] s5 (σf σ) H5 (λ_ _=>False) I5 (stat fr5) st5 go
   rw [hBA] at z;refine thn z λr s6 ⟨u,hr,h6⟩=>?_;subst hr;refine thn h6 λ_ s7 ⟨x,H7,I7,r7,y7,st7,fr7⟩=>?_;have I7':=I7.pinned (stat fr7) (T.obj _ _ st7);have z8:=hGB _ s7 (σf σ) H7 x u _ I7' r7 (step x H7 y7);rw [hBp,hBw,hBA,hBe,hBx] at z8;refine thn z8 λ_ s8 ⟨σ8,H8,I8,k8,q8⟩=>?_;have z9:=hTB _ s8 σ8 H8 _ I8 q8;rw [hBp,hBw,hBA,hBe,hBx] at z9;refine thn z9 λok s9 ⟨H9,I9,q9⟩=>?_;have again:∀ {ys':List V} {H':Hp} {s':Shared},Inv B ([]++kN fp s7.heap) σ8 H' s'->(∃ m',m'<n/\W (i+1) m' ys' H')->∃ m,m<n/\∃ i ys H',Inv B [] (σf σ) H' s'/\tn i s'.heap/\(∀ b∈fp,H' b=none)/\W i m ys H':=λ{ys' H' s'} J ⟨m',hm,w'⟩=>by
    refine ⟨m',hm,i+1,ys',H',J.unpinned.weak k8.len.symm k8.at',T.keep _ _ _ st7 λb hb o e=>(J.pin (b,o) (AH _ (AH _ (dB hb e)))).1,λb hb=>?_,w'⟩;obtain ⟨o,e,d⟩:=T.obj _ _ st7 b hb;exact (J.pin (b,o) (AH _ (AH _ (dB hb e)))).2.1
   cases ok with
   |false=>exact again I9 q9
   |true=>
    have z10:=hEB _ s9 σ8 H9 _ I9 q9;rw [hBp,hBw,hBA,hBe,hBx] at z10;refine thn z10 λy10 s10 ⟨y,H10,I10,r10,hD10,q10⟩=>?_;have z11:=aX (X:=B) _ s10 σ8 H10 (.ref D) [y] (.ref D) [y10] (λ_ H'=>∃ m',m'<n/\W (i+1) m' (ys++[y]) H') I10 rfl (.cons r10 .nil) ⟨D,ys,y,rfl,rfl,hD10,hlen5,q10⟩;rw [hBp,hBw,hBA,hBx] at z11;refine thn z11 λ_ s11 ⟨_,H11,I11,_,q11⟩=>again I11 q11
 have st4:tn 0 ({ s3 with heap:=h₁,toks:=s3.toks }:Shared).heap:=T.keep _ _ _ st2 λb hb o e=>hk3 b o (by rw [hh3];exact Ae _ e);have L4:=loop _ I4 st4;subst hs3;exact codeAny_compStart_list L4 (T.self _ 0 _ _ _ st4 L4)
def Bt (n:Nat)(x:Int):Prop:=x.natAbs<2^n
def Bt.bits {n:Nat}{x:Int}(h:Bt n x):AU.Int.intBits x<=n:=intBits_le_iff.mpr h
def Bt.of_bits {n:Nat}{x:Int}(h:AU.Int.intBits x<=n):Bt n x:=intBits_le_iff.mp h
def Bt.mono {m n:Nat}{x:Int}(h:Bt m x)(hn:m<=n):Bt n x:=AX h (Nat.pow_le_pow_right (by decide) hn)
def Bt.mul {m n:Nat}{x y:Int}(h:Bt m x)(h':Bt n y):Bt (m+n) (x*y):=.of_bits (intBits_mul_le h.bits h'.bits)
def Bt.add {m:Nat}{x y:Int}(h:Bt m x)(h':Bt m y):Bt (m+1) (x+y):=.of_bits (by have:=intBits_add_le h.bits h'.bits;rwa [Nat.max_self] at this)
def Bt.le {m:Nat}{x y:Int}(h:Bt m y)(h0:0<=x)(hy:x<=y):Bt m x:=by
 unfold Bt at *
 omega
def Bt.div {m:Nat}{x y:Int}(h:Bt m x)(h0:0<=x):Bt m (x/y):=by
 unfold Bt at *
 have:=Int.natAbs_ediv_le_natAbs x y;omega
def aF1 {n:Nat}{x:Int}(h:Bt n x)(hp:0<x)(hn:n<=9000):x.natAbs.log2<9000:=by
 have:x.natAbs.log2<n:=(Nat.log2_lt (by omega)).mpr h;omega
def aHo (i j:Int):Prop:=Bt 1000000 i/\Bt 1000000 j
def aHp (_i j:Int):Prop:=0<j/\Bt 9000 j
def aHn (i j:Int):Prop:=0<=j/\j<=1000/\Bt 1000 i
section
variable {X:Cx}
def cQ:OpR X (DM .Mult) (rI aHo λi j=>.int (i*j)):=opI λ_ _ _ _ _ _ _ hc q=>mul_int q (.of_bits (Bh hc.1.bits (by decide)) (Bh hc.2.bits (by decide)))
def bN:OpR X (DM .FloorDiv) (rI aHp λi j=>.int (i/j)):=opI λi j _ _ _ _ _ hc q=>by
 have h1:(0:Int)<j:=hc.1;rw [<- Int.fdiv_eq_ediv_of_nonneg i (Int.le_of_lt h1)] at q;exact floordiv_int (by omega) q (.inl (PyProof.noPylong_of_log2 (aF1 hc.2 h1 (Ao _))))
def jG:OpR X (DM .Pow) (rI aHn λi j=>.int (i^j.toNat)):=opI λi j _ _ _ _ _ hc q=>by
 obtain ⟨h0,h1,h2⟩:=hc;refine PyProof.Rows.pow_int h0 ?_ q;have b:=h2.bits;have e:(2:Int)^27=134217728:=by decide
 have:=Int.mul_le_mul (show (AU.Int.intBits i:Int)<=1000 by omega) h1 h0 (by decide);omega
def aBd {K:Ab}{H:Hp}{n:Nat}(ns ms:List Int):∀ (j:Nat) x y,(ns.map V.int)[j]?=some x->(ms.map V.int)[j]?=some y->DEq K H n x y (ns[j]?==ms[j]?):=by
 intro j x y h1 h2;rw [Aj] at h1 h2;cases e1:ns[j]? with
 |none=>rw [e1] at h1;cases h1
 |some a=>
  cases e2:ms[j]? with
  |none=>rw [e2] at h2;cases h2
  |some b=>
   rw [e1] at h1;rw [e2] at h2;cases h1;cases h2;have:(some a==some b)=eqV (V.int a) (V.int b):=by
    show (a==b)=(a==b);rfl
   rw [this];exact DEq.flat rfl rfl
theorem all_ints:∀ (ns ms:List Int),((Ay (min ns.length ms.length)).all (λj=>ns[j]?==ms[j]?)&&ns.length==ms.length)=decide (ns=ms):=by
 intro ns ms;rw [EZ];simp only [BV,Cy,Bv,beq_iff_eq,decide_eq_true_eq];constructor
 ·rintro ⟨h,hl⟩
  refine Dh λi=>?_
  by_cases hi:i<ns.length
  ·exact h i (by omega)
  ·rw [Bu (by omega),Bu (by omega)]
 ·rintro rfl
  exact ⟨λ_ _=>rfl,rfl⟩
def rEqI (K:Ab):R2:=λx y H Q=>∃ a b,∃ ns ms:List Int,x=.ref a/\y=.ref b/\SqT K H a (ns.map V.int)/\SqT K H b (ms.map V.int)/\Q (.bl (decide (ns=ms))) H
def rNeI (K:Ab):R2:=λx y H Q=>∃ a b,∃ ns ms:List Int,x=.ref a/\y=.ref b/\SqT K H a (ns.map V.int)/\SqT K H b (ms.map V.int)/\Q (.bl (!decide (ns=ms))) H
def aFv (hu:X.A.units+64<cLine):OpR X (BO .Eq) (rEqI X.K):=by
 intro pins s σ H x y v u Q I rx ry h;obtain ⟨a,b,ns,ms,rfl,rfl,hx,hy,q⟩:=h;refine aBv hu pins s σ H _ _ v u Q I rx ry ⟨a,b,_,_,λj=>ns[j]?==ms[j]?,rfl,rfl,hx,hy,aBd ns ms,?_⟩;rw [Ac,Ac,all_ints];exact q
end
section
variable {X:Cx}
def aBh (hc:X.calm=true):eX X (.builtin "sum") (λxs H Q=>∃ p,∃ ns:List Int,xs=[.ref p]/\SqL X.K H p (ns.map V.int)/\Q (.int ns.sum) H):=by
 intro pins s σ H xs us Q I r h;obtain ⟨p,ns,rfl,hq,q⟩:=h;obtain ⟨u,rfl,rx⟩:=vals1 r;cases rx;obtain ⟨its,r',pl,hz⟩:=I.list hq;have hi:=intsAre_of r';obtain ⟨ys,e⟩:=(hi.allInts).items;have hl:s.heap.IsList p (intItems ys):=e▸pl.isList;refine sum_intListG (I.ok.hd hc) hl λh' tk t' hk=>?_;refine ⟨.int ns.sum,H,I.kept hk,⟨t',?_⟩,q⟩;have e1:numsOf its=ns:=hi.numsOf;have e2:numsOf (intItems ys).toList=numsOf its:=by rw [<- e]
 rw [nums_intItems,e1] at e2;rw [preSum_eq,Dw (by simp),e2]
def tIt (K:Ab)(i k:Nat):TE:=λσ H Q=>∃ p xs v,σ[i]?=some (some (.ref p))/\SqT K H p xs/\xs[k]?=some v/\Q v H
def pit (i k:Nat){j:Nat}(hN:X.N[i]?=some x:=by rfl)(hv:Vis X.env.scope x:=by first|exact Or.inl rfl|exact Or.inr (Or.inl rfl)|exact Or.inr (Or.inr rfl))(hd:(x==("__debug__":Str))=false:=by decide)(hcd:(x==("__classdict__":Str))=false:=by decide){pos:Pos}:PE X (.Subscript (.Name x p) (.Constant (.int (k:Int)) j q) pos) (tIt X.K i k):=by
 intro pins s σ H Q I h;obtain ⟨a,xs,v,e,hs,hk,q⟩:=h;exact bE hJ (vV hN hv hd hcd) aG (λ_ _=>rfl) pins s σ H Q I ⟨_,e,a,xs,(k:Int),v,rfl,rfl,hs,aZ hk,q⟩
structure Cal (P:AF)(w:World)(K:Ab)(mg:Str->Option Value)(base:Heap)(CX:CXT)(k:Nat)(x:Str)(ps:List Str)(sp:Sp):Prop where
 ex:∃ (f:Addr) (fd:AM),mg x=some (.ref f)/\BK K (.ref f)=true/\Binds K fd ps []/\FnOk P w K mg base CX k f fd ps sp
def aL {k:Nat}{t:TA}{p pos:Pos}(C:Cal X.prog X.w X.K X.mg X.base CX k x ps sp)(hr:Room k X.A)(hg:Gl X x)(hx:iB CX X E)(ha:PA X (e::es) t)(hdb:(x==("__debug__":Str))=false:=by decide)(he:AV (e::es) X.env=(false,eval e X.env)::AV es X.env:=by rfl)(hpl:(backTo pos (AV es X.env)).any (·.1)=false:=by rfl) :
  PE X (.Call (.Name x p) (e::es) [] pos) (aCq sp [] E t):=by
 obtain ⟨f,fd,hm,hk,hb,F⟩:=C.ex;exact aDj F hr hg hm hk hb .nil hx ha hdb he hpl
def Cal.mono {P:AF}{w:World}{K:Ab}{mg:Str->Option Value}{base:Heap}{CX:CXT}{j k:Nat}{x:Str}{ps:List Str}{sp:Sp}(C:Cal P w K mg base CX j x ps sp)(h:j<=k):Cal P w K mg base CX k x ps sp:=by
 obtain ⟨f,fd,hm,hk,hb,F⟩:=C.ex;exact ⟨f,fd,hm,hk,hb,F.mono h⟩
end
def Same.tup {K:Ab}{H H':Hp}{a:Addr}{xs:List V}(e:Same H H')(h:SqT K H a xs):SqT K H' a xs:=by
 rcases h with (h|⟨o,h⟩)|h
 ·exact .inl (.inl (e _ _ h))
 ·exact .inl (.inr ⟨o,e _ _ h⟩)
 ·exact .inr h
theorem Same.upd {a:Addr}(h:H a=none):Same H (upd H a o):=λb u e=>by
 rw [aE (aI e h)];exact e
def RetT (H:Hp)(Q:VK)(ns:List Int):Prop:=∀ p H',Same H H'->H' p=some (.tup (ns.map V.int))->Q (.ref p) H'
end L2
namespace L2
open PySem PySem.Spec PyProof.Rows PySem.W
structure ExK (K:Frag)(C:Addr):Prop where
 ga:findIn K (.ref C) "__getattribute__" = some (some (.builtin "BaseException.__getattribute__"))
 gt:findIn K (.ref C) "__getattr__" = some none
 cl:findIn K (.ref C) "__class__" = some (some (.builtin "object.__class__"))
 sb:subIn K (.ref C) (.type "BaseException")=some true
 so:subIn K (.ref C) (.type "object")=some true
 ci:(clsIn K C).isSome=true
structure ExAt (h:Heap)(a:Addr)(o:Obj)(C:Addr):Prop where
 at_:h.get? a=some o
 cls:o.cls=.ref C
def ExAt.type {a C:Addr}(I:ExAt h a o C):Looks M h (typeOf (.ref a)) (.ref C):=by
 rw [<- I.cls];exact (Looks.ld I.at_).andThen .now
section
variable {prog:AF}{w:World}{A:Around}{E:Value->Shared->Prop}{h:Heap}{g:Array GenState}{d:Drawn}{t:Nat}{os:OsState}{a C:Addr}{o:Obj}{K:Frag}
def mG (X:K.In h)(F:ExK K C)(I:ExAt h a o C)(hq:R (.ok (.ret (.ref C))) ⟨h,g,d,t,os⟩) :
  DE (model prog w) A (.call (.builtin "getset_descriptor.__get__") ⟨[.builtin "object.__class__",.ref a,.ref C],[]⟩) R ⟨h,g,d,t,os⟩:=by
 have hT5:(⟨h,g,d,t,os⟩:Shared).TypeIs (.builtin "object.__class__") "getset_descriptor":=ER;have hx:=I.at_;have hc:=I.cls;have L1:=looks_subIn (M:=model prog w) X F.so;rw [<- PySem.F.owner_object_class] at L1;refine Dj PySem.F.slot_gs_get.plain PySem.F.entry_gs_get (PySem.F.slot_gs_get.check _ _ _ _ _ _ _ _ hT5 (PySem.F.args_gs_get _ _ _) ?_)
 repeat (any_goals (first|assumption|(with_reducible refine Bl hx ?_;rw [hc])|with_reducible refine L1.at ?_|wp_step))
 refine ⟨Fh _ (by decide +kernel),Dq PySem.F.entry_object_class ?_⟩
 repeat (any_goals (first|assumption|(with_reducible refine Bl hx ?_;rw [hc])|wp_step))
def jR {tk:Tok}(X:K.In h)(F:ExK K C)(I:ExAt h a o C)(hq:Q (.done (.ret (.ref C))) ⟨h,g,d,t,os⟩) :
  wpAny (model prog w) A (AU.«object.__getattribute__» ⟨[.ref a,.str "__class__" tk],[]⟩) Q E ⟨h,g,d,t,os⟩:=by
 have L1:=looks_findIn (M:=model prog w) X F.cl;have hT5:(⟨h,g,d,t,os⟩:Shared).TypeIs (.builtin "object.__class__") "getset_descriptor":=ER;have f5:=ER;have f6:=PySem.F.slot_gs_get.lookup;have f7:=PySem.F.slot_gs_set.lookup;have hx:=I.at_;have hc:=I.cls
 repeat (any_goals (first|assumption|(with_reducible refine Bl hx ?_;rw [hc])|with_reducible refine L1.at ?_|wp_step))
 refine mG X F I ?_
 repeat (any_goals (first|assumption|wp_step))
def hZ (X:K.In h)(F:ExK K C)(I:ExAt h a o C)(hq:Q () ⟨h,g,d,t,os⟩):wpAny M A (checkBuiltinCall "BaseException.__getattribute__" ⟨[.ref a,nameV],[]⟩) Q E ⟨h,g,d,t,os⟩:=by
 have hk:builtinKind "BaseException.__getattribute__" = some .slot:=by decide +kernel
 have hsplit:splitId "BaseException.__getattribute__" = some ("BaseException","__getattribute__"):=by decide +kernel
 have L2':=looks_subIn (M:=M) X F.sb;have ha:=PySem.F.args_bexc_ga (.ref a) nameV;have hx:=I.at_;have hc:=I.cls;simp only [checkBuiltinCall,hk,hsplit];refine Aa ?_
 ·unfold isInstance
  repeat (first|(with_reducible refine Bl hx ?_;rw [hc])|with_reducible refine L2'.at ?_|wp_step)
  exact hq
def jZ {tk:Tok}(X:K.In h)(F:ExK K C)(I:ExAt h a o C)(hq:R (.ok (.ret (.ref C))) ⟨h,g,d,t,os⟩) :
  DE (model prog w) A (.call (.builtin "BaseException.__getattribute__") ⟨[.ref a,.str "__class__" tk],[]⟩) R ⟨h,g,d,t,os⟩:=
 Dj Ek.ga.plain PySem.F.entry_bexc_ga (hZ X F I (jR X F I hq))
def oM {tk:Tok}{fill expr:Bool}(X:K.In h)(F:ExK K C)(I:ExAt h a o C)(hq:Q (.ref C) ⟨h,g,d,t,os⟩) :
  wpAny (model prog w) A (getAttrBy (.ref a) (.str "__class__" tk) fill expr) Q E ⟨h,g,d,t,os⟩:=by
 have f3:=Ek.ga.bind (.ref a);have hx0:(expr&&onTheHeap (Cn "BaseException.__getattribute__"))=false:=by cases expr<;>rfl
 have hx2:(Cn "BaseException.__getattribute__" == Cn "object.__getattribute__")=false:=by decide +kernel
 have hx1:(onTheHeap (AN C)&&Cn "BaseException.__getattribute__" == Cn "object.__getattribute__")=false:=by rw [hx2];rfl
 have L1:=looks_findIn (M:=model prog w) X F.ga;have L2':=looks_findIn (M:=model prog w) X F.gt;have hx:=I.at_;have hc:=I.cls
 repeat (any_goals (first|assumption|(with_reducible refine Bl hx ?_;rw [hc])|with_reducible refine L1.at ?_|with_reducible refine L2'.at ?_|wp_step))
 refine jZ X F I ?_
 repeat (any_goals (first|assumption|wp_step))
def kE (X:K.In h)(F:ExK K C)(I:ExAt h a o C)(hq:Q (some (.ref C)) ⟨h,g,d,t+1,os⟩) :
  wpAny (model prog w) A (getAttr? (.ref a) "__class__") Q E ⟨h,g,d,t,os⟩:=by
 unfold getAttr? getAttrBy?
 repeat (any_goals (first|assumption|with_reducible apply oM X F I|wp_step))
end
def rY {K:Frag}{a C:Addr}{o:Obj}(F:ExK K C):KitX K (.ref a) (.ref C) (λh=>ExAt h a o C) where
 ty:=λM h X I=>I.type
 it:=λM h X I=>by
  have hcD:=F.ci;unfold clsIn at hcD;split at hcD
  ·rename_i c' d' cd' sl' ho
   intro A' Q' E' s' k q;unfold isType loadHead;exact Aa (wpAny_loadPart (k _ _ (X _ _ ho)) (Ag q))
  ·cases hcD
 ne:=λh tp dd its n sl X htp=>by
  have hcD:=F.ci;refine Bool.eq_false_iff.mpr λq=>?_;have e:C=tp:=AN.inj (beq_iff_eq.mp q);subst e;unfold clsIn at hcD;split at hcD
  ·rename_i c' d' cd' sl' ho
   have:=X _ _ ho;rw [htp] at this;cases this
  ·cases hcD
 ca:=λ{prog w A E Q s} X I hq=>by
  obtain ⟨hh,g,d,t,os⟩:=s;exact kE X F I hq
def excO (a C:Addr):HO:=.ext λh=>∃ o,ExAt h a o C
section
variable {X:Cx}
end
def yA (o:Obj)(f:Array Value->Array Value):(DT f o).dict=o.dict:=by
 unfold DT;split<;>rfl
def TrD (h base:Heap)(e:Addr)(cls:Value)(dd:Option Addr)(fl:Value):Prop:=
 ∃ (ob tb:Obj) (us ts:Array Value) (T:Addr),(h.get? e=some ob/\ob.data=.fields us/\ob.cls=cls/\ob.dict=dd)/\us[1]?=some (.ref T)/\(base.get? T=none/\T≠e)/\h.get? T=some tb/\tb.data=.fields ts/\ts[3]?=some fl
structure FlyD (base:Heap)(l:List Env)(e:Addr)(cls:Value)(dd:Option Addr)(fl:Value)(h:Heap):Prop where
 st:base.StaysIn h
 no:base.get? e=none
 fr:h.FunFrames base l
 tr:TrD h base e cls dd fl
theorem FlyD.at {base h:Heap}{dd:Option Addr}(x:FlyD base l e cls dd fl h):∃ ob us,h.get? e=some ob/\ob.cls=cls/\ob.dict=dd/\ob.data=.fields us:=by
 obtain ⟨ob,_,us,_,_,⟨a,b,c,d⟩,_⟩:=x.tr;exact ⟨ob,us,a,c,d,b⟩
section
variable {M:Model}{A:Around}{E:Value->Shared->Prop}{s:Shared}{base:Heap}{env:Env}{outer:List Env}{L e:Addr}{Q:Unit->Shared->Prop}{cls:Value}{dd:Option Addr}
def aCb {had:Bool}(frs:A.frames=some (env::outer))(ff:s.heap.FunFrames base (env::outer))(fL:env.frame=some L)(ge:s.heap.get? e=some ob)(st:base.StaysIn s.heap)(no:base.get? e=none)(du:ob.data=.fields us)(sz:1<us.size)(k:∀ h',FlyD base (env::outer) e ob.cls ob.dict (rawInt L) h'->s.heap.UpToSlots h'->Q () { s with heap:=h' }) :
  wpAny M A (do let fo <- frameOf env;let pl <- entryPlaceOf L had;let row <- EntryCells.newEntry head fo .none (rawInt L) .none pl;setField (.ref e) 1 row) Q E s:=by
 have eNot:e∉(env::outer).filterMap (·.frame):=λmem=>by
  obtain ⟨_,o',g',nf⟩:=ff.mem mem;cases ge.symm.trans g';exact nf us du
 refine Aa (wpAny_frameOf_fun frs ff fL λh1 only=>Aa (wpAny_entryPlaceOf λpl plOk=>?_));unfold EntryCells.newEntry newFields;refine Aa (Be ?_ (plOk.sizeOk5 _ _ _ _ _));have g1:h1.get? e=some ob:=(only.2.1 e eNot).trans ge;have st1:base.StaysIn h1:=λb o q=>(only.2.1 b λmem=>by
  rw [(ff.mem mem).1] at q;cases q).trans (st b o q)
 generalize hrow:({ cls:=.type "traceback",dict:=none,data:=.fields ([head,.ref L,.none,rawInt L,.none]++(if pl.isEmpty then AR 6 BI else pl)).toArray }:Obj)=row;have g2:(h1.push row).get? e=some ob:=Ae row g1;have Tne:h1.objs.size≠e:=Nat.ne_of_gt (Ar g1);have du':=Eu du (·.setIfInBounds 1 (AN h1.objs.size));have gT:(h1.push row).get? h1.objs.size=some row:=An h1 (by rw [<- hrow];rfl);have old:∀ b o,b≠e->h1.get? b=some o->((h1.push row).update e (DT (·.setIfInBounds 1 (AN h1.objs.size)))).get? b=some o:=λb o nb q=>by
  rw [Bg _ _ (BU nb)];exact Ae row q
 have nofld:∀ b o,s.heap.get? b=some o->(∀ vs,o.data≠.fields vs)->b≠e:=λb o q nf z=>by
  subst z;cases ge.symm.trans q;exact nf us du
 refine EV g2 du sz (k _ ⟨λb o q=>old b o ?_ (st1 b o q),no,ff.of_keeps λb o q nf=>?_,?_⟩ λb o q nf=>?_)
 ·rintro rfl
  rw [no] at q;cases q
 ·obtain ⟨sl,z⟩:=only.2.2 b o q
  exact ⟨_,old b _ (nofld b o q nf) z,rfl⟩
 ·refine ⟨_,row,_,([head,.ref L,.none,rawInt L,.none]++(if pl.isEmpty then AR 6 BI else pl)).toArray,h1.objs.size,⟨BB _ g2 (EG du'),du',Obj.cls_mapFields _ _,yA _ _⟩,by simp [sz],⟨?_,Tne⟩,?_,by rw [<- hrow],by simp⟩
  ·cases z:base.get? h1.objs.size with
   |none=>rfl
   |some o=>exact absurd (Ar (st1 _ _ z)) (Ce _)
  ·rw [Bg _ _ (BU Tne)]
   exact gT
 ·obtain ⟨sl,z⟩:=only.2.2 b o q
  exact ⟨sl,old b _ (nofld b o q nf) z⟩
def qL (F:FlyD base l e cls dd fl s.heap)(k:∀ h',FlyD base l e cls dd .none h'->s.heap.UpToSlots h'->Q () { s with heap:=h' }):wpAny M A (setFlight (.ref e) none) Q E s:=by
 obtain ⟨st,no,ff,ob,tb,us,ts,T,⟨ge,du,cc,cd⟩,u1,⟨nT,Tne⟩,gT,dt,t3⟩:=F;unfold setFlight;refine Aa (Ct ge du u1 ?_);rw [if_pos (show (AN T != BI)=true from rfl)];have z3:3<ts.size:=(Cg.mp t3).1;have dt':=Eu dt (·.setIfInBounds 3 ((none:Option Addr).elim BI λf=>rawInt f));have old:∀ b,b≠T->(s.heap.update T (DT (·.setIfInBounds 3 ((none:Option Addr).elim BI λf=>rawInt f)))).get? b=s.heap.get? b:=λb nb=>Bg _ _ (BU nb);have nofld:∀ b o,s.heap.get? b=some o->(∀ vs,o.data≠.fields vs)->b≠T:=λb o q nf z=>by
  subst z;cases gT.symm.trans q;exact nf ts dt
 refine EV gT dt z3 (k _ ⟨λb o q=>?_,no,ff.of_keeps λb o q nf=>⟨o,(old b (nofld b o q nf)).trans q,rfl⟩,?_⟩ λb o q nf=>⟨o.slots,(old b (nofld b o q nf)).trans q⟩)
 ·refine (old b ?_).trans (st b o q)
  rintro rfl
  rw [nT] at q;cases q
 ·exact ⟨ob,_,us,_,T,⟨(old e (BU Tne)).trans ge,du,cc,cd⟩,u1,⟨nT,Tne⟩,BB _ gT (EG dt'),dt',by simp [z3]⟩
def aFz (frs:A.frames=some (env::outer))(ff:s.heap.FunFrames base (env::outer))(fL:env.frame=some L)(ge:s.heap.get? e=some ob)(st:base.StaysIn s.heap)(no:base.get? e=none)(du:ob.data=.fields us)(u1:us[1]?=some .none)(k:∀ h',FlyD base (env::outer) e ob.cls ob.dict (rawInt L) h'->s.heap.UpToSlots h'->Q () { s with heap:=h' }):wpAny M A (noteFrame (.ref e) env) Q E s:=by
 unfold noteFrame;simp only [fL];refine Aa (Ct ge du u1 ?_);rw [if_neg (by decide)];exact aCb frs ff fL ge st no du (Cg.mp u1).1 k
def aHb (frs:A.frames=some (env::outer))(fL:env.frame=some L)(F:FlyD base (env::outer) e cls dd .none s.heap)
  (k:∀ h',FlyD base (env::outer) e cls dd (rawInt L) h'->s.heap.UpToSlots h'->Q () { s with heap:=h' }):wpAny M A (noteFrame (.ref e) env) Q E s:=by
 obtain ⟨st,no,ff,ob,tb,us,ts,T,⟨ge,du,cc,cd⟩,u1,⟨nT,Tne⟩,gT,dt,t3⟩:=F;subst cc cd;unfold noteFrame;simp only [fL];refine Aa (Ct ge du u1 ?_);rw [if_pos (show (AN T != BI)=true from rfl)];refine Aa (Ct gT dt t3 ?_);rw [if_neg (show ¬ ((BI==rawInt L)=true) from by simp [rawInt])];have z3:3<ts.size:=(Cg.mp t3).1;have old:∀ b,b≠T->(s.heap.update T (DT (·.setIfInBounds 3 BI))).get? b=s.heap.get? b:=λb nb=>Bg _ _ (BU nb);have nofld:∀ b o,s.heap.get? b=some o->(∀ vs,o.data≠.fields vs)->b≠T:=λb o q nf z=>by
  subst z;cases gT.symm.trans q;exact nf ts dt
 refine Aa (EV gT dt z3 ?_);refine aCb frs (ff.of_keeps λb o q nf=>⟨o,(old b (nofld b o q nf)).trans q,rfl⟩) fL ((old e (BU Tne)).trans ge) (λb o q=>?_) no du (Cg.mp u1).1 λh' F' up=>k h' F' λb o q nf=>up b o ((old b (nofld b o q nf)).trans q) nf;refine (old b ?_).trans (st b o q)
 rintro rfl
 rw [nT] at q;cases q
def FlyD.tail (F:FlyD base (env::outer) e cls dd fl h):FlyD base outer e cls dd fl h:=⟨F.st,F.no,F.fr.2.2,F.tr⟩
def aD7 (frs:A.frames=some (env::outer))(ff:s.heap.FunFrames base (env::outer))(fL:env.frame=some L)(ge:s.heap.get? e=some ob)(st:base.StaysIn s.heap)(no:base.get? e=none)(du:ob.data=.fields us)(u1:us[1]?=some .none)(k:∀ h',FlyD base outer e ob.cls ob.dict .none h'->s.heap.UpToSlots h'->Q () { s with heap:=h' }):wpAny M A (leaving env (.ref e)) Q E s:=by
 unfold leaving;exact Aa (aFz frs ff fL ge st no du u1 λh' F' up=>qL F' λh'' F'' up'=>k h'' F''.tail (up.trans up'))
end
structure Flx (P:AF)(w:World)(outer:List Env)(H:Hp)(s:Shared)(H':Hp)(ea:Addr)(cls:Value)(dd:Option Addr)(s':Shared):Prop where
 os:s'.os=s.os
 bare:AllBare s'.gens
 un:Un (frs outer) [] H H' s.heap s'.heap
 fl:∃ B:Heap,HOk P w H' B/\FlyD B outer ea cls dd .none s'.heap/\(∀ b o,s.heap.get? b=some o->H b=none->b∉frs outer->B.get? b=some o)/\(∀ b o,s.heap.get? b=some o->b∉frs outer->∃ o',B.get? b=some o')
def CXg (P:AF)(w:World):CXT:=λouter H s E e s'=>∃ (ea C:Addr) (dd:Option Addr) (H':Hp),e=.ref ea/\Flx P w outer H s H' ea (.ref C) dd s'/\E (.ref C) dd H'
structure OwnF (X:Cx):Prop where
 stk:X.stack=X.env::X.outer
 fr:X.env.frame=some X.env.locals
 ex:X.ex=[]
section
variable {X:Cx}{pins:List (Addr×Obj)}{σ:St}{H H':Hp}{s s':Shared}
def aB0 (O:OwnF X)(I:Inv X pins σ H s){b:Addr}(e:X.s₀.heap.get? b=some o)(hb:b∉frs X.outer):b∉frs X.stack:=by
 rw [O.stk];intro z;unfold frs at z hb;rw [CD,O.fr] at z
 rcases Aw.mp z with z|z
 ·exact absurd (AX (Ar e) I.ok.above) (by rw [z];exact Ce _)
 ·exact hb z
def aHd (O:OwnF X){b:Addr}(hb:b∈frs X.outer):b∈frs X.stack:=by
 rw [O.stk];unfold frs at *
 rw [CD,O.fr];exact Au _ hb
def aGn (O:OwnF X)(I:Inv X pins σ H s){B h':Heap}(u:Un (frs X.stack) [] H H' s.heap s'.heap)(bk:∀ b o,X.s₀.heap.get? b=some o->X.H₀ b=none->b∉frs X.outer->B.get? b=some o)
  (th:∀ b o,X.s₀.heap.get? b=some o->b∉frs X.outer->∃ o',B.get? b=some o') (st:B.StaysIn h') (up:s'.heap.UpToSlots h'):Un (frs X.outer) [] X.H₀ H' X.s₀.heap h':=by
 have noex:∀ b:Addr,b∉X.ex:=λb z=>by rw [O.ex] at z;cases z
 have slot:∀ b o,X.s₀.heap.get? b=some o->X.H₀ b=none->b∈frs X.outer->∃ sl,h'.get? b=some { o with slots:=sl }:=λb o e n hb=>by
  obtain ⟨sl,e1⟩:=I.base.slot b o e n hb (noex b);have n1:=I.base.free b o e n (noex b);obtain ⟨sl2,e2⟩:=u.slot b _ e1 n1 (aHd O hb) (by simp);obtain ⟨_,o',ho',hnf⟩:=I.ok.funs.mem hb;rw [e] at ho';cases ho';obtain ⟨sl3,e3⟩:=up b _ e2 (λvs q=>hnf vs q);exact ⟨sl3,e3⟩
 refine ⟨λb o e n hb _=>st b o (bk b o e n hb),λb o e n hb _=>slot b o e n hb,λb o e n _=>?_,λb o e _=>?_,λb xs e=>u.tups _ _ (I.base.tups _ _ e),λb o x e=>u.frzs _ _ _ (I.base.frzs _ _ _ e),λb ps e=>?_⟩
 ·obtain ⟨o1,e1⟩:=I.base.there b o e (noex b)
  exact u.free b o1 e1 (I.base.free b o e n (noex b)) (by simp)
 ·by_cases hb:b∈frs X.outer
  ·obtain ⟨sl,q⟩:=slot b o e (I.ok.frf b hb) hb
   exact ⟨_,q⟩
  ·obtain ⟨o2,e2⟩:=th b o e hb
   exact ⟨o2,st b o2 e2⟩
 ·obtain ⟨m1,e1⟩:=I.base.tbls b ps e
  obtain ⟨m2,e2⟩:=u.tbls _ _ e1;exact ⟨m1++m2,by rw [e2,Array.append_assoc]⟩
def aHj (I:Inv X pins σ H s)(hea:H ea=none):HOk X.prog X.w H (hideAll s.heap (ea::frs X.stack)):=λa o e=>(I.hok a o e).stay (λb u hb q=>hideAll_get _ q λz=>by
 have n:H b=none:=by
  rcases Aw.mp z with z|z
  ·rw [z];exact hea
  ·exact I.stkFree b z
 rcases hb with hb|hb
 ·rw [<- hb] at e;rw [e] at n;cases n
 ·rw [hb] at n;cases n) (λ_ h=>h) (λ_ _ h=>h)
def xY (O:OwnF X)(I:Inv X pins σ H s){ea C:Addr}{dd:Option Addr}{ob:Obj}{us:Array Value}{E':Value->Shared->Prop}{Q:Unit->Shared->Prop}(hea:H ea=none)(n0:X.s₀.heap.get? ea=none)(ge:s.heap.get? ea=some ob)
  (hc:ob.cls=.ref C) (hdd:ob.dict=dd) (du:ob.data=.fields us) (u1:us[1]?=some .none)
  (k:∀ h',Flx X.prog X.w X.outer X.H₀ X.s₀ H ea (.ref C) dd { s with heap:=h' }->Q () { s with heap:=h' }):wpAny (model X.prog X.w) X.A (leaving X.env (.ref ea)) Q E' s:=by
 have nfr:ea∉frs X.stack:=λz=>by
  obtain ⟨_,o',ho',hnf⟩:=I.stack.mem z;rw [ge] at ho';cases ho';exact hnf us du
 have hin:∀ env∈X.stack,∀ b,env.frame=some b->b∈ea::frs X.stack:=λenv he b hb=>Au _ (Eo.mpr ⟨env,he,hb⟩);have hfr:X.A.frames=some (X.env::X.outer):=by rw [<- O.stk];exact I.ok.frames
 have hl:s.heap.FunFrames (hideAll s.heap (ea::frs X.stack)) (X.env::X.outer):=by rw [<- O.stk];exact funFrames_hide I.stack hin
 have nB:(hideAll s.heap (ea::frs X.stack)).get? ea=none:=hideAll_none _ (Az ..);have bk:∀ b o,X.s₀.heap.get? b=some o->X.H₀ b=none->b∉frs X.outer->(hideAll s.heap (ea::frs X.stack)).get? b=some o:=λb o e n hb=>by
  refine hideAll_get _ (I.base.keep b o e n hb (by rw [O.ex];simp)) λz=>?_
  rcases Aw.mp z with z|z
  ·rw [z,n0] at e;cases e
  ·exact aB0 O I e hb z
 have th:∀ b o,X.s₀.heap.get? b=some o->b∉frs X.outer->∃ o',(hideAll s.heap (ea::frs X.stack)).get? b=some o':=λb o e hb=>by
  obtain ⟨o1,e1⟩:=I.base.there b o e (by rw [O.ex];simp);refine ⟨o1,hideAll_get _ e1 λz=>?_⟩
  rcases Aw.mp z with z|z
  ·rw [z,n0] at e;cases e
  ·exact aB0 O I e hb z
 refine aD7 (base:=hideAll s.heap (ea::frs X.stack)) hfr hl O.fr ge (λb o q=>of_hideAll _ q) nB du u1 λh' F' up=>k h' ⟨I.os,I.bare,?_,hideAll s.heap (ea::frs X.stack),aHj I hea,by rw [<- hc,<- hdd];exact F',bk,th⟩;exact aGn (s':=s) O I Un.refl bk th F'.st up
end
abbrev cxF (P:AF)(w:World)(K:Frag)(mg:Str->Option Value)(base:Heap)(N:List Str)(qual:Str)(scope:Scope)(f:Addr)(cd:Value)(A:Around)(outer:List Env)(s:Shared)(H:Hp)(E:XK):Cx:=cxOf (CXg P w) P w K mg base N qual scope f cd A outer s H E
section
variable {P:AF}{w:World}{K:Frag}{mg:Str->Option Value}{base:Heap}{N:List Str}{qual:Str}{scope:Scope}{f:Addr}{cd:Value}{A:Around}{outer:List Env}{s:Shared}{H:Hp}{E:XK}
def aDl:OwnF (cxF P w K mg base N qual scope f cd A outer s H E):=⟨rfl,rfl,rfl⟩
def XeOk (X:Cx)(E:XK):Prop:=∀ (pins:List (Addr×Obj)) (σ:St) (H:Hp) (s:Shared) (ea C:Addr) (ob:Obj) (us:Array Value),Inv X pins σ H s->H ea=none->X.s₀.heap.get? ea=none->s.heap.get? ea=some ob->ob.cls=.ref C->ob.data=.fields us->us[1]?=some .none->E (.ref C) ob.dict H->X.xe (.ref ea) s
def xe_f:XeOk (cxF P w K mg base N qual scope f cd A outer s H E) E:=by
 intro pins σ Hc sc ea C ob us I hea n0 ge hc du u1 hE;exact xY (X:=cxF P w K mg base N qual scope f cd A outer s H E) aDl I hea n0 ge hc rfl du u1 λh'' F'=>⟨ea,C,ob.dict,Hc,rfl,F',hE⟩
def Fun.okF {x:Str}{st:Stmt}{fd:AM}{ps:List Str}{k:Nat}{sp:Sp}(F:Fun K x qual st f fd)(S:FnScope N ps (aJ st))(len:∀ vs H Q E,sp vs H Q E->vs.length=ps.length)
  (hbody:∀ (cdv:Value) (A:Around) (outer:List Env) (s:Shared) (H:Hp) (vs:List V) (Q:VK) (E:XK),Room k (A.deeper (envOfC qual (aJ st) s.heap.objs.size f cdv))->sp vs H Q E ->
   ∃ t,PSs (cxF P w K mg base N qual (aJ st) f cdv A outer s H E) (bW st) t/\t { nx:=λ_ H'=>Q .non H',rt:=Q } (start N vs) H):FnOk P w K mg base (CXg P w) (k+1) f fd ps sp:=by
 obtain ⟨oc,od,kV,doc,pm,an,cdv,ct,osl,rfl,lk,hcd⟩:=F.ex;exact aEa lk hcd S len λA outer s H vs Q E hr hsp=>hbody cdv A outer s H vs Q E hr hsp
end
structure CtK (K:Frag)(D:Addr):Prop where
 ty:typeIn K (.ref D)=some (.type "type")
 ci:(clsIn K D).isSome=true
 sb:subIn K (.ref D) (.type "BaseException")=some true
def qN {M:Model}{A:Around}{E:Value->Shared->Prop}{h:Heap}{g:Array GenState}{d:Drawn}{t:Nat}{os:OsState}{e C D:Addr}{o:Obj}{K:Frag}{Q:Bool->Shared->Prop}(X:K.In h)(I:ExAt h e o C)(F:CtK K D)(hs:subIn K (.ref C) (.ref D)=some true)
  (hq:Q true ⟨h,g,d,t,os⟩):wpAny M A (excMatches (.ref e) (.ref D)) Q E ⟨h,g,d,t,os⟩:=by
 have L1:=looks_typeIn (M:=M) X F.ty;have L2':Looks M h (isType (.ref D)) true:=by
  have hcD:=F.ci;unfold clsIn at hcD;split at hcD
  ·rename_i c' d' cd' sl' ho
   intro A' Q' E' s' k q;unfold isType loadHead;exact Aa (wpAny_loadPart (k _ _ (X _ _ ho)) (Ag q))
  ·cases hcD
 have L3:=looks_subIn (M:=M) X F.sb;have L4:=looks_subIn (M:=M) X hs;have L5:=I.type (M:=M);have f:=tc_notTuple;unfold excMatches isInstance
 repeat (first|with_reducible refine L1.at ?_|with_reducible refine L2'.at ?_|with_reducible refine L3.at ?_|with_reducible refine L4.at ?_|with_reducible refine L5.at ?_|wp_step)
 exact hq
abbrev bmV:List Value:=[.type "ValueError",.type "Exception",.type "BaseException",.type "object"]
structure ClsObj (h:Heap)(C:Addr)(bmB:List Value)(newId:String):Prop where
 ex:∃ (nm q:Str) (N:Addr) (bs bm:List Value) (hdct:Bool) (sn:List Str) (sub:List Value) (ab:Bool) (col:Option Bool) (dd:Option Addr) (k0 k1 k2 k3 k5:Option Value) (mN:Str->Option Value),
  h.get? C=some (excClassObj nm q C N bs bm hdct sn sub ab col dd k0 k1 k2 k3 k5 newId)/\h.Ns N mN/\mN "__init__" = none/\OwnTail h bmB bm
def aAt {a:Addr}(x:ObjOk P w H h a o):∃ ob,h.get? a=some ob:=by
 cases o with
 |lst xs=>obtain ⟨_,_,_,_,e⟩:=x;exact ⟨_,e⟩
 |tup xs=>obtain ⟨_,_,_,ob,e,_⟩:=x;exact ⟨_,e⟩
 |dK kvs=>obtain ⟨_,_,_,_,ob,_,_,e,_⟩:=x;exact ⟨_,e⟩
 |dT kvs=>obtain ⟨_,_,_,_,ob,_,_,e,_⟩:=x;exact ⟨_,e⟩
 |set S n=>obtain ⟨ob,_,_,_,e,_⟩:=x;exact ⟨_,e⟩
 |ins C dx fs=>obtain ⟨_,_,_,e,_⟩:=x;exact ⟨_,e⟩
 |own y=>obtain ⟨_,e⟩:=x;exact ⟨_,e⟩
 |xd fs=>obtain ⟨_,⟨_,_,_,e,_⟩,_⟩:=x;exact ⟨_,e⟩
 |rng lo hi=>obtain ⟨_,_,_,e⟩:=x;exact ⟨_,e⟩
 |frz ob u=>obtain ⟨e,_⟩:=x;exact ⟨_,e⟩
 |tbl ps=>exact ⟨_,(show h.get? a=some _ from x)⟩
 |met f y=>exact ⟨_,(show h.get? a=some _ from x)⟩
 |ext φ=>obtain ⟨_,⟨_,e⟩,_⟩:=x;exact ⟨_,e⟩
def excD (a C:Addr)(dd:Option Addr):HO:=.ext λh=>∃ o,ExAt h a o C/\o.dict=dd/\∃ us,o.data=.fields us
def Inv.absent0 {σ:St}{s:Shared}(I:Inv X pins σ H s)(hex:X.ex=[])(n:s.heap.get? e=none):X.s₀.heap.get? e=none:=by
 cases q:X.s₀.heap.get? e with
 |none=>rfl
 |some o=>
  obtain ⟨ob,z⟩:=I.base.there e o q (by rw [hex];simp);rw [n] at z;cases z
def tRaise (C:Addr)(E:XK)(t:TA):TS:=λ_ σ H=>t σ H λvs H1=>vs.length<=AE/\E (.ref C) none H1
section
variable {X:Cx}
def eW:eX X (.builtin "isinstance") (λxs H Q=>∃ a C dd c v b,xs=[.ref a,v]/\H a=some (excD a C dd)/\ExK X.K C/\RelV v c/\kitOne X.K (.ref C) c=some b/\Q (.bl b) H):=by
 intro pins s σ H xs us Q I r h;obtain ⟨a,C,dd,c,v,b,rfl,hH,F,rc,hk,q⟩:=h;obtain ⟨u,w',rfl,rx,ry⟩:=vals2 r;cases rx;obtain ⟨⟨o,hi,_⟩,_⟩:=I.hok a _ hH;have e:w'=c:=by
  have:=ry;cases v with
  |ref z=>cases ry;cases rc;rfl
  |ty z=>cases ry;cases rc;rfl
  |non=>cases ry;cases rc;rfl
  |bl z=>cases ry;cases rc;rfl
  |int z=>obtain ⟨_,rfl⟩:=rc;simp [kitOne,kitCls] at hk
  |str z=>obtain ⟨_,rfl⟩:=rc;simp [kitOne,kitCls] at hk
  |byt z=>obtain ⟨_,rfl⟩:=rc;simp [kitOne,kitCls] at hk
  |flt z=>obtain ⟨_,rfl⟩:=rc;simp [kitOne,kitCls] at hk
 subst e;exact kia_one (rY F) I.kIn hi hk (by intro z;cases z) λtk=>⟨.bl b,H,I.tok _,rfl,q⟩
end
abbrev Cx.within (X:Cx)(v:Value):Cx:={ X with A:=X.A.mark (some v),calm:=false,xe:=λ_ _=>False }
abbrev Cx.trying (X:Cx)(pins:List (Addr×Obj))(E:Value->Shared->Prop):Cx:={ X with pn:=X.pn++pins,xe:=E }
section
variable {X:Cx}{pins:List (Addr×Obj)}{σ:St}{H H':Hp}{s s':Shared}
def Inv.within (I:Inv X pins σ H s)(v:Value):Inv (X.within v) pins σ H s:=
 ⟨⟨I.ok.mod,I.ok.kind,I.ok.glob,I.ok.blt,I.ok.above,I.ok.inj,I.ok.has,I.ok.cab,(λh=>(by cases h)),I.ok.frames,I.ok.stk,I.ok.exf,I.ok.bs,I.ok.bsz,I.ok.noex,I.ok.exfs,I.ok.funs,I.ok.frf⟩,I.os,I.bare,I.base,I.loc,I.cell,I.free,I.freeC,I.pin,I.hok,I.len⟩
def Inv.without (ok:X.Ok)(I:Inv (X.within v) pins σ H s):Inv X pins σ H s:=⟨ok,I.os,I.bare,I.base,I.loc,I.cell,I.free,I.freeC,I.pin,I.hok,I.len⟩
def Inv.trying (I:Inv X pins σ H s)(E:Value->Shared->Prop):Inv (X.trying pins E) [] σ H s:=
 ⟨⟨I.ok.mod,I.ok.kind,I.ok.glob,I.ok.blt,I.ok.above,I.ok.inj,I.ok.has,I.ok.cab,I.ok.hd,I.ok.frames,I.ok.stk,I.ok.exf,I.ok.bs,I.ok.bsz,I.ok.noex,I.ok.exfs,I.ok.funs,I.ok.frf⟩,I.os,I.bare,I.base,I.loc,I.cell,I.free,I.freeC,λp hp=>I.pin p (by rwa [AL] at hp),I.hok,I.len⟩
def Inv.tried (I:Inv (X.trying pins E) pl σ H s):Inv X pins σ H s:=
 ⟨⟨I.ok.mod,I.ok.kind,I.ok.glob,I.ok.blt,I.ok.above,I.ok.inj,I.ok.has,I.ok.cab,I.ok.hd,I.ok.frames,I.ok.stk,I.ok.exf,I.ok.bs,I.ok.bsz,I.ok.noex,I.ok.exfs,I.ok.funs,I.ok.frf⟩,I.os,I.bare,I.base,I.loc,I.cell,I.free,I.freeC,λp hp=>I.pin p (AW _ hp),I.hok,I.len⟩
def SP.tried {f:Flow}(h:SP (X.trying pins E) [] D f s):SP X pins D f s:=by
 cases f with
 |next=>obtain ⟨σ',H',I,q⟩:=h;exact ⟨σ',H',I.tried,q⟩
 |brk=>obtain ⟨σ',H',I,q⟩:=h;exact ⟨σ',H',I.tried,q⟩
 |cont=>obtain ⟨σ',H',I,q⟩:=h;exact ⟨σ',H',I.tried,q⟩
 |ret u=>obtain ⟨v,σ',H',I,r,q⟩:=h;exact ⟨v,σ',H',I.tried,r,q⟩
def Inv.track (I:Inv X pins σ H s){a:Addr}{u:HO}(hn:H a=none)(h0:X.s₀.heap.get? a=none)(hL:a≠X.env.locals)(hc:∀ x c,X.env.cells.lookup x=some c->c≠a)(hp:∀ p∈X.pn++pins,p.1≠a)
  (ok:ObjOk X.prog X.w (upd H a u) s.heap a u):Inv X pins σ (upd H a u) s:=by
 have old:∀ b o,X.s₀.heap.get? b=some o->b≠a:=λb o e z=>by rw [z,h0] at e;cases e
 have trk:∀ b o,H b=some o->b≠a:=λb o e=>aI e hn;refine ⟨I.ok,I.os,I.bare,⟨I.base.keep,I.base.slot,λb o e n hx=>?_,I.base.there,λb xs e=>?_,λb o x e=>?_,λb ps e=>?_⟩,I.loc,I.cell,?_,λx c e=>?_,λp q=>?_,λb o e=>?_,I.len⟩
 ·rw [aE (old b o e)]
  exact I.base.free b o e n hx
 ·have z:=I.base.tups b xs e
  rw [aE (trk _ _ z)];exact z
 ·have z:=I.base.frzs b o x e
  rw [aE (trk _ _ z)];exact z
 ·obtain ⟨m,z⟩:=I.base.tbls b ps e
  exact ⟨m,by rw [aE (trk _ _ z)];exact z⟩
 ·rw [aE (BU hL)]
  exact I.free
 ·rw [aE (hc x c e)]
  exact I.freeC x c e
 ·obtain ⟨a1,a2,a3⟩:=I.pin p q
  exact ⟨a1,by rw [aE (hp p q)];exact a2,a3⟩
 ·by_cases hb:b=a
  ·subst hb
   rw [aB] at e;cases e;exact ok
  ·rw [aE hb] at e
   exact (I.hok b o e).stay (λ_ _ _ q=>q) (λc q=>by rw [aE (trk _ _ q)];exact q) (λc xs q=>by rw [aE (trk _ _ q)];exact q)
def aCj (I:Inv X pins σ H s){B h':Heap}(u:Un (frs X.stack) [] H H' s.heap s'.heap)(bk:∀ b o,s.heap.get? b=some o->H b=none->b∉frs X.stack->B.get? b=some o)
  (th:∀ b o,s.heap.get? b=some o->b∉frs X.stack->∃ o',B.get? b=some o') (st:B.StaysIn h') (up:s'.heap.UpToSlots h'):Un (frs X.stack) [] H H' s.heap h':=by
 have slot:∀ b o,s.heap.get? b=some o->H b=none->b∈frs X.stack->∃ sl,h'.get? b=some { o with slots:=sl }:=λb o e n hb=>by
  obtain ⟨sl,e1⟩:=u.slot b o e n hb (by simp);obtain ⟨_,o',ho',hnf⟩:=I.stack.mem hb;rw [e] at ho';cases ho';obtain ⟨sl3,e3⟩:=up b _ e1 (λvs q=>hnf vs q);exact ⟨sl3,e3⟩
 refine ⟨λb o e n hb _=>st b o (bk b o e n hb),λb o e n hb _=>slot b o e n hb,u.free,λb o e _=>?_,u.tups,u.frzs,u.tbls⟩
 by_cases hb:b∈frs X.stack
 ·obtain ⟨sl,q⟩:=slot b o e (I.stkFree b hb) hb
  exact ⟨_,q⟩
 ·obtain ⟨o2,e2⟩:=th b o e hb
  exact ⟨o2,st b o2 e2⟩
def wV {i:Nat}{pos:Pos}(I:Inv X pins σ H s)(hN:X.N.Nodup)(hi:X.N[i]?=some n)(hk:X.env.scope.names.lookup n=some .local)(h:∀ s',Inv X pins (σ.set i none) H s'->Q () s'):wpAny M A (do bindName X.env n .none;unbindBehindTheSuite X.env n pos) Q E s:=by
 obtain ⟨m,hn,hl⟩:=id I.loc;have hcls:(X.env.scope.kind==.class||(X.env.scope.kind==.module&&X.env.locals != X.env.globals))=false:=by rw [I.ok.kind];rfl
 have hiσ:i<σ.length:=by rw [I.len];exact (Ah.mp hi).1
 refine wpAny_nameGoes_keeps hk hn hcls λh' v hn' hs=>?_;have ne:∀ b o,X.s₀.heap.get? b=some o->b≠X.env.locals:=λb o e=>AG (AX (Ar e) I.ok.above);refine h _ ⟨I.ok,I.os,I.bare,⟨λb o e n hb hx=>(hs.2 b (ne b o e)).trans (I.base.keep b o e n hb hx),λb o e n hb hx=>?_,I.base.free,λb o e hx=>?_,I.base.tups,I.base.frzs,I.base.tbls⟩,⟨_,hn',λj y v' e1 e2 e3=>?_⟩,λy c e=>?_,I.free,I.freeC,λp hp=>?_,λb ob e=>?_,by rw [List.length_set];exact I.len⟩
 ·obtain ⟨sl,e1⟩:=I.base.slot b o e n hb hx
  exact ⟨sl,(hs.2 b (ne b o e)).trans e1⟩
 ·obtain ⟨o',e1⟩:=I.base.there b o e hx
  exact ⟨o',(hs.2 b (ne b o e)).trans e1⟩
 ·by_cases hj:j=i
  ·subst hj
   rw [Ex hiσ] at e2;cases e2
  ·rw [ET (BU hj)] at e2
   obtain ⟨u',r',q⟩:=hl j y v' e1 e2 e3;refine ⟨u',r',?_⟩
   rcases q with ⟨k,e⟩|⟨k,c,e,z⟩
   ·refine .inl ⟨k,?_⟩
    have ny:y≠n:=λe=>hj (lY hN e1 (e▸hi));simp [ny,e]
   ·exact .inr ⟨k,c,e,z.sameBut hs (I.cne y c e)⟩
 ·obtain ⟨v',q⟩:=I.cell y c e
  exact ⟨v',q.sameBut hs (I.cne y c e)⟩
 ·obtain ⟨a1,a2,a3,a4⟩:=I.pin p hp
  exact ⟨(hs.2 p.1 a3).trans a1,a2,a3,a4⟩
 ·refine (I.hok b ob e).stay (λc w' hc q=>(hs.2 c ?_).trans q) (λ_ q=>q) λ_ _ q=>q
  intro z;rw [z] at hc
  rcases hc with hc|hc
  ·rw [<- hc,I.free] at e
   cases e
  ·rw [I.free] at hc
   cases hc
def tTry (K:Frag)(N j:Nat)(Dc:Addr)(tb:XK->TS):TS:=λD σ H=>tb (λcls dd H'=>∃ C,cls=.ref C/\ExK K C/\subIn K (.ref C) (.ref Dc)=some true/\∀ a,H' a=none->D.nx ((AR N none).set j (some (.ref a))) (upd H' a (excD a C dd))) D σ H
end
def xiIn (K:Frag)(C P f:Addr):Bool:=match K.lookup C with
 |some ⟨.type "type",_,.cls cd,sl⟩=>(match cd.mro,sl.toList with
  |.ref C'::.ref P'::bm,[_,_,_,_,some (.builtin n),_]=>C'==C&&P'==P&&n == "ValueError.__new__" && !cd.hasDel&&cd.hasDict&&tailIn K bmV (.ref P'::bm)&&nsOkIn K cd.ns&&nsIn K cd.ns "__init__" == some (some (.ref f))&&bm==bmV
  |_,_=>false)
 |_=>false
structure ClsI (h:Heap)(C P f:Addr):Prop where
 ex:∃ (nm q:Str) (N:Addr) (bs:List Value) (sn:List Str) (sub:List Value) (ab:Bool) (col:Option Bool) (dd:Option Addr) (k0 k1 k2 k3 k5:Option Value) (mN:Str->Option Value),
  h.get? C=some (excClassObj nm q C N bs (.ref P::bmV) true sn sub ab col dd k0 k1 k2 k3 k5 "ValueError.__new__")/\h.Ns N mN/\mN "__init__" = some (.ref f)/\OwnTail h bmV (.ref P::bmV)
def iD {K:Frag}{h:Heap}{N:Addr}{x:Str}{v:Value}(X:K.In h)(hok:nsOkIn K N=true)(e:nsIn K N x=some (some v)):h.nsMap N x=some v:=by
 have G:h.Ns N (h.nsMap N):=.of_isNs (isNs_of_in X hok);obtain ⟨o,es,ep,ho,hd,_,hf⟩:=G;unfold nsIn at e;split at e
 ·rename_i c d es' n' sl q
  have z:=X _ _ q;rw [ho] at z;cases z;cases hd;split at e
  ·rename_i en he
   cases e;rw [<- hf];unfold nsFind findBy;rw [<- Array.find?_toList,he];rfl
  ·split at e<;>cases e
 ·cases e
def jS {K:Frag}{h:Heap}{C P f:Addr}(X:K.In h)(q:xiIn K C P f=true):ClsI h C P f:=by
 unfold xiIn at q;split at q
 case h_2=>cases q
 case h_1 dd cd sl ho=>
  split at q
  case h_2=>cases q
  case h_1 C' P' bm k0 k1 k2 k3 n k5 hm hs=>
   simp only [BV,beq_iff_eq,Bool.not_eq_true'] at q;obtain ⟨⟨⟨⟨⟨⟨⟨⟨e1,e0⟩,e2⟩,hdel⟩,hdi⟩,ht⟩,hok⟩,hni⟩,e3⟩:=q;cases e1;cases e0;cases e2;cases e3;obtain ⟨nm,bs,mro,ns,qn,hd,sn,sub,ab,col,del⟩:=cd;obtain ⟨sl⟩:=sl;dsimp only at hm hdel hok hni hs hdi;subst hm hdel hs hdi;exact ⟨nm,qn,ns,bs,sn,sub,ab,col,dd,k0,k1,k2,k3,k5,_,X _ _ ho,.of_isNs (isNs_of_in X hok),iD X hok hni,tail_of_in X ht⟩
section
variable {prog:AF}{w:World}{A:Around}{E:Value->Shared->Prop}{h:Heap}{g:Array GenState}{d:Drawn}{t:Nat}{os:OsState}{K:Frag}{C P f:Addr}
abbrev gB (h:Heap)(C:Addr)(rest:List Value):Heap:=(h.push { cls:=.type "tuple",data:=.seq rest.toArray }).push { cls:=.ref C,data:=.fields #[.ref h.objs.size,.none,.none,.none,.bool false,.none] }
def mE {rest:List Value}(X:K.In h)(I:ClsI h C P f)(hf:typeIn K (.ref f)=some (.type "function"))(hrest:rest.length<=AE)(hq:DE (model prog w) A (.call (.ref f) ⟨.ref (h.objs.size+1)::rest,[]⟩) (λr s'=>match r with
   |.ok (.ret v)=>v=.none/\Q (.done (.ret (.ref (h.objs.size+1)))) s'
   |.ok _=>False
   |.error e=>E e s') ⟨gB h C rest,g,d,t,os⟩) :
  wpAny (model prog w) A (AU.«type.__call__» ⟨.ref C::rest,[]⟩) Q E ⟨h,g,d,t,os⟩:=by
 obtain ⟨nm,q,N,bs,sn,sub,ab,col,dd,k0,k1,k2,k3,k5,mN,hC,hn,hni,T⟩:=I.ex;have F:=PySem.F.excBase_ValueError
 repeat (first|with_reducible refine Bl hC ?_|with_reducible refine wpAny_madeBy_exc hC ?_|wp_step)
 refine codeAny_call_builtin_code (Fh _ F.quiet) (wpAny_check_new_subU F F.hasB T hC ?_);refine codeAny_exc_new_subU F F.hasB F T hC ?_ hrest;show wpAny _ _ _ _ _ _;have keep:∀ b o,h.get? b=some o->(gB h C rest).get? b=some o:=λb o e=>Ae _ (Ae _ e);have hC1:=keep _ _ hC;have hn1:(gB h C rest).Ns N mN:=hn.keeps keep;have hget:(gB h C rest).get? (h.objs.size+1)=some { cls:=.ref C,data:=.fields #[.ref h.objs.size,.none,.none,.none,.bool false,.none] }:=by unfold gB;heap_get
 have hcC:(AN C::AN P::bmV).contains (.ref C)=true:=by simp
 have T1:=T.keeps keep;have B1:=bind_fn (M:=model prog w) (X.keeps keep) (.ref (h.objs.size+1)) hf;unfold isInstance
 repeat (first|with_reducible refine Bl hget ?_|(with_reducible refine wpAny_isSubtype_exc hC1 ?_;rw [hcC])|wp_step)
 show wpAny _ _ (typeLookup (.ref C) _) _ _ _;refine wpAny_typeLookup_tail hC1 hn1 T1 F.mroIs F.init.lookup ?_;rw [hni];refine BE (Aa (B1.at ?_));refine Aa (EM (CZ hq λr s' z=>?_));cases r with
 |error e=>exact z
 |ok fl=>
  cases fl with
  |ret v=>
   obtain ⟨rfl,z⟩:=z;exact Ag (Ag z)
  |next=>exact z.elim
  |brk=>exact z.elim
  |cont=>exact z.elim
def aA9 {rest:List Value}(X:K.In h)(I:ClsI h C P f)(hf:typeIn K (.ref f)=some (.type "function"))(hrest:rest.length<=AE)(hq:DE (model prog w) (A.under (.builtin "type.__call__" ⟨.ref C::rest,[]⟩)) (.call (.ref f) ⟨.ref (h.objs.size+1)::rest,[]⟩) (InitBack (h.objs.size+1) R) ⟨gB h C rest,g,d,t,os⟩) :
  DE (model prog w) A (.call (.ref C) ⟨rest,[]⟩) R ⟨h,g,d,t,os⟩:=by
 obtain ⟨nm,q,N,bs,sn,sub,ab,col,dd,k0,k1,k2,k3,k5,mN,hC,hn,hni,T⟩:=id I.ex;have f1:=tc_lookup;have f2:=tc_bind (.ref C);have hT:(⟨h,g,d,t,os⟩:Shared).TypeIs (.ref C) "type":=⟨_,hC,rfl⟩;refine codeAny_of_tree ?_;show wpAny _ _ (callAny (.ref C) _) _ _ _
 repeat (any_goals (first|assumption|with_reducible refine Bl hC ?_|wp_step))
 refine ⟨rfl,?_⟩;refine codeAny_call_builtin_at (Fh _ (by decide +kernel)) entry_typeCall (wpAny_check_type_call_sub hC (mE X I hf hrest (CZ hq λr s' z=>?_)));cases r with
 |error e=>exact z
 |ok fl=>
  cases fl with
  |ret v=>exact z
  |next=>exact z.elim
  |brk=>exact z.elim
  |cont=>exact z.elim
end
def exN (a C:Addr)(dd:Option Addr):HO:=.ext λh=>∃ o t,(h.get? a=some o/\o.cls=.ref C/\o.dict=dd)/\o.data=.fields #[t,.none,.none,.none,.bool false,.none]
def rem (H:Hp)(a:Addr):Hp:=λb=>if b=a then none else H b
theorem mZ {a b:Addr}(h:b≠a):rem H a b=H b:=by unfold rem;rw [if_neg h]
theorem lT {a:Addr}:rem H a a=none:=by unfold rem;rw [if_pos rfl]
section
variable {X:Cx}{pins:List (Addr×Obj)}{σ:St}{H:Hp}{s:Shared}
def Inv.drop (I:Inv X pins σ H s){a:Addr}{φ:Heap->Prop}(ha:H a=some (.ext φ)):Inv X pins σ (rem H a) s:=by
 have nn:∀ b,H b=none->rem H a b=none:=λb h=>by
  by_cases z:b=a
  ·rw [z];exact lT
  ·rw [mZ z];exact h
 have oo:∀ b o,H b=some o->(∀ ψ,o≠.ext ψ)->rem H a b=some o:=λb o h n=>by
  by_cases z:b=a
  ·subst z;rw [h] at ha;cases ha;exact absurd rfl (n φ)
  ·rw [mZ z];exact h
 refine ⟨I.ok,I.os,I.bare,⟨I.base.keep,I.base.slot,λb o e n hx=>nn b (I.base.free b o e n hx),I.base.there,λb xs e=>oo b _ (I.base.tups b xs e) (λ_ z=>by cases z),λb o x e=>oo b _ (I.base.frzs b o x e) (λ_ z=>by cases z),λb ps e=>?_⟩,I.loc,I.cell,nn _ I.free,λx c e=>nn _ (I.freeC x c e),λp hp=>?_,λb o e=>?_,I.len⟩
 ·obtain ⟨m,z⟩:=I.base.tbls b ps e
  exact ⟨m,oo b _ z (λ_ q=>by cases q)⟩
 ·obtain ⟨a1,a2,a3⟩:=I.pin p hp
  exact ⟨a1,nn _ a2,a3⟩
 ·by_cases z:b=a
  ·rw [z,lT] at e;cases e
  ·rw [mZ z] at e
   exact (I.hok b o e).stay (λ_ _ _ q=>q) (λc q=>oo c _ q (λ_ z=>by cases z)) (λc xs q=>oo c _ q (λ_ z=>by cases z))
def Inv.exnew (I:Inv X pins σ H s)(C:Addr)(us:List Value):Inv X pins σ (upd H (s.heap.objs.size+1) (exN (s.heap.objs.size+1) C none)) { s with heap:=gB s.heap C us }:=by
 refine I.laid (a:=s.heap.objs.size+1) (t':=s.toks) (λb u e=>Ae _ (Ae _ e)) (Cb _) ?_;have hget:(gB s.heap C us).get? (s.heap.objs.size+1)=some { cls:=.ref C,data:=.fields #[.ref s.heap.objs.size,.none,.none,.none,.bool false,.none] }:=by unfold gB;heap_get
 exact ⟨⟨_,_,⟨hget,rfl,rfl⟩,rfl⟩,⟨_,hget⟩,λh1 h2 ⟨o,t,⟨e1,e2,e3⟩,e4⟩ k=>⟨o,t,⟨k o e1,e2,e3⟩,e4⟩⟩
def tI {M:Model}{A:Around}{E:Value->Shared->Prop}{env:Env}{x:Sem Value}{C:Addr}{K:Frag}{s:Shared}{Q:Flow->Shared->Prop}(hh:A.handled=none)(F:ExK K C)(hk:∃ oC,K.lookup C=some oC/\oC.cls=.type "type")
  (h:wpAny M A x (λv s₁=>K.In s₁.heap/\∃ e ob us,v=.ref e/\s₁.heap.get? e=some ob/\ob.cls=.ref C/\ob.data=.fields us/\us[1]?=some .none/\E (.ref e) s₁) E s):wpAny M A (raiseStmt env (some x) none) Q E s:=by
 unfold raiseStmt;refine Aa (BH h (λv s₁ h₁=>?_) λ_ _ x=>x);obtain ⟨KX,e,ob,us,rfl,he,hc,hd,h1,hE⟩:=h₁;obtain ⟨hp,g,d,tk,os⟩:=s₁;have L1:=looks_subIn (M:=M) KX F.sb;obtain ⟨⟨cC,dC,tC,sC⟩,hkC,hkc⟩:=hk;have hC:=KX _ _ hkC;dsimp only at hkc;subst hkc;obtain ⟨oc,od,odt,osl⟩:=ob;dsimp only at hc hd;subst hc hd;have h1':=h1
 repeat (first|with_reducible refine Bl he ?_|with_reducible refine Bl hC ?_|with_reducible refine L1.at ?_|wp_step)
 rw [h1];refine Ag ?_;rw [if_neg (by decide)];exact Ag (wpAny_raiseNew_none hh hE)
end
def yQ {K:Frag}{C P f:Addr}(q:xiIn K C P f=true):∃ oC,K.lookup C=some oC/\oC.cls=.type "type":=by
 unfold xiIn at q;split at q
 ·rename_i ho
  exact ⟨_,ho,rfl⟩
 ·cases q
structure ExI (K:Frag)(C P f:Addr):Prop where
 xi:xiIn K C P f=true
 fn:typeIn K (.ref f)=some (.type "function")
 kp:keepIn K (.ref C)=true
 k:ExK K C
def aCm (C:Addr)(sp:Sp)(E:XK)(t:TA):TS:=λ_ σ H=>t σ H λvs H1=>vs.length<=AE/\∀ e,H1 e=none ->
 sp (.ref e::vs) (upd H1 e (exN e C none)) (λv H2=>v=.non/\∃ dd,H2 e=some (exN e C dd)/\E (.ref C) dd (rem H2 e)) E0
section
variable {X:Cx}
def nI {x:Str}{C P f:Addr}{fd:AM}{ps:List Str}{sp:Sp}{k:Nat}{e₀:Expr}{es:List Expr}{t:TA}{E:XK}{np cpos pos:Pos}(hex:X.ex=[])(hX:XeOk X E)(hc:X.calm=true)(hr:Room (k+1) X.A)(hg:Gl X x)(hm:X.mg x=some (.ref C))(hei:ExI X.K C P f)
  (F:FnOk X.prog X.w X.K X.mg X.base CX0 k f fd ps sp) (hb:Binds X.K fd ps []) (ha:PA X (e₀::es) t)
  (hdb:(x==("__debug__":Str))=false:=by decide) (he:AV (e₀::es) X.env=(false,eval e₀ X.env)::AV es X.env:=by rfl) (hpl:(backTo cpos (AV es X.env)).any (·.1)=false:=by rfl) :
  PS X (.Raise (some (.Call (.Name x np) (e₀::es) [] cpos)) none pos) (aCm C sp E t):=by
 intro pins s σ H D I h;rw [arm_exec_Raise];refine Aa (Fb (tI (C:=C) (K:=X.K) (I.ok.hd hc) hei.k (yQ hei.xi) ?_));refine Aa (thn (Q:=λv s₁=>X.K.In s₁.heap/\∃ e ob us,v=AN e/\s₁.heap.get? e=some ob/\ob.cls=.ref C/\ob.data=.fields us/\us[1]?=some .none/\X.xe (.ref e) s₁) ?_ λv s1 q=>Aa (Fb (Ag q)));refine CB (fN I hg hm ?_ hdb);refine Ej (h₀:=X.base) I.ok.mod.kin hei.kp (thn (ha cpos pins s σ H _ I h) λus s1 ⟨vs,H1,I1,r,hl,q⟩=>⟨I1.kIn,?_⟩) he hpl;have hn:H1 (s1.heap.objs.size+1)=none:=I1.hok.fresh (Cb _);have hq:=q (s1.heap.objs.size+1) hn;have I2:=I1.exnew C us;have r2:Vals (V.ref (s1.heap.objs.size+1)::vs) (AN (s1.heap.objs.size+1)::us):=.cons rfl r;have hlen:(AN (s1.heap.objs.size+1)::us++[]).length=ps.length:=by
  have e:=r2.length;rw [F.len _ _ _ _ hq] at e;rw [AL];exact e.symm
 have n0:X.s₀.heap.get? (s1.heap.objs.size+1)=none:=I1.absent0 hex (EU (Cb _));obtain ⟨hh,g,d,tk,os⟩:=s1;refine EM (aA9 (f:=f) (P:=P) I1.kIn (jS I1.kIn hei.xi) hei.fn (by show us.length<=AE;rw [<- r.length];exact hl) (CZ (F.run _ X.stack _ _ ⟨AN (hh.objs.size+1)::us,[]⟩ (AN (hh.objs.size+1)::us) _ _ E0 (hr.make C us [])
  (I2.env0.make C us []) (by have z:=hb _ (AN (hh.objs.size+1)::us) I2.kIn hlen;rw [AL] at z;exact z) r2 hq) λr s' hq'=>?_))
 cases r with
 |error e=>exact hq'.elim
 |ok fl=>
  cases fl with
  |ret u=>
   obtain ⟨v,H',I3,rv,ev,dd,hd,hE⟩:=I2.after hq';subst ev;refine ⟨rv,?_⟩;obtain ⟨⟨o,t',⟨o1,o2,o3⟩,o4⟩,_⟩:=I3.hok _ _ hd;exact ⟨I3.kIn,_,o,_,rfl,o1,o2,o4,rfl,hX pins σ _ s' _ C o _ (I3.drop hd) lT n0 o1 o2 o4 rfl (by rw [o3];exact hE)⟩
  |next=>exact hq'.elim
  |brk=>exact hq'.elim
  |cont=>exact hq'.elim
end
end L2
namespace L2
open PySem PySem.Spec PyProof.Rows PySem.W PySem.Builtin PySem.Builtin.ObjectAttr
theorem tE (self:Value):refuseLoop self "__setattr__" bmV=pure ():=by
 kernel_rfl
section
variable {prog:AF}{w:World}{A:Around}{E:Value->Shared->Prop}{h:Heap}{g:Array GenState}{d:Drawn}{t:Nat}{os:OsState}{K:Frag}{C P f a:Addr}{o:Obj}{name:Str}{v:Value}
def hV (X:K.In h)(I:ClsI h C P f)(F:ExK K C)(sa:findIn K (.ref C) "__setattr__" = some (some (.builtin "object.__setattr__")))(nn:findIn K (.ref C) name=some none)(O:ExAt h a o C)(hq:∀ A' tk,wpAny (model prog w) A' (storeInOwnDict (.ref a) (.ref C) (.str name tk) name v false) (λfin s'=>∃ u,fin=.done (.ret u)/\Q () s') (λ_ _=>False) ⟨h,g,d,t+1,os⟩) :
  wpAny (model prog w) A (setAttr (.ref a) name v) Q E ⟨h,g,d,t,os⟩:=by
 obtain ⟨nm,q,N,bs,sn,sub,ab,col,dd,k0,k1,k2,k3,k5,mN,hC,hn,hni,T⟩:=I.ex;have SF:=PySem.F.store_object;have L1:=O.type (M:=model prog w);have L2':=looks_findIn (M:=model prog w) X sa;have L3:=looks_findIn (M:=model prog w) X nn;have L4:Looks (model prog w) h (isInstance (.ref a) (.type "object")) true:=L1.andThen (looks_subIn X F.so);refine Aa (wpAny_mkText (Aa (Aa (Aa (L1 _ _ _ _ (λ_ _ e=>e) (L2' _ _ _ _ (λ_ _ e=>e) (BE ?_)))))));rw [SF.slot.bind];refine Aa (Ag (Aa (EM ?_)));refine Dj SF.slot.plain SF.entry (@check_slot (model prog w) _ _ _ "object.__setattr__" "object" "__setattr__" (.ref a) [.str name t,v] [] _ SF.kind SF.split L4 (SF.args (.ref a) (.str name t) v) ?_);show wpAny _ _ (AU.«object.__setattr__» ⟨[.ref a,.str name t,v],[]⟩) _ _ _;rw [osa_eq,refuse_eq];refine Aa (Aa (L1.here (Aa (wpAny_mroOf_exc hC ?_))));rw [refuseLoop_ref,refuseLoop_ref,tE];refine Ag (Aa (L1.here (Aa (L3.here (Aa (Ag ?_))))));refine BH (hq _ t) (λfin s' z=>?_) λ_ _ z=>z.elim;obtain ⟨u,rfl,z⟩:=z;exact Ag (Ag z)
def xQ (I:ClsI h C P f)(O:ExAt h a o C)(hd:o.dict=none)(hf:o.data=.fields us)(hq:Q (some h.objs.size) ⟨(h.push { cls:=.type "dict",data:=.dict #[] }).update a λob=>{ ob with dict:=some h.objs.size },g,d,t,os⟩):wpAny (model prog w) A (instanceDict a true) Q E ⟨h,g,d,t,os⟩:=by
 obtain ⟨nm,q,N,bs,sn,sub,ab,col,dd,k0,k1,k2,k3,k5,mN,hC,hn,hni,T⟩:=I.ex;have hx:=O.at_;obtain ⟨oc,od,odt,osl⟩:=o;have hc:=O.cls;dsimp only at hd hf hc;subst hd hf hc;have hx1:(h.push { cls:=.type "dict",data:=.dict #[] }).get? a=some ⟨.ref C,none,.fields us,osl⟩:=Ae _ hx;unfold instanceDict
 repeat (first|with_reducible refine Bl hx ?_|with_reducible refine Bl hC ?_|wp_step)
 exact hq
def oE (I:ClsI h C P f)(O:ExAt h a o C)(hd:o.dict=some dx)(hq:Q (some dx) ⟨h,g,d,t,os⟩)(b:Bool):wpAny (model prog w) A (instanceDict a b) Q E ⟨h,g,d,t,os⟩:=by
 obtain ⟨nm,q,N,bs,sn,sub,ab,col,dd,k0,k1,k2,k3,k5,mN,hC,hn,hni,T⟩:=I.ex;have hx:=O.at_;obtain ⟨oc,od,odt,osl⟩:=o;have hc:=O.cls;dsimp only at hd hc;subst hd hc;unfold instanceDict
 repeat (first|with_reducible refine Bl hx ?_|with_reducible refine Bl hC ?_|wp_step)
 exact hq
def rC {tk:Tok}(hn:h.Ns1 dx mA)(hw:Within mA ns)(hz:ns.length<=100)(hq:∀ h' tk',h'.Ns1 dx (λy=>if y=name then some v else mA y)->(∀ b ob,b≠dx->h.get? b=some ob->h'.get? b=some ob)->Q (.done (.ret .none)) ⟨h',g,d,tk',os⟩) :
  wpAny (model prog w) A (storeInDict dx (.str name tk) name v) Q E ⟨h,g,d,t,os⟩:=by
 unfold storeInDict newKeyGuard;refine Aa (Ag (Aa (wpAny_nsSet1 hn λh' hn' hs=>?_)));obtain ⟨oD,esD,epD,hoD,hdD,hcD⟩:=hn'.count (Within.cons name v hw);refine Aa (wpAny_lookBehind hoD (by rw [hdD];exact pastItsLine_dict (Bh hcD (by rw [AI,Dx];omega))) ?_);exact Ag (hq h' _ hn' λb ob nb q=>(hs.2 b nb).trans q)
def qM (X:K.In h)(I:ClsI h C P f)(F:ExK K C)(sa:findIn K (.ref C) "__setattr__" = some (some (.builtin "object.__setattr__")))(nn:findIn K (.ref C) name=some none)(O:ExAt h a o C)(hd:o.dict=none)(hf:o.data=.fields us)(hq:∀ h' tk,h'.Ns1 h.objs.size (λy=>if y=name then some v else none)->h'.get? a=some { o with dict:=some h.objs.size }->(∀ b ob,b≠a->h.get? b=some ob->h'.get? b=some ob)->Q () ⟨h',g,d,tk,os⟩) :
  wpAny (model prog w) A (setAttr (.ref a) name v) Q E ⟨h,g,d,t,os⟩:=by
 refine hV X I F sa nn O λA' tk=>?_;have hx:=O.at_;have ne:a≠h.objs.size:=AG (Ar hx);have hx1:(h.push { cls:=.type "dict",data:=.dict #[] }).get? a=some o:=Ae _ hx;unfold storeInOwnDict;refine Aa (Ag ?_);show wpAny _ _ (ownDictForStores (.ref a) >>= _) _ _ _;refine Aa (xQ I O hd hf ?_);have hgd:((h.push { cls:=.type "dict",data:=.dict #[] }).update a λob=>{ ob with dict:=some h.objs.size }).get? h.objs.size=some { cls:=.type "dict",data:=.dict #[] }:=
  (Bg _ _ ne).trans (Heap.get?_push_at rfl rfl)
 have hga:((h.push { cls:=.type "dict",data:=.dict #[] }).update a λob=>{ ob with dict:=some h.objs.size }).get? a=some { o with dict:=some h.objs.size }:=by
  refine BB _ hx1 ?_;obtain ⟨oc,od,odt,osl⟩:=o;dsimp only at hf;subst hf;rfl
 have hnd:((h.push { cls:=.type "dict",data:=.dict #[] }).update a λob=>{ ob with dict:=some h.objs.size }).Ns h.objs.size (λ_=>none):=⟨_,#[],_,hgd,rfl,λe he=>absurd he (by simp),λ_=>rfl⟩;refine rC (Heap.Ns1.of_empty hnd) (ns:=[]) Within.nil (by decide) λh' tk' hn' hk=>⟨_,rfl,hq h' tk' hn' (hk a _ ne hga) λb ob nb q=>hk b ob (AG (Ar q)) ?_⟩;exact (Bg _ _ (BU nb)).trans (Ae _ q)
def oJ (X:K.In h)(I:ClsI h C P f)(F:ExK K C)(sa:findIn K (.ref C) "__setattr__" = some (some (.builtin "object.__setattr__")))(nn:findIn K (.ref C) name=some none)(O:ExAt h a o C)(hd:o.dict=some dx)(hn:h.Ns1 dx mA)(hw:Within mA ns)(hz:ns.length<=100)(hq:∀ h' tk,h'.Ns1 dx (λy=>if y=name then some v else mA y)->(∀ b ob,b≠dx->h.get? b=some ob->h'.get? b=some ob)->Q () ⟨h',g,d,tk,os⟩) :
  wpAny (model prog w) A (setAttr (.ref a) name v) Q E ⟨h,g,d,t,os⟩:=by
 refine hV X I F sa nn O λA' tk=>?_;unfold storeInOwnDict;refine Aa (Ag ?_);show wpAny _ _ (ownDictForStores (.ref a) >>= _) _ _ _;refine Aa (oE I O hd ?_ true);exact rC hn hw hz λh' tk' hn' hk=>⟨_,rfl,hq h' tk' hn' hk⟩
def mF {tk:Tok}(X:K.In h)(I:ClsI h C P f)(nn:findIn K (.ref C) name=some none)(O:ExAt h a o C)(hd:o.dict=some dx)(hf:o.data=.fields us)(hn:h.Ns dx mA)(hv:mA name=some v)(hq:Q (.done (.ret v)) ⟨h,g,d,t,os⟩):wpAny (model prog w) A (AU.«object.__getattribute__» ⟨[.ref a,.str name tk],[]⟩) Q E ⟨h,g,d,t,os⟩:=by
 have L1:=O.type (M:=model prog w);have L3:=looks_findIn (M:=model prog w) X nn;have hx:=O.at_;have hc:=O.cls;refine Aa (Ag (Aa (Ag ?_)));refine Aa (L1.here (Aa ?_));unfold find;refine Aa (L3.here ?_);refine Aa (Ag ?_);refine Aa (Ag ?_);unfold ownThenClass inOwnDict ObjectAttr.ownDict;refine Aa (Aa ?_);refine Aa (Bl hx ?_);rw [hf];refine oE I O hd ?_ false;refine wpAny_nsGet hn ?_;rw [hv];exact Aa (Dp (Ag (Ag hq)))
def oK {tk:Tok}(X:K.In h)(I:ClsI h C P f)(F:ExK K C)(nn:findIn K (.ref C) name=some none)(O:ExAt h a o C)(hd:o.dict=some dx)(hf:o.data=.fields us)(hn:h.Ns dx mA)(hv:mA name=some v)(hq:R (.ok (.ret v)) ⟨h,g,d,t,os⟩):DE (model prog w) A (.call (.builtin "BaseException.__getattribute__") ⟨[.ref a,.str name tk],[]⟩) R ⟨h,g,d,t,os⟩:=
 Dj Ek.ga.plain PySem.F.entry_bexc_ga (hZ X F O (mF X I nn O hd hf hn hv hq))
def uC {tk:Tok}{fill expr:Bool}(X:K.In h)(I:ClsI h C P f)(F:ExK K C)(nn:findIn K (.ref C) name=some none)(O:ExAt h a o C)(hd:o.dict=some dx)(hf:o.data=.fields us)(hn:h.Ns dx mA)(hv:mA name=some v)(hh:handedIn v=true)(hq:Q v ⟨h,g,d,t,os⟩):wpAny (model prog w) A (getAttrBy (.ref a) (.str name tk) fill expr) Q E ⟨h,g,d,t,os⟩:=by
 have f3:=Ek.ga.bind (.ref a);have hx0:(expr&&onTheHeap (Cn "BaseException.__getattribute__"))=false:=by cases expr<;>rfl
 have hx2:(Cn "BaseException.__getattribute__" == Cn "object.__getattribute__")=false:=by decide +kernel
 have hx1:(onTheHeap (AN C)&&Cn "BaseException.__getattribute__" == Cn "object.__getattribute__")=false:=by rw [hx2];rfl
 have L1:=looks_findIn (M:=model prog w) X F.ga;have L2':=looks_findIn (M:=model prog w) X F.gt;have hx:=O.at_;have hc:=O.cls
 repeat (any_goals (first|assumption|(with_reducible refine Bl hx ?_;rw [hc])|with_reducible refine L1.at ?_|with_reducible refine L2'.at ?_|wp_step))
 refine oK X I F nn O hd hf hn hv ?_
 repeat (any_goals (first|assumption|exact handed_on hh hq|wp_step))
end
structure ExF (K:Frag)(C P f:Addr)(x:Str):Prop where
 i:ExI K C P f
 sa:findIn K (.ref C) "__setattr__" = some (some (.builtin "object.__setattr__"))
 nn:findIn K (.ref C) x=some none
def xdE (a:Addr)(fs:List (Str×V)):HO:=.ext λh=>∃ mA,h.Ns1 a mA/\(∀ g,RelO (fs.lookup g) (mA g))/\Within mA (fs.map (·.1))
def aBk {a:Addr}{fs:List (Str×V)}(n:h.Ns1 a mA)(r:∀ g,RelO (fs.lookup g) (mA g))(wi:Within mA (fs.map (·.1))):ObjOk P w H h a (xdE a fs):=by
 obtain ⟨o,es,ep,e,q⟩:=id n;exact ⟨⟨mA,n,r,wi⟩,⟨o,e⟩,λh1 h2 ⟨m,n1,r1,w1⟩ k=>⟨m,n1.at k,r1,w1⟩⟩
def aB8 {a C:Addr}{dd:Option Addr}{t:Value}(e:h.get? a=some o)(c:o.cls=.ref C)(dq:o.dict=dd)(fd:o.data=.fields #[t,.none,.none,.none,.bool false,.none]):ObjOk P w H h a (exN a C dd):=
 ⟨⟨o,t,⟨e,c,dq⟩,fd⟩,⟨o,e⟩,λh1 h2 ⟨o,t,⟨e1,e2,e3⟩,e4⟩ k=>⟨o,t,⟨k o e1,e2,e3⟩,e4⟩⟩
section
variable {X:Cx}{pins:List (Addr×Obj)}{σ:St}{H:Hp}{s:Shared}{o e value:Expr}{x:Str}{pos pos':Pos}{ta tv:TE}{C P f:Addr}
def Inv.trackNew (I:Inv X pins σ H s)(I':Inv X pins σ H' s'){a:Addr}{u:HO}(hex:X.ex=[])(n:s.heap.get? a=none)(hn:H' a=none)(ok:ObjOk X.prog X.w (upd H' a u) s'.heap a u):Inv X pins σ (upd H' a u) s':=by
 refine I'.track hn (I.absent0 hex n) (λz=>?_) (λy c q z=>?_) (λp q z=>?_) ok
 ·obtain ⟨m,⟨oL,_,_,hoL,_⟩,_⟩:=I.loc
  rw [<- z,n] at hoL;cases hoL
 ·obtain ⟨v,o,ho,_⟩:=I.cell y c q
  rw [z,n] at ho;cases ho
 ·have:=(I.pin p q).1
  rw [z,n] at this;cases this
def sExN (K:Frag)(C P f:Addr)(ta tv:TE)(x:Str):TS:=λD σ H=>tv σ H λy H1=>ta σ H1 λz H2=>∃ a,z=.ref a/\H2 a=some (exN a C none)/\ExF K C P f x /\
 ∀ dx,H2 dx=none->dx≠a->D.nx σ (upd (upd H2 a (exN a C (some dx))) dx (xdE dx [(x,y)]))
def aBs (hex:X.ex=[])(ha:PE X o ta)(hv:PE X value tv)(hs:swapsWith value (some (.Attribute o x pos')) pos.line X.env=pure false):PS X (.Assign [.Attribute o x pos'] value pos) (sExN X.K C P f ta tv x):=by
 intro pins s σ H D I h;refine EN (thn (hv pins s σ H _ I h) λu s1 ⟨y,H1,I1,ry,q⟩=>thn (ha pins s1 σ H1 _ I1 q) λov s2 ⟨z,H2,I2,rx,a,ez,ea,F,q2⟩=>?_) hs;subst ez;obtain rfl:ov=AN a:=rx;obtain ⟨⟨ob,t',⟨o1,o2,o3⟩,o4⟩,_⟩:=I2.hok _ _ ea;have nz:s2.heap.get? s2.heap.objs.size=none:=EU (Ao _);have Hz:H2 s2.heap.objs.size=none:=I2.hok.fresh (Ao _);have ne:s2.heap.objs.size≠a:=Nat.ne_of_gt (Ar o1);obtain ⟨hh,g,d,tk,os⟩:=s2;refine qM I2.kIn (jS I2.kIn F.i.xi) F.i.k F.sa F.nn ⟨o1,o2⟩ o3 o4 λh' tk' hn' ga ks=>?_;have J1:Inv X pins σ (upd H2 a (exN a C (some hh.objs.size))) ⟨h',g,d,tk',os⟩:=by
  refine I2.write (x:=a) (e:=a) (t':=tk') (by rw [ea];exact DN) (.inl rfl) ks ⟨_,ga⟩ ?_;exact aB8 ga o2 rfl o4
 have J2:=I2.trackNew J1 (a:=hh.objs.size) (u:=xdE hh.objs.size [(x,y)]) hex nz (by rw [aE ne];exact Hz) (aBk hn' (λg=>?_) (λg hg=>?_))
 ·exact ⟨σ,_,J2,q2 _ Hz ne⟩
 ·by_cases z:g=x
  ·subst z
   simp only [Dl,beq_self_eq_true,if_true];exact ry
  ·have:([(x,y)]:List (Str×V)).lookup g=none:=by
    simp only [Dl];rw [beq_eq_false_iff_ne.mpr z]
   rw [this,if_neg z];exact DN
 ·by_cases z:g=x
  ·rw [z];simp
  ·rw [if_neg z] at hg
   exact absurd rfl hg
end
section
variable {prog:AF}{w:World}{A:Around}{E:Value->Shared->Prop}{h:Heap}{g:Array GenState}{d:Drawn}{t:Nat}{os:OsState}{K:Frag}{C P f a:Addr}{o:Obj}{v:Value}
def uK {rest:List Value}(I:ClsI h C P f)(O:ExAt h a o C)(hf:o.data=.fields us)(h0:us[0]?=some a0)(hz:rest.length<=AE)(hq:Q .none ⟨(h.push { cls:=.type "tuple",data:=.seq rest.toArray }).update a (DT (·.setIfInBounds 0 (.ref h.objs.size))),g,d,t,os⟩) :
  wpAny (model prog w) A (call (.builtin "ValueError.__init__") (.ref a::rest)) Q E ⟨h,g,d,t,os⟩:=by
 obtain ⟨nm,q,N,bs,sn,sub,ab,col,dd,k0,k1,k2,k3,k5,mN,hC,hn,hni,T⟩:=I.ex;have F:=PySem.F.excBase_ValueError;have z0:0<us.size:=(Cg.mp h0).1;have g1:=Ae (h:=h) { cls:=.type "tuple",data:=.seq rest.toArray } O.at_;refine EM (Dj F.init.plain F.initEntry (wpAny_check_init_subU F T hC O.at_ O.cls ?_));unfold AU.«BaseException.__init__»;dsimp only;rw [if_neg (by simp)];unfold newTuple AU.BaseException.bexcPut;refine Aa (Be ?_ (by show rest.toArray.size<=AE;rw [Ai];exact hz));refine Aa (Aa (Ct g1 hf h0 (Aa (EV g1 hf z0 ?_))));split
 ·refine wpAny_letGo ?_
  exact Ag hq
 ·exact Ag (Ag hq)
end
structure BaseI (K:Frag)(P:Addr):Prop where
 rd:readsIn K P (.type "type")=true
 fc:findCls K (.ref P) (.type "type") "__init__" = some (.val (.builtin "ValueError.__init__"))
 ga:specialIn K (.ref P) "__getattribute__" = some (some (.builtin "type.__getattribute__"))
section
variable {X:Cx}{C P f:Addr}{x:Str}{p apos pos:Pos}{e₁ e₂:Expr}{t:TA}
def aE1 (K:Frag)(P:Addr)(t:TA):TE:=λσ H Q=>t σ H λvs H1=>∃ a C dd f txt,vs=[.ref a,.str txt]/\H1 a=some (exN a C dd)/\ExI K C P f/\Q .non H1
theorem aEs {a:Addr}(h:H a=some o):upd H a o=H:=by
 funext b
 by_cases z:b=a
 ·rw [z,aB,h]
 ·rw [aE z]
def rQ {pl:Sem Bool}(hg:Gl X x)(hm:X.mg x=some (.ref P))(B:BaseI X.K P)(ha:PA X [e₁,e₂] t)(hdb:(x==("__debug__":Str))=false:=by decide)
  (hst:AV [e₁,e₂] X.env=(false,eval e₁ X.env)::AV [e₂] X.env:=by rfl) (hpl:(backTo pos (AV [e₂] X.env)).any (·.1)=false:=by rfl)
  (ht:eval (.Call (.Attribute (.Name x p) "__init__" apos) [e₁,e₂] [] pos) X.env=(do
   let ov <- eval (.Name x p) X.env
   standAt apos.atName
   let (f,first) <- holding [ov] (getMethod ov "__init__" pl)
   callWith pos f first (backTo pos (AV [e₁,e₂] X.env)) (backToKw pos (Dy [] X.env))):=by rfl) :
  PE X (.Call (.Attribute (.Name x p) "__init__" apos) [e₁,e₂] [] pos) (aE1 X.K P t):=by
 intro pins s σ H Q I h;refine PySem.W.methodCall_KW (pl:=pl) (fN I hg hm ?_ hdb) ht;refine method_cls I.kIn B.ga (cls_value I.kIn B.rd B.fc rfl ?_);have I0:=I.tok (s.toks+1);have hA:=ha pos pins _ σ H _ I0 h;rw [hst] at hA ⊢;refine Du (by show (false||(backTo pos (AV [e₂] X.env)).any (·.1))=false;rw [hpl]<;>rfl) (EL (thn hA λus s2 ⟨vs,H2,I2,r2,a,C,dd,f,txt,e1,ea,F,q2⟩=>?_));subst e1;obtain ⟨u1,u2,rfl,ra,rt⟩:=r2.two;obtain rfl:u1=AN a:=ra;obtain ⟨⟨ob,t',⟨o1,o2,o3⟩,o4⟩,_⟩:=I2.hok _ _ ea;obtain ⟨hh,g,d,tk,os⟩:=s2;refine uK (jS I2.kIn F.xi) ⟨o1,o2⟩ o4 rfl zLn1 ?_;have g1:=Ae (h:=hh) { cls:=.type "tuple",data:=.seq [u2].toArray } o1;have d1:=Eu o4 (·.setIfInBounds 0 (AN hh.objs.size));have g2:=BB (DT (·.setIfInBounds 0 (AN hh.objs.size))) g1 (EG d1);have J:Inv X pins σ (upd H2 a (exN a C dd)) ⟨(hh.push { cls:=.type "tuple",data:=.seq [u2].toArray }).update a (DT (·.setIfInBounds 0 (.ref hh.objs.size))),g,d,tk,os⟩:=by
  refine I2.write (x:=a) (e:=a) (t':=tk) (by rw [ea];exact DN) (.inl rfl) (λb u nb q=>?_) ⟨_,g2⟩ ?_
  ·exact (Bg _ _ (BU nb)).trans (Ae _ q)
  ·exact aB8 g2 ((Obj.cls_mapFields _ _).trans o2) ((yA _ _).trans o3) d1
 rw [aEs ea] at J;exact ⟨.non,H2,J,rfl,q2⟩
def tExF (K:Frag)(ta:TE)(x:Str):TE:=λσ H Q=>ta σ H λz H1=>∃ a C P f dx fs v,z=.ref a/\H1 a=some (excD a C (some dx))/\H1 dx=some (xdE dx fs)/\ExF K C P f x/\fs.lookup x=some v/\Q v H1
def jB {e:Expr}{ta:TE}(he:PE X e ta)(hb:Ee e x X.env (eval e X.env)=eval e X.env):PE X (.Attribute e x pos) (tExF X.K ta x):=by
 intro pins s σ H Q I h;refine yN hb (thn (he pins s σ H _ I h) λu s1 ⟨z,H1,I1,rx,a,C,P,f,dx,fs,v,ez,ea,ed,F,l,q⟩=>?_);subst ez;obtain rfl:u=AN a:=rx;obtain ⟨⟨ob,O,od,us,ou⟩,_⟩:=I1.hok _ _ ea;obtain ⟨⟨mA,n1,r1,_⟩,_⟩:=I1.hok _ _ ed;obtain ⟨w',hw,rw'⟩:=RelO.some_of (by rw [<- l];exact r1 x);unfold getAttr;refine Aa (wpAny_mkText ?_);have I2:=I1.tok (s1.toks+1);obtain ⟨hh,g,d,tk,os⟩:=s1;exact uC I1.kIn (jS I1.kIn F.i.xi) F.i.k F.nn O od ou n1.ns hw (oF rw') ⟨v,H1,I2,rw',q⟩
end
end L2
namespace L2
open PySem PySem.Spec PyProof.Rows PySem.W
def FmtV:V->Str->Prop
 |.int i,x=>i.natAbs.log2<1920/\x=(toString i:String)
 |.str y,x=>y.length<=AE/\x=y
 |.non,x=>x = "None"
 |_,_=>False
def tFmt (ta:TE):TE:=λσ H Q=>ta σ H λv H1=>∃ x,FmtV v x/\Q (.str x) H1
abbrev TJ:=Str->St->Hp->(Str->Hp->Prop)->Prop
def PJ (X:Cx)(es:List Expr)(t:TJ):Prop:=
 ∀ (acc:Str) (pins:List (Addr×Obj)) (s:Shared) (σ:St) (H:Hp) (Q:Str->Hp->Prop),Inv X pins σ H s->t acc σ H Q->wpAny (model X.prog X.w) X.A (joinParts acc (evalEach es X.env)) (EP X pins σ λv H'=>∃ x,v=.str x/\Q x H') X.xe s
def jNil:TJ:=λacc _ H Q=>acc.length<=AE/\Q acc H
def aHc (te:TE)(tr:TJ):TJ:=λacc σ H Q=>te σ H λv H1=>∃ x,v=.str x/\(acc++x).length<=AE/\tr (acc++x) σ H1 Q
def aGu (t:TJ):TE:=λσ H Q=>t Str.empty σ H λx H'=>Q (.str x) H'
section
variable {X:Cx}{value e e':Expr}{es:List Expr}{ta te:TE}{tr t:TJ}{pos:Pos}
def rM (ha:PE X value ta):PE X (.FormattedValue value (-1) none pos) (tFmt ta):=by
 intro pins s σ H Q I h;refine FormattedValue_plain (thn (ha pins s σ H _ I h) λu s1 ⟨v,H1,I1,rv,x,fx,q⟩=>?_);cases v with
 |int i=>
  obtain ⟨t,rfl⟩:=rv;obtain ⟨hl,rfl⟩:=fx;exact formatField_int_small hl ⟨.str _,H1,I1.tok _,⟨_,rfl⟩,q⟩
 |str y=>
  obtain ⟨t,rfl⟩:=rv;obtain ⟨hl,rfl⟩:=fx;exact formatField_str (λt' tk=>⟨.str x,H1,I1.tok _,⟨_,rfl⟩,q⟩) hl
 |non=>
  cases rv;cases fx;exact wpAny_formatField_none ⟨.str _,H1,I1.tok _,⟨_,rfl⟩,q⟩
 |bl _=>exact fx.elim
 |byt _=>exact fx.elim
 |flt _=>exact fx.elim
 |ref _=>exact fx.elim
 |ty _=>exact fx.elim
def aBt:PJ X [] jNil:=λacc pins s σ H Q I h=>joinParts_nil ⟨.str acc,H,I.tok _,⟨_,rfl⟩,acc,rfl,h.2⟩ h.1
def dR (he:PE X e te)(hr:PJ X es tr):PJ X (e::es) (aHc te tr):=by
 intro acc pins s σ H Q I h;show wpAny _ _ (joinParts acc (eval e X.env::evalEach es X.env)) _ _ _;refine joinParts_cons (thn (he pins s σ H _ I h) λu s1 ⟨v,H1,I1,rv,x,ev,hz,q⟩=>?_);subst ev;obtain ⟨t,rfl⟩:=rv;exact ⟨hz,hr _ pins s1 σ H1 Q I1 q⟩
def vW (h:PJ X (e::e'::es) t):PE X (.JoinedStr (e::e'::es) pos) (aGu t):=by
 intro pins s σ H Q I hw;refine JoinedStr_many (thn (h _ pins s σ H _ I hw) λu s1 ⟨v,H1,I1,rv,x,ev,q⟩=>?_);subst ev;exact ⟨.str x,H1,I1,rv,q⟩
end
def Its (x:Str):It:=⟨λi _=>∃ c,x.cps[i]?=some c,λi H v H'=>H'=H/\∃ c,x.cps[i]?=some c/\v=.str ⟨#[c]⟩,λi _=>x.cps[i]?=none⟩
def yT {P:AF}{w:World}{K:Frag}{tg:Expr}(x:Str)(t:Tok)(it:Addr)(b:Bool) :
  Turn P w K tg (Its x) [it] it (λi h=>h.IsStrIter it (if b then "str_ascii_iterator" else "str_iterator") x t i) where
 mem:=by simp
 obj:=λi h st a ha=>by
  have e:a=it:=by simpa using ha
  subst e;obtain ⟨o,e,c,d⟩:=st;exact ⟨o,e,λv z=>by rw [d] at z;cases z⟩
 keep:=λi h h' ⟨o,e,r⟩ k=>⟨o,k it (by simp) o e,r⟩
 item:=by
  intro X hP hw hK hc i pins s σ H E I hf st hg;subst hP hw hK;obtain ⟨c,hx⟩:=hg;obtain ⟨f0,f1,f2,f3,f4,f5⟩:=hf it (by simp);have go:∀ h',h'.IsStrIter it (if b then "str_ascii_iterator" else "str_iterator") x t (i+1)->Bq it s.heap h' ->
    ∃ u,(some (Value.str ⟨#[c]⟩ s.toks))=some u/\wpAny (model X.prog X.w) X.A (Fn tg (.ref it) u) (λ_ s2=>∃ v H',Inv X pins σ H' s2/\RelV v u/\(Its x).yld i H v H'/\s2.heap.IsStrIter it (if b then "str_ascii_iterator" else "str_iterator") x t (i+1)/\∀ b∈[it],H' b=none) E { s with heap:=h',toks:=s.toks+1 }:=by
   intro h' st' sb;have I1:Inv X pins σ H { s with heap:=h',toks:=s.toks+1 }:=I.turned (t':=s.toks+1) (λb o hb e=>(sb.2 b hb).trans e) f0 f1 f3 f4 f5;obtain ⟨o,e,cc,d⟩:=id st';exact ⟨_,rfl,xU (s:={ s with heap:=h',toks:=s.toks+1 }) e cc d (by cases b<;>decide) ⟨.str ⟨#[c]⟩,H,I1,⟨_,rfl⟩,⟨rfl,c,hx,rfl⟩,st',λb hb=>(hf b hb).1⟩⟩
  cases b with
  |true=>exact wpAny_pyNext_ascii_item st hx go
  |false=>exact wpAny_pyNext_wide_item st hx go
 done:=by
  intro X hP hw hK hc i pins s σ H E I hf st hg;subst hP hw hK;obtain ⟨f0,f1,f2,f3,f4,f5⟩:=hf it (by simp);cases b with
  |true=>exact wpAny_pyNext_ascii_end (I.ok.hd hc) st hg λh' eb=>⟨rfl,I.turned (t':=s.toks) (λb o hb e=>eb b o hb e) f0 f1 f3 f4 f5⟩
  |false=>exact wpAny_pyNext_wide_end (I.ok.hd hc) st hg λh' eb=>⟨rfl,I.turned (t':=s.toks) (λb o hb e=>eb b o hb e) f0 f1 f3 f4 f5⟩
 self:=λ_ _ _ _ _ st h=>by
  cases b with
  |true=>exact wpAny_pyIter_striter_ascii st h
  |false=>exact wpAny_pyIter_striter_wide st h
def iStr (tl:TE):TI:=λσ H R=>tl σ H λv H1=>∃ x,v=.str x/\R (Its x) H1
section
variable {X:Cx}
def aBu {tg l:Expr}{tl:TE}(hl:PE X l tl):PI X tg l (iStr tl):=by
 intro pins s σ H R I h;refine thn (hl pins s σ H _ I h) λv s1 ⟨y,H1,I1,r1,x,ey,q⟩=>?_;subst ey;obtain ⟨t,rfl⟩:=r1;have fin:∀ b:Bool,PIE X pins σ tg R (.ref s1.heap.objs.size) { s1 with heap:=s1.heap.push { cls:=.type (if b then "str_ascii_iterator" else "str_iterator"),data:=.fields #[.str x t,.int 0 0] } }:=by
  intro b;refine ⟨s1.heap.objs.size,[s1.heap.objs.size],_,_,H1,rfl,I1.kept (t':=s1.toks) λb o e=>Ae _ e,yT x t _ b,⟨_,An _ rfl,rfl,rfl⟩,λb hb=>?_,q⟩;have e:b=s1.heap.objs.size:=by simpa using hb
  subst e;exact I1.fpOk (Ao _) (I1.hok.fresh (Ao _))
 cases ha:x.cps.all (·<128) with
 |true=>exact wpAny_pyIter_ascii ha (fin true)
 |false=>exact wpAny_pyIter_wide ha (fin false)
end
def rPart:V->List V->Hp->VK->Prop:=λz vs H Q=>∃ x y,z=.str x/\vs=[.str y]/\(y.length==0)=false/\x.length<=AE/\∀ p,H p=none->Q (.ref p) (upd H p (.tup [.str (Txt.partition x y).1,.str (Txt.partition x y).2.1,.str (Txt.partition x y).2.2]))
def rSplit:V->List V->Hp->VK->Prop:=λz vs H Q=>∃ x y,z=.str x/\vs=[.str y]/\(y.length==0)=false/\x.length+2<=AE/\∀ p,H p=none->Q (.ref p) (upd H p (.lst ((Txt.split x y).map V.str)))
section
variable {X:Cx}
end
section
variable {X:Cx}
def aBw (hu:X.A.units+64<cLine):OpR X (BO .Eq) (λx y H Q=>∃ a b xs,x=.ref a/\y=.ref b/\SqL X.K H a xs/\SqL X.K H b []/\Q (.bl xs.isEmpty) H):=by
 intro pins s σ H x y v u Q I rx ry h;obtain ⟨a,b,xs,rfl,rfl,ha,hb,q⟩:=h;cases rx;cases ry;obtain ⟨its,r,p,_⟩:=I.list ha;obtain ⟨its',r',p',_⟩:=I.list hb;cases r';cases r with
 |nil=>exact SeqAt.RcAt.lists (A:=X.A) (e:=λ_=>true) p.isList p'.isList rfl (by omega) (λj h1=>absurd h1 (by simp)) X.prog X.w X.xe _ ⟨.bl _,H,I,rfl,q⟩
 |cons r t=>exact SeqAt.RcAt.lists_lengths (A:=X.A) p.isList p'.isList rfl (by omega) X.prog X.w X.xe _ ⟨.bl _,H,I,rfl,q⟩
def wA (hu:X.A.units+64<cLine):OpR X (BO .NotEq) (λx y H Q=>∃ a b xs,x=.ref a/\y=.ref b/\SqL X.K H a xs/\SqL X.K H b []/\Q (.bl (!xs.isEmpty)) H):=by
 intro pins s σ H x y v u Q I rx ry h;obtain ⟨a,b,xs,rfl,rfl,ha,hb,q⟩:=h;cases rx;cases ry;obtain ⟨its,r,p,_⟩:=I.list ha;obtain ⟨its',r',p',_⟩:=I.list hb;cases r';cases r with
 |nil=>exact SeqAt.RcNeAt.lists (A:=X.A) (e:=λ_=>true) p.isList p'.isList rfl (by omega) (λj h1=>absurd h1 (by simp)) X.prog X.w X.xe _ ⟨.bl _,H,I,rfl,q⟩
 |cons r t=>exact SeqAt.RcNeAt.lists_lengths (A:=X.A) p.isList p'.isList rfl (by omega) X.prog X.w X.xe _ ⟨.bl _,H,I,rfl,q⟩
end
end L2
namespace TM
open PySem PySem.NumText
def dg (n:Nat):List Nat:=(Nat.toDigits 10 n).map Char.toNat
def aGf {n:Nat}(h:n<10^60):(dg n).length<=60:=by
 unfold dg;rw [Ac];exact PyProof.Rows.digits10_le (by decide) h
structure Fig (cs:List Nat):Prop where
 ne:cs≠[]
 len:cs.length<=60
 all:AllDigits cs
 no:cs.head?=some 48->cs.length=1
def Reads (L:List Nat)(t b:Nat):Prop:=
 (Fig L/\t=digitsVal L/\b=1)\/∃ p q,L=p++47::q/\Fig p/\Fig q/\t=digitsVal p/\b=digitsVal q/\2<=b/\Nat.gcd t b=1
def showL (t b:Nat):List Nat:=if b=1 then dg t else dg t++47::dg b
end TM
namespace TM
open PySem PySem.StrLaws PySem.Builtin PySem.Builtin.Str
abbrev cps (x:Str):List Nat:=x.cps.toList
abbrev sl:Str:=⟨#[47]⟩
theorem dE (x y:Str):cps (x++y)=cps x++cps y:=by
 show (x.cps++y.cps).toList=_;rw [Array.toList_append]
end TM
namespace L2
open PySem PySem.Spec PyProof.Rows PySem.W
def rCount:V->List V->Hp->VK->Prop:=λx vs H Q=>∃ l xs y,x=.ref l/\vs=[y]/\H l=some (.lst xs)/\dX y=true/\xs.all dX=true/\Q (.int ((xs.countP λz=>eqV z y:Nat):Int)) H
def rIndex:V->List V->Hp->VK->Prop:=λx vs H Q=>∃ l xs y,∃ j:Nat,∃ z,x=.ref l/\vs=[y]/\H l=some (.lst xs)/\dX y=true/\xs.all dX=true/\xs[j]?=some z/\eqV z y=true /\
 (∀ m z,m<j->xs[m]?=some z->eqV z y=false)/\Q (.int (j:Int)) H
section
variable {X:Cx}
end
def Nx (n i:Nat)(P:Prop):Prop:=∃ m',m'<n-i/\m'=n-(i+1)/\i+1<=n/\P
def gE {σ:St}:BlkN X N' scope cl σ (AR N'.length none):=by
 refine ⟨by simp,λi x v h1 h2=>?_⟩;rw [List.getElem?_replicate] at h2;split at h2<;>cases h2
end L2
namespace L2
open PySem PySem.Spec PyProof.Rows
def dcE (a:Addr):HO:=.ext λh=>∃ o,h.get? a=some o/\o.cls=.type "dict"
def tDict0:TE:=λ_ H Q=>∀ p,H p=none->Q (.ref p) (upd H p (dcE p))
section
variable {X:Cx}{pos:Pos}
def IsiD (K:Ab)(H:Hp)(v:V)(T:String)(b:Bool):Prop:=Isi K H v T b\/∃ a,v=.ref a/\H a=some (dcE a)/\T = "str" /\ b=false
end
def rEqL (K:Ab):R2:=λx y H Q=>∃ a b xs ys,∃ e:Nat->Bool,x=.ref a/\y=.ref b/\SqL K H a xs/\SqL K H b ys/\(∀ (j:Nat) x y,xs[j]?=some x->ys[j]?=some y->DEq K H 40 x y (e j)) /\
 Q (.bl ((Ay (min xs.length ys.length)).all e&&xs.length==ys.length)) H
def rNeL (K:Ab):R2:=λx y H Q=>∃ a b xs ys,∃ e:Nat->Bool,x=.ref a/\y=.ref b/\SqL K H a xs/\SqL K H b ys/\(∀ (j:Nat) x y,xs[j]?=some x->ys[j]?=some y->DEq K H 40 x y (e j)) /\
 Q (.bl (!((Ay (min xs.length ys.length)).all e&&xs.length==ys.length))) H
section
variable {X:Cx}
def aFu (hu:X.A.units+64<cLine):OpR X (BO .Eq) (rEqL X.K):=by
 intro pins s σ H x y v u Q I rx ry h;obtain ⟨a,b,xs,ys,e,rfl,rfl,hx,hy,hd,q⟩:=h;cases rx;cases ry;exact xA I hx hy (by omega) (λj x y u v h1 h2 r1 r2=>(hd j x y h1 h2).at I (by show X.A.units+1+40<cLine;omega) r1 r2) X.prog X.w X.xe _ ⟨.bl _,H,I,rfl,q⟩
def aD2 {σ:St}{s:Shared}(I:Inv X pins σ H s){a b:Addr}(hx:SqL X.K H a xs)(hy:SqL X.K H b ys)(hu:A.units<cLine)(hd:∀ (j:Nat) x y u v,xs[j]?=some x->ys[j]?=some y->RelV x u->RelV y v->Bm A.in1 s u v (e j)) :
  SeqAt.RcNeAt A s (.ref a) (.ref b) (!((Ay (min xs.length ys.length)).all e&&xs.length==ys.length)):=by
 obtain ⟨its,r,tx,_⟩:=I.list hx;obtain ⟨its',r',ty,_⟩:=I.list hy;have l1:=r.length;have l2:=r'.length
 by_cases hl:xs.length=ys.length
 ·have q:=SeqAt.RcNeAt.lists (A:=A) (e:=e) (dI tx) (dI ty) (by rw [Ai,Ai];omega) hu (λj h1 h2=>?_)
  ·rw [Ai,<- l1] at q
   have e1:((Ay (min xs.length ys.length)).all e&&xs.length==ys.length)=(Ay xs.length).all e:=by
    rw [<- hl,Nat.min_self,beq_self_eq_true,Bool.and_true]
   rw [e1];exact q
  ·rw [Ai] at h1 h2
   obtain ⟨x,hxj⟩:∃ x,xs[j]?=some x:=⟨_,Af (by omega)⟩;obtain ⟨y,hyj⟩:∃ y,ys[j]?=some y:=⟨_,Af (by omega)⟩;obtain ⟨u1,hu1,ru1⟩:=r.get hxj;obtain ⟨u2,hu2,ru2⟩:=r'.get hyj;have e1:its.toArray[j]=u1:=by
    have:=(Ah.mp hu1).2
    simpa using this
   have e2:its'.toArray[j]=u2:=by
    have:=(Ah.mp hu2).2
    simpa using this
   rw [e1,e2];exact hd j x y u1 u2 hxj hyj ru1 ru2
 ·have q:=SeqAt.RcNeAt.lists_lengths (A:=A) (dI tx) (dI ty) (by rw [Ai,Ai,<- l1,<- l2,bne_iff_ne];exact hl) hu
  have e1:((Ay (min xs.length ys.length)).all e&&xs.length==ys.length)=false:=by
   rw [beq_eq_false_iff_ne.mpr hl,Bool.and_false]
  rw [e1];exact q
def aFt (hu:X.A.units+64<cLine):OpR X (BO .NotEq) (rNeL X.K):=by
 intro pins s σ H x y v u Q I rx ry h;obtain ⟨a,b,xs,ys,e,rfl,rfl,hx,hy,hd,q⟩:=h;cases rx;cases ry;exact aD2 I hx hy (by omega) (λj x y u v h1 h2 r1 r2=>(hd j x y h1 h2).at I (by show X.A.units+1+40<cLine;omega) r1 r2) X.prog X.w X.xe _ ⟨.bl _,H,I,rfl,q⟩
end
def Sf (v:V):Prop:=dX v=true\/∃ a,v=.ref a
theorem aBa (h:dX v=true):eqV v v=true:=by
 cases v<;>simp_all [dX,eqV]
def DEq.self {K:Ab}{H:Hp}{n:Nat}{v:V}(h:Sf v):DEq K H n v v true:=by
 rcases h with h|⟨a,rfl⟩
 ·have:=DEq.flat (K:=K) (H:=H) (n:=n) h h
  rwa [aBa h] at this
 ·exact .same
theorem all_true (n:Nat)(m:Nat)(h:n=m):((Ay (min n m)).all (λ_=>true)&&n==m)=true:=by
 subst h;rw [beq_self_eq_true,Bool.and_true,Cy];exact λ_ _=>rfl
def rNeLs (K:Ab):R2:=λx y H Q=>∃ a b xs,x=.ref a/\y=.ref b/\SqL K H a xs/\SqL K H b xs/\(∀ v∈xs,Sf v)/\Q (.bl false) H
def jT:Ck "list" = some (.type "list"):=by decide +kernel
def Tk (H H':Hp):Prop:=∀ b ys,H b=some (.tup ys)->H' b=some (.tup ys)
def Same.tk (s:Same H H'):Tk H H':=λb ys e=>s b _ e
def Tk.refl :Tk H H:=λ_ _ e=>e
theorem Tk.trans (h:Tk H H1)(k:Tk H1 H2):Tk H H2:=λb ys e=>k b ys (h b ys e)
theorem Tk.lst (h:H l=some (.lst xs)):Tk H (upd H l o):=λb ys e=>by
 have ne:b≠l:=λz=>by rw [z,h] at e;cases e
 rw [aE ne];exact e
def bL {n:Nat}(h:n<=1000):n<=AE:=Bh h (by decide)
def starFree:Expr->Bool
 |.Starred ..=>false
 |_=>true
inductive Dt where
 |i (n:Int)
 |s (x:Str)
 |b (k:Bool)
 |n
 |t (l:List Dt)
def SqZ (K:Ab)(H:Hp)(a:Addr)(xs:List V):Prop:=H a=some (.tup xs)\/∃ (o:Obj) (its:Array Value) (n:Nat),K.lookup a=some o/\o.cls=.type "tuple" /\ o.data=.seq its n/\its.size<=AE/\Vals xs its.toList
def SqZ.sq {K:Ab}{H:Hp}{a:Addr}{xs:List V}(h:SqZ K H a xs):SqT K H a xs:=by
 rcases h with h|h
 ·exact .inl (.inl h)
 ·exact .inr h
inductive Dv (K:Ab)(H:Hp):Nat->V->Dt->Prop where
 |i {n m}:Dv K H n (.int m) (.i m)
 |s {n x}:Dv K H n (.str x) (.s x)
 |b {n k}:Dv K H n (.bl k) (.b k)
 |n {n}:Dv K H n .non .n
 |t {n a xs ds}:SqZ K H a xs->xs.length=ds.length->(∀ (j:Nat) x d,xs[j]?=some x->ds[j]?=some d->Dv K H n x d)->Dv K H (n+1) (.ref a) (.t ds)
theorem Dv.eq {K:Ab}{H:Hp}{n:Nat}{x:V}{d:Dt}(h:Dv K H n x d):∀ {m:Nat} {y:V},Dv K H m y d->DEq K H n x y true:=by
 induction h with
 |i=>intro m y k;cases k;exact DEq.self (.inl rfl)
 |s=>intro m y k;cases k;exact DEq.self (.inl rfl)
 |b=>intro m y k;cases k;exact DEq.self (.inl rfl)
 |n=>intro m y k;cases k;exact DEq.self (.inl rfl)
 |@t n a xs ds h1 h2 h3 ih=>
  intro m y k;cases k with
  |@t m b ys _ k1 k2 k3=>
   by_cases e:a=b
   ·subst e
    exact .same
   ·have q:=DEq.tup (n:=n) (e:=λ_=>true) e h1.sq k1.sq λj x y hx hy=>?_
    ·rwa [all_true _ _ (h2.trans k2.symm)] at q
    ·obtain ⟨d,hd⟩:∃ d,ds[j]?=some d:=⟨_,Af (by have:=(Ah.mp hx).1;omega)⟩
     exact ih j x d hx hd (k3 j y d hy hd)
def DL (K:Ab)(H:Hp)(n:Nat)(xs:List V)(ds:List Dt):Prop:=xs.length=ds.length/\∀ (j:Nat) x d,xs[j]?=some x->ds[j]?=some d->Dv K H n x d
def DL.nil {K:Ab}{H:Hp}{n:Nat}:DL K H n [] []:=⟨rfl,λj x d h=>by simp at h⟩
def DL.cons {K:Ab}{H:Hp}{n:Nat}{x:V}{d:Dt}{xs:List V}{ds:List Dt}(h:Dv K H n x d)(k:DL K H n xs ds):DL K H n (x::xs) (d::ds):=by
 refine ⟨by rw [AI,AI,k.1],λj y e hy he=>?_⟩;cases j with
 |zero=>
  simp at hy he;subst hy he;exact h
 |succ j=>exact k.2 j y e (by simpa using hy) (by simpa using he)
def rEqDL (K:Ab):R2:=λx y H Q=>∃ a b xs ys ds,x=.ref a/\y=.ref b/\SqL K H a xs/\SqL K H b ys/\DL K H 40 xs ds/\DL K H 40 ys ds/\Q (.bl true) H
def rNeDL (K:Ab):R2:=λx y H Q=>∃ a b xs ys ds,x=.ref a/\y=.ref b/\SqL K H a xs/\SqL K H b ys/\DL K H 40 xs ds/\DL K H 40 ys ds/\Q (.bl false) H
def aG5 (K:Ab):R2:=λx y H Q=>∃ a b xs ys ds,x=.ref a/\y=.ref b/\SqT K H a xs/\SqT K H b ys/\DL K H 40 xs ds/\DL K H 40 ys ds/\Q (.bl true) H
def rNeDT (K:Ab):R2:=λx y H Q=>∃ a b xs ys ds,x=.ref a/\y=.ref b/\SqT K H a xs/\SqT K H b ys/\DL K H 40 xs ds/\DL K H 40 ys ds/\Q (.bl false) H
def DL.deq {K:Ab}{H:Hp}{n m:Nat}{xs ys:List V}{ds:List Dt}(h:DL K H n xs ds)(k:DL K H m ys ds):∀ (j:Nat) x y,xs[j]?=some x->ys[j]?=some y->DEq K H n x y true:=λj x y hx hy=>by
 obtain ⟨d,hd⟩:∃ d,ds[j]?=some d:=⟨_,Af (by have:=(Ah.mp hx).1;have:=h.1;omega)⟩;exact (h.2 j x d hx hd).eq (k.2 j y d hy hd)
section
variable {X:Cx}
def aDo (hu:X.A.units+64<cLine):OpR X (BO .Eq) (aG5 X.K):=by
 intro pins s σ H x y v u Q I rx ry h;obtain ⟨a,b,xs,ys,ds,rfl,rfl,hx,hy,k1,k2,q⟩:=h;refine aBv hu pins s σ H _ _ v u Q I rx ry ⟨a,b,xs,ys,λ_=>true,rfl,rfl,hx,hy,k1.deq k2,?_⟩;rw [all_true _ _ (k1.1.trans k2.1.symm)];exact q
end
theorem gQ :∀ (names:List (Str×Bj)) (acc:List (Str×Addr)),(∀ y∈names,y.2=Bd->∃ c,env.cells.lookup y.1=some c)->(∀ x c,acc.lookup x=some c->env.cells.lookup x=some c) ->
  ∃ cl,(forIn (m:=Sem) names acc (λx r=>do if (x.2==Bd)=true then do let c <- cellOf env x.1;pure (CQ ((x.1,c)::r)) else pure (CQ r)))=pure cl /\
   (∀ x c,cl.lookup x=some c->env.cells.lookup x=some c)/\(∀ y∈names,y.2=Bd->∃ c,cl.lookup y.1=some c)/\∀ x,(∃ c,acc.lookup x=some c)->∃ c,cl.lookup x=some c
 |[],acc,_,h2=>⟨acc,rfl,h2,(λy hy=>by simp at hy),λ_ h=>h⟩
 |y::r,acc,h1,h2=>by
  by_cases e:y.2=Bd
  ·obtain ⟨c,hc⟩:=h1 y Az e
   obtain ⟨cl,e1,e2,e3,e4⟩:=gQ r ((y.1,c)::acc) (λz hz=>h1 z (Au _ hz)) (λx d hx=>by
    rw [Dr] at hx;split at hx
    ·rename_i hb
     have:x=y.1:=ED hb;rw [this,hc];exact hx
    ·exact h2 x d hx)
   refine ⟨cl,?_,e2,λz hz ez=>?_,λx hx=>e4 x ?_⟩
   ·rw [List.forIn_cons,if_pos (by rw [e];rfl)]
    unfold cellOf;rw [hc];simp only [pure_bind];exact e1
   ·rcases Aw.mp hz with rfl|hz
    ·exact e4 z.1 ⟨c,by rw [Dr,beq_self_eq_true]⟩
    ·exact e3 z hz ez
   ·obtain ⟨d,hd⟩:=hx
    rw [Dr];split
    ·exact ⟨c,rfl⟩
    ·exact ⟨d,hd⟩
  ·obtain ⟨cl,e1,e2,e3,e4⟩:=gQ r acc (λz hz=>h1 z (Au _ hz)) h2
   refine ⟨cl,?_,e2,λz hz ez=>?_,e4⟩
   ·rw [List.forIn_cons,if_neg (by intro z;exact e (ED z))]
    simp only [pure_bind];exact e1
   ·rcases Aw.mp hz with rfl|hz
    ·exact absurd ez e
    ·exact e3 z hz ez
def uG (h:∀ y∈scope.names,y.2=Bd->∃ c,env.cells.lookup y.1=some c) :
  ∃ cl,closureFor scope env=pure cl/\(∀ x c,cl.lookup x=some c->env.cells.lookup x=some c)/\∀ y∈scope.names,y.2=Bd->∃ c,cl.lookup y.1=some c:=by
 obtain ⟨cl,e1,e2,e3,_⟩:=gQ (env:=env) scope.names [] h (λx c e=>by simp at e);refine ⟨cl,?_,e2,e3⟩;simp only [closureFor];rw [show (forIn (m:=Sem) scope.names [] λx r=>if (x.2==Bd)=true then (do let c <- cellOf env x.1;pure (CQ ((x.1,c)::r))) else pure (CQ r))=pure cl from e1];rfl
def nE (hc:∀ y∈scope.names,y.2≠Cw)(h:(relabel scope env).names.lookup x=some .cell\/(relabel scope env).names.lookup x=some .free):∃ y∈scope.names,y.1=x/\y.2=Bd:=by
 have e':∃ k,(k=Cw\/k=Bd)/\(relabel scope env).names.lookup x=some k:=by
  rcases h with e|e
  ·exact ⟨_,.inl rfl,e⟩
  ·exact ⟨_,.inr rfl,e⟩
 obtain ⟨k,hk,e⟩:=e';have hm:=BW e;obtain ⟨y,hy,hy2⟩:=AY.mp hm;obtain ⟨n,kk⟩:=y;have hn:=hc _ hy;simp only at hy2 hn;split at hy2
 ·rename_i hf
  injection hy2 with a1 a2;subst a1;simp only [BV] at hf;exact ⟨(n,kk),hy,rfl,ED hf.1.1⟩
 ·injection hy2 with a1 a2
  subst a1 a2
  rcases hk with rfl|rfl
  ·exact absurd rfl hn
  ·exact ⟨_,hy,rfl,rfl⟩
def aEf (ok:X.Ok)(hc:∀ y∈scope.names,y.2≠Cw)(h:∀ y∈scope.names,y.2=Bd->X.env.kindOf y.1=some .cell\/X.env.kindOf y.1=some .free):∃ cl,ClOk X scope cl:=by
 obtain ⟨cl,e1,e2,e3⟩:=uG (scope:=scope) (env:=X.env) λy hy ey=>ok.has y.1 (h y hy ey);refine ⟨cl,e1,e2,λx hx=>?_⟩;obtain ⟨y,hy,rfl,ey⟩:=nE hc hx;exact e3 y hy ey
def fB {pos:Pos}{tt:TT}(σf:St->St)(hc:X.calm=true)(hkind:scope.kind=.function)(hcell:∀ y∈scope.names,y.2≠.cell)(hnames:∀ y∈scope.names,y.2=.local->scope.names.lookup y.1=some .local)(hk:∀ y∈scope.names,y.2=Bd->X.env.kindOf y.1=some .cell\/X.env.kindOf y.1=some .free)(hN:∀ cl (σ:St),σ.length=X.N.length->BlkN X N' scope cl σ (σf σ))(hi:PI X tg iter wi)(hg:∀ cl C s₀ H₀ ex pn,PG (blk X N' scope cl C s₀ H₀ ex pn) tg g)(ht:∀ cl C s₀ H₀ ex pn,PIfs (blk X N' scope cl C s₀ H₀ ex pn) ifs tt)(he:∀ cl C s₀ H₀ ex pn,PE (blk X N' scope cl C s₀ H₀ ex pn) elt te)(hs:∀ x,foldedSetIterable iter X.env x=pure x:=by intro _;rfl):PE X (.ListComp elt [⟨tg,iter,ifs,0⟩] scope pos) (aCp σf wi g tt te):=by
 intro pins s σ H Q I h;obtain ⟨cl,hcl⟩:=aEf I.ok hcell hk;exact lV σf hc hkind hcell hnames hcl (hN cl) hi (hg cl) (ht cl) (he cl) hs pins s σ H Q I h
def tZ {X:Cx}{scope sc:Scope}(hs:X.env.scope=sc)(h:(scope.names.all λy=>y.2 != Bd||sc.names.lookup y.1==some Cw||sc.names.lookup y.1==some Bd)=true) :
  ∀ y∈scope.names,y.2=Bd->X.env.kindOf y.1=some .cell\/X.env.kindOf y.1=some .free:=λy hy ey=>by
 have q:=Cy.mp h y hy;unfold Env.kindOf;rw [hs];rw [ey] at q;simp only [bne_self_eq_false,Bool.false_or,Bool.or_eq_true] at q
 rcases q with q|q
 ·exact .inl (ED q)
 ·exact .inr (ED q)
theorem dN {env:Env}{x:Str}(hk:env.scope.kind=.function)(hx:env.kindOf x=some .cell):∀ {names:List (Str×Bj)},names.lookup x=some .free ->
    (names.map λ(n,k)=>if (k==Bd&&env.scope.kind==.function&&env.kindOf n==some .cell) then (n,Cw) else (n,k)).lookup x=some .cell
  |[],h=>by simp at h
  |(n,k)::r,h=>by
    rw [Bb];rw [Dr] at h
    by_cases e:(x==n)=true
    · rw [e] at h;have e':x=n:=ED e;subst e';have hf:k=Bd:=AS h;subst hf;have c:(Bd==Bd&&env.scope.kind==.function&&env.kindOf x==some .cell)=true:=by rw [hk,hx];rfl
      rw [show (match ((x,Bd):Str×Bj) with|(n,k)=>if (k==Bd&&env.scope.kind==.function&&env.kindOf n==some .cell)=true then (n,Cw) else (n,k))=(x,Cw) from if_pos c];rw [Dr,beq_self_eq_true]
    · have e0:(x==n)=false:=by simpa using e
      rw [e0] at h;have ih:=dN hk hx h;have en:∀ q:Str×Bj,q.1=n->(q::(r.map λ(n,k)=>if (k==Bd&&env.scope.kind==.function&&env.kindOf n==some .cell) then (n,Cw) else (n,k))).lookup x=some .cell:=λq hq=>by
        obtain ⟨q1,q2⟩:=q;simp only at hq;subst hq;rw [Dr,e0];exact ih
      refine en _ ?_;show (if _ then (n,Cw) else (n,k)).1=n;split<;>rfl
def gR {X:Cx}{N' N:List Str}{scope sc:Scope}{cl:List (Str×Addr)}{σ:St}(ts:List (Option Nat))(hN:X.N=N)(hsc:X.env.scope=sc)(hl:ts.length=N'.length)(hk:sc.kind=.function)
  (h:((ts.zip N').all λp=>match p.1 with|none=>true|some j=>N[j]?==some p.2&&sc.names.lookup p.2==some Cw&&scope.names.lookup p.2==some Bd)=true) :
  BlkN X N' scope cl σ (ts.map λt=>t.bind λj=>(σ[j]?).join):=by
 refine ⟨by rw [Ac,hl],λi x v h1 h2=>?_⟩;rw [Aj] at h2;cases ht:ts[i]? with
 |none=>rw [ht] at h2;cases h2
 |some t=>
  rw [ht] at h2;have h2':(t.bind λj=>(σ[j]?).join)=some v:=AS h2;cases t with
  |none=>cases h2'
  |some j=>
   have hm:(some j,x)∈ts.zip N':=AJ (by rw [List.getElem?_zip_eq_some];exact ⟨ht,h1⟩:(ts.zip N')[i]?=some (some j,x));have q:=Cy.mp h _ hm;simp only [BV] at q;obtain ⟨⟨q1,q2⟩,q3⟩:=q;have q1':=ED q1;have q2':=ED q2;have q3':=ED q3;have kd:X.env.kindOf x=some .cell:=by
    unfold Env.kindOf;rw [hsc];exact q2'
   refine ⟨j,by rw [hN];exact q1',?_,by rw [hsc];exact .inr (.inl q2'),(by rw [kd];decide),.inl (dN (by rw [hsc];exact hk) kd q3')⟩;have h3:(σ[j]?).join=some v:=h2';cases hj:σ[j]? with
   |none=>rw [hj] at h3;cases h3
   |some o=>rw [hj] at h3;cases o with
    |none=>cases h3
    |some u=>cases h3;rfl
def aDa {iy:Nat}{pos:Pos}{tt:TT}(σf:St->St)(hc:X.calm=true)(hkind:scope.kind=.function)(hcell:∀ y∈scope.names,y.2≠.cell)(hnames:∀ y∈scope.names,y.2=.local->scope.names.lookup y.1=some .local)(hcl:ClOk X scope cl)(hN:∀ σ:St,σ.length=X.N.length->BlkN X N' scope cl σ (σf σ))(hi:PI X tg iter wi)(hg:∀ C s₀ H₀ ex pn,PG (blk X N' scope cl C s₀ H₀ ex pn) tg g)(ht:∀ C s₀ H₀ ex pn,PIfs (blk X N' scope cl C s₀ H₀ ex pn) ifs tt)(he:∀ C s₀ H₀ ex pn,PE (blk X N' scope cl C s₀ H₀ ex pn) elt te)(hnd:X.N.Nodup)(hiy:X.N[iy]?=some y)(hy:Loc X.env.scope y)(hfy:X.fn y=true\/X.env.scope.names.lookup y=some .local)(hsw:swapsWith (.ListComp elt [⟨tg,iter,ifs,0⟩] scope pos) (some (.Name y py)) spos.line X.env=pure true)(hs:∀ x,foldedSetIterable iter X.env x=pure x:=by intro _;rfl):PS X (.Assign [.Name y py] (.ListComp elt [⟨tg,iter,ifs,0⟩] scope pos) spos) (tAsg (aCp σf wi g tt te) (dW iy)):=by
 intro pins s σ H Dn I h;rw [exec_Assign_Name_used _ _ _ _ hsw];refine Aa (Fb (Aa ?_));show wpAny _ X.A (do let _ <- comprehension (.ListComp elt [⟨tg,iter,ifs,0⟩] scope pos) scope X.env _ (newList []) false (eval iter X.env) (some (assign (.Name y py) X.env))) _ _ s;refine Aa (BH (wpAny_comprehension_free (use:=some (assign (.Name y py) X.env)) (Q:=λ_ s'=>SP X pins Dn .next s') rfl hs hcl.run hkind hnames
  (thn (hi pins s σ H _ I h) λv s1 h1=>thn h1 λitv s2 h2=>?_)) (λ_ s' hq=>Ag (Ag hq)) λ_ _ e=>e)
 obtain ⟨it,fp,tn,J,H2,rfl,I2,T,st2,f2,q⟩:=h2;refine Be (wpAny_newFunctionEnv hcell (by intro y hy;simp at hy) (λh₁ hns₁ hsb₁=>?_) hkind);dsimp only at hns₁ hsb₁ ⊢;have hfo:∀ b∈fp,b<s2.heap.objs.size:=λb hb=>by
  obtain ⟨o,e,_⟩:=T.obj _ _ st2 b hb;exact Ar e
 have hDf:H2 s2.heap.objs.size=none:=I2.hok.fresh (Ao _);obtain ⟨W,⟨m0,w0⟩,turn⟩:=q s2.heap.objs.size hDf;have I3:Inv X pins σ (upd H2 s2.heap.objs.size (.lst [])) { s2 with heap:=s2.heap.push { cls:=.type "list",data:=.seq ([]:List Value).toArray } }:=I2.lnew (its:=[]) (t':=s2.toks) .nil (Bi _);have f3:∀ b∈fp,FpOk X pins (upd H2 s2.heap.objs.size (.lst [])) b:=λb hb=>⟨by rw [aE (AG (hfo b hb))];exact (f2 b hb).1,(f2 b hb).2⟩;generalize hD:s2.heap.objs.size=D at *
 generalize hs3:({ s2 with heap:=s2.heap.push { cls:=.type "list",data:=.seq ([]:List Value).toArray } }:Shared)=s3 at *
 have hh3:s3.heap=s2.heap.push { cls:=.type "list",data:=.seq ([]:List Value).toArray }:=by rw [<- hs3]
 have hsz3:s2.heap.objs.size<s3.heap.objs.size:=by rw [hh3,CT];exact CO _
 have e3:∀ h t,({ s2 with heap:=h,toks:=t }:Shared)={ s3 with heap:=h,toks:=t }:=λh t=>by rw [<- hs3]
 rw [<- hh3] at hns₁ hsb₁ ⊢;have hk3:∀ b o,s3.heap.get? b=some o->h₁.get? b=some o:=λb o e=>hsb₁.extBut b o (AG (Ar e)) (Ae _ e);have I4:=oV (t':=s3.toks) I3 hkind hcl (hN σ I.len) f3 (λb hb=>DG (hfo b hb) (hD▸hsz3)) (hns:=by simpa using hns₁) hk3;generalize hB:blk X N' scope cl s3.heap.objs.size s3 (upd H2 D (.lst [])) fp (X.pn++pins)=B at *
 have hBp:B.prog=X.prog:=by rw [<- hB];rfl
 have hBw:B.w=X.w:=by rw [<- hB];rfl
 have hBK:B.K=X.K:=by rw [<- hB];rfl
 have hBA:B.A=X.A:=by rw [<- hB];rfl
 have hBc:B.calm=true:=by rw [<- hB];exact hc
 have hBe:B.env=compEnvC scope cl s3.heap.objs.size X.env:=by rw [<- hB];rfl
 have hBx:B.xe=λ_ _=>False:=by rw [<- hB];rfl
 have hGB:PG B tg g:=hB▸hg _ _ _ _ _;have hTB:PIfs B ifs tt:=hB▸ht _ _ _ _ _;have hEB:PE B elt te:=hB▸he _ _ _ _ _;have stat:∀ {H':Hp},(∀ b∈fp,H' b=none)->∀ b∈fp,FpOk B [] H' b:=λ{H'} hn b hb=>by
  obtain ⟨f0,f1,f2',f3',f4,f5⟩:=f3 b hb;rw [<- hB];refine ⟨hn b hb,AG (DG (hfo b hb) (hD▸hsz3)),λz=>?_,.inl hb,λx c e=>f4 x c (hcl.sub x c e),λp hp=>?_⟩
  ·rcases Aw.mp (I.stkSub b z) with z|z
   ·exact f1 z
   ·exact f2' z
  ·rw [show (blk X N' scope cl s3.heap.objs.size s3 (upd H2 D (.lst [])) fp (X.pn++pins)).pn=X.pn++pins from rfl,AL] at hp
   exact f5 p hp
 have loop:∀ s4:Shared,Inv B [] (σf σ) (upd H2 D (.lst [])) s4->tn 0 s4.heap ->
   DE (model X.prog X.w) X.A (.compLoop (.ListComp elt [⟨tg,iter,ifs,0⟩] scope pos) 0 (.ref it) (.ref D) (compEnvC scope cl s3.heap.objs.size X.env)) (compPost (model X.prog X.w) X.A X.xe (some (assign (.Name y py) X.env)) (λ_ s'=>SP X pins Dn .next s') (.ref D) s3.heap.objs.size) s4:=by
  intro s4 I4 st4;refine iA (I:=λn s'=>∃ i ys H',Inv B [] (σf σ) H' s'/\tn i s'.heap/\(∀ b∈fp,H' b=none)/\W i n ys H') ?_ m0 ⟨0,[],_,I4,st4,λb hb=>(f3 b hb).1,w0⟩
  rintro n s5 ⟨i,ys,H5,I5,st5,fr5,w5⟩
  obtain ⟨hD5,hlen5,alt⟩:=turn i n ys H5 w5
  rcases alt with ⟨stop,qn⟩|⟨go,step⟩
  ·have z:=T.done B hBp hBw hBK hBc i [] s5 (σf σ) H5 (λ_ _=>False) I5 (stat fr5) st5 stop
   rw [hBA] at z;refine thn z λr s6 ⟨hr,I6⟩=>?_;subst hr;obtain ⟨m6,hn6,_⟩:=I6.loc;rw [hBe] at hn6;subst hB;have I6x:Inv X pins σ H5 s6:=yM I3 f3 I6 (h'':=s6.heap) ⟨rfl,λ_ _=>rfl⟩;have fC:FpOk X pins H5 s3.heap.objs.size:=I3.fpOk (Ao _) I6.free;obtain ⟨g0,g1,g2,g3,g4,g5⟩:=id fC;obtain ⟨oC,es,ep,hoC,hdC,rest⟩:=hn6;have I6p:=I6x.pinned (fp:=[s3.heap.objs.size]) (λb hb=>by rw [Al.mp hb];exact fC) (λb hb=>⟨oC,by rw [Al.mp hb];exact hoC,λv e=>by rw [hdC] at e;cases e⟩);show wpAny (model X.prog X.w) X.A (assign (.Name y py) X.env (.ref D)) _ X.xe s6;refine thn (aR (i:=iy) (pos:=py) hnd hiy hy hfy _ s6 σ H5 (.ref D) (.ref D) (λσ' H'=>Dn.nx σ' H') I6p rfl qn) λ_ s7 ⟨σ7,H7,I7,q7⟩=>?_;have pc:=I7.pin (s3.heap.objs.size,oC) (AH _ (AH _ (dB (by simp) hoC)));refine ⟨m6,⟨oC,es,ep,pc.1,hdC,rest⟩,λh' hs'=>⟨σ7,H7,?_,q7⟩⟩;exact I7.unpinned.turned (t':=s7.toks) (λb o hb e=>hs'.extBut b o hb e) pc.2.1 g1 g3 g4 g5
  ·have z:=T.item B hBp hBw hBK hBc i [] s5 (σf σ) H5 (λ_ _=>False) I5 (stat fr5) st5 go
   rw [hBA] at z;refine thn z λr s6 ⟨u,hr,h6⟩=>?_;subst hr;refine thn h6 λ_ s7 ⟨x,H7,I7,r7,y7,st7,fr7⟩=>?_;have I7':=I7.pinned (stat fr7) (T.obj _ _ st7);have z8:=hGB _ s7 (σf σ) H7 x u _ I7' r7 (step x H7 y7);rw [hBp,hBw,hBA,hBe,hBx] at z8;refine thn z8 λ_ s8 ⟨σ8,H8,I8,k8,q8⟩=>?_;have z9:=hTB _ s8 σ8 H8 _ I8 q8;rw [hBp,hBw,hBA,hBe,hBx] at z9;refine thn z9 λok s9 ⟨H9,I9,q9⟩=>?_;have again:∀ {ys':List V} {H':Hp} {s':Shared},Inv B ([]++kN fp s7.heap) σ8 H' s'->(∃ m',m'<n/\W (i+1) m' ys' H')->∃ m,m<n/\∃ i ys H',Inv B [] (σf σ) H' s'/\tn i s'.heap/\(∀ b∈fp,H' b=none)/\W i m ys H':=λ{ys' H' s'} J ⟨m',hm,w'⟩=>by
    refine ⟨m',hm,i+1,ys',H',J.unpinned.weak k8.len.symm k8.at',T.keep _ _ _ st7 λb hb o e=>(J.pin (b,o) (AH _ (AH _ (dB hb e)))).1,λb hb=>?_,w'⟩;obtain ⟨o,e,d⟩:=T.obj _ _ st7 b hb;exact (J.pin (b,o) (AH _ (AH _ (dB hb e)))).2.1
   cases ok with
   |false=>exact again I9 q9
   |true=>
    have z10:=hEB _ s9 σ8 H9 _ I9 q9;rw [hBp,hBw,hBA,hBe,hBx] at z10;refine thn z10 λy10 s10 ⟨y,H10,I10,r10,hD10,q10⟩=>?_;have z11:=aX (X:=B) _ s10 σ8 H10 (.ref D) [y] (.ref D) [y10] (λ_ H'=>∃ m',m'<n/\W (i+1) m' (ys++[y]) H') I10 rfl (.cons r10 .nil) ⟨D,ys,y,rfl,rfl,hD10,hlen5,q10⟩;rw [hBp,hBw,hBA,hBx] at z11;refine thn z11 λ_ s11 ⟨_,H11,I11,_,q11⟩=>again I11 q11
 have st4:tn 0 ({ s3 with heap:=h₁,toks:=s3.toks }:Shared).heap:=T.keep _ _ _ st2 λb hb o e=>hk3 b o (by rw [hh3];exact Ae _ e);have L4:=loop _ I4 st4;subst hs3;exact codeAny_compStart_list L4 (T.self _ 0 _ _ _ st4 L4)
structure Ys (J:It)(xs:List V)(H1:Hp):Prop where
 go:∀ i H,Same H1 H->i<xs.length->J.go i H
 yld:∀ i H x H',Same H1 H->i<xs.length->J.yld i H x H'->H'=H/\xs[i]?=some x
 stop:∀ i H,Same H1 H->xs.length<=i->J.stop i H
def Ys.list {K:Ab}{a:Addr}{xs:List V}{H1:Hp}(h:SqL K H1 a xs):Ys (Itl K a) xs H1 where
 go:=λi H s hi=>⟨xs,xs[i],s.seq h,Af hi⟩
 yld:=λi H x H' s _ y=>⟨y.1,y.2 xs (s.seq h)⟩
 stop:=λi H s hi=>⟨xs,s.seq h,hi⟩
def Ys.tup {K:Ab}{a:Addr}{xs:List V}{H1:Hp}(h:SqT K H1 a xs):Ys (Itt K a) xs H1 where
 go:=λi H s hi=>⟨xs,xs[i],s.tup h,Af hi⟩
 yld:=λi H x H' s _ y=>⟨y.1,y.2 xs (s.tup h)⟩
 stop:=λi H s hi=>⟨xs,s.tup h,hi⟩
def rngV (lo:Int)(n:Nat):List V:=(Ay n).map λ(i:Nat)=>V.int (lo+(i:Int))
theorem fV (lo:Int)(n:Nat):(rngV lo n).length=n:=by unfold rngV;rw [Ac,Dg]
def zH {lo:Int}{n i:Nat}(h:(rngV lo n)[i]?=some x):i<n/\x=.int (lo+i):=by
 have hi:i<n:=by rw [<- fV lo n];exact (Ah.mp h).1
 unfold rngV at h;rw [Aj,List.getElem?_range hi] at h;exact ⟨hi,(AS h).symm⟩
def Ys.rng {lo:Int}{n:Nat}:Ys (Itr lo n) (rngV lo n) H1 where
 go:=λi H _ hi=>by rw [fV] at hi;exact hi
 yld:=λi H x H' _ hi y=>⟨y.1,by
  obtain ⟨_,rfl⟩:=y;rw [fV] at hi;unfold rngV;rw [Aj,List.getElem?_range hi];rfl⟩
 stop:=λi H _ hi=>by rw [fV] at hi;exact hi
def yY {α:Type}{ys:List α}{y z:α}{j:Nat}(h:(ys++[y])[j]?=some z):(j<ys.length/\ys[j]?=some z)\/(j=ys.length/\z=y):=by
 by_cases hj:j<ys.length
 ·rw [CS hj] at h
  exact .inl ⟨hj,h⟩
 ·rw [DU (by omega)] at h
  have e0:j-ys.length=0:=by
   cases hz:j-ys.length with
   |zero=>rfl
   |succ n=>rw [hz] at h;simp at h
  rw [e0] at h;exact .inr ⟨by omega,by simpa using h.symm⟩
def mJ {J:It}{xs:List V}{D:Addr}{g:TG}{te:TE}{σ0:St}{QD:Hp->Prop}{H1:Hp}(Y:Ys J xs H1)(Pr:Nat->V->V->Hp->Prop)(hP:∀ i x y H H',Pr i x y H->Tk H H'->Pr i x y H')(hD:H1 D=none)(hl:xs.length<=1000)
  (hs:∀ i x H' (R:VK),xs[i]?=some x->Same H1 H'->(∀ y H4,Same H' H4->Pr i x y H4->R y H4)->g x σ0 H' λσ2 H2=>Keep σ0 σ2/\te σ2 H2 R)
  (hd:∀ ys H',Same H1 H'->H' D=some (.lst ys)->ys.length=xs.length->(∀ i x y,xs[i]?=some x->ys[i]?=some y->Pr i x y H')->QD H') :
  ∃ W:Nat->Nat->List V->Hp->Prop,(∃ m,W 0 m [] (upd H1 D (.lst [])))/\∀ i m ys H,W i m ys H->H D=some (.lst ys)/\ys.length<AE /\
   ((J.stop i H/\QD H)\/(J.go i H/\∀ x H',J.yld i H x H'->g x σ0 H' λσ2 H2=>Keep σ0 σ2/\yW σ2 H2 λb H3=>
    if b=true then te σ2 H3 λy H4=>H4 D=some (.lst ys)/\∃ m',m'<m/\W (i+1) m' (ys++[y]) (upd H4 D (.lst (ys++[y]))) else ∃ m',m'<m/\W (i+1) m' ys H3)):=by
 refine ⟨λi m ys H=>m=xs.length-i/\i<=xs.length/\Same H1 H/\H D=some (.lst ys)/\ys.length=i/\∀ j x y,xs[j]?=some x->ys[j]?=some y->Pr j x y H,
  ⟨_,rfl,Bi _,Same.upd hD,aB,rfl,λj x y _ h=>by simp at h⟩,?_⟩
 rintro i m ys H ⟨rfl,hi,sm,hDH,yl,pr⟩
 refine ⟨hDH,aP (by omega),?_⟩
 by_cases hlt:i<xs.length
 ·refine .inr ⟨Y.go i H sm hlt,λx H' y=>?_⟩
  obtain ⟨rfl,hx⟩:=Y.yld i H x H' sm hlt y;refine hs i x H' _ hx sm λy H4 s4 py=>?_;have hD4:=s4 _ _ hDH;have tk:Tk H4 (upd H4 D (.lst (ys++[y]))):=Tk.lst hD4;refine ⟨hD4,xs.length-(i+1),by omega,rfl,hlt,λb o hb=>?_,aB,by rw [Aq,yl];rfl,λj x' y' hx' hy'=>?_⟩
  ·rw [aE (aI hb hD)]
   exact s4 _ _ (sm _ _ hb)
  ·rcases yY hy' with ⟨_,hy'⟩|⟨e,e'⟩
   ·exact hP _ _ _ _ _ (hP _ _ _ _ _ (pr j x' y' hx' hy') (Same.tk s4)) tk
   ·subst e'
    have:j=i:=by omega
    subst this;rw [hx] at hx';cases hx';exact hP _ _ _ _ _ py tk
 ·have e:i=xs.length:=by omega
  subst e;exact .inl ⟨Y.stop _ H sm (Ao _),hd ys H sm hDH yl pr⟩
def rZ {X:Cx}{K:Ab}(h:X.K=K):IxR X (rIxL K):=h▸aW
def gM {X:Cx}{K:Ab}(h:X.K=K):IxR X (rIxT K):=h▸hJ
section
variable {prog:AF}{w:World}{A:Around}{E:Value->Shared->Prop}{s:Shared}
def aCl {it t:Addr}{i:Nat}(st:s.heap.IsTupleIter it t i)(hl:s.heap.IsTuple t its)(hx:its[i]?=some x)(q:∀ g,g.IsTupleIter it t (i+1)->Bq it s.heap g->Q x { s with heap:=g }):wpAny (model prog w) A (Dm (.ref it)) Q E s:=by
 obtain ⟨ob,e1,e2,e3⟩:=id st;obtain ⟨ot,e4,_,m,e5⟩:=hl;unfold Dm;refine Aa (BR (name:=DF "__next__") st.typeIs DZ (BG DZ st.typeIs F.entry_tuple_iterator_next ?_ (F.args_tuple_iterator_next_1 _)));refine Aa (m:=field (.ref it) 0) (Ct e1 e3 (x:=.ref t) rfl ?_);show wpAny _ _ (if (AN t==BI)=true then _ else (field (.ref it) 1 >>= _)) _ _ s;rw [if_neg (show ¬ (AN t==BI)=true from (λz=>nomatch z))];refine Aa (Ct e1 e3 (x:=.int i 0) rfl (Aa (m:=seqItems? (.ref t)) (wpAny_seqItems e4 e5 ?_)));simp only [Bz,hx];refine Aa (EV e1 e3 (by simp) (Ag ⟨x,rfl,Ag (q _ ⟨_,BB _ e1 (EG (Eu e3 _)),(Obj.cls_mapFields ..).trans e2,?_⟩ (Cd ..))⟩));rw [Eu e3];simp [rawInt]
def aCk {it t:Addr}{i:Nat}(hh:A.handled=none)(st:s.heap.IsTupleIter it t i)(hl:s.heap.IsTuple t its)(hx:its[i]?=none)(q:∀ g e,Heap.ExtBut it s.heap g->(∃ o,g.get? e=some o/\o.cls=.type "StopIteration")->E (.ref e) { s with heap:=g }):wpAny (model prog w) A (Dm (.ref it)) Q E s:=by
 obtain ⟨ob,e1,e2,e3⟩:=id st;obtain ⟨ot,e4,_,m,e5⟩:=hl;unfold Dm;refine Aa (BR (name:=DF "__next__") st.typeIs DZ (BG DZ st.typeIs F.entry_tuple_iterator_next ?_ (F.args_tuple_iterator_next_1 _)));refine Aa (m:=field (.ref it) 0) (Ct e1 e3 (x:=.ref t) rfl ?_);show wpAny _ _ (if (AN t==BI)=true then _ else (field (.ref it) 1 >>= _)) _ _ s;rw [if_neg (show ¬ (AN t==BI)=true from (λz=>nomatch z))];refine Aa (Ct e1 e3 (x:=.int i 0) rfl (Aa (m:=seqItems? (.ref t)) (wpAny_seqItems e4 e5 ?_)));simp only [Bz,hx];refine Aa (Dp (Aa (EV e1 e3 (by simp) (Aa (m:=newExc (.type "StopIteration") []) ?_))));simp only [newExc,newTuple];refine Aa (Be (Aa (m:=firstArgMember _ _) (Di (a:=BI) (by first|rfl|(simp only [firstArgMember];rfl)) (Be ?_ (by size_fits)))) (by size_fits));simp only [raiseNew];refine Aa (wpAny_handled ?_)
 first|rw [show A.in1.handled=none from hh]|rw [hh]
 exact Aa (Ag (wpAny_throw (q _ _ (((Cd ..).extBut.push _).push _) ⟨_,An _ rfl,rfl⟩)))
def sJ (hh:A.handled=none)(it t:Addr)(hne:t≠it)(its:Array Value) :
  Draws prog w A it [it,t] its.size (λi v=>its[i]?=some v) (λi h=>h.IsTupleIter it t i/\h.IsTuple t its) where
 live:=λ_ _ z=>let ⟨o,e,_⟩:=z.1;⟨o,e⟩
 frame:=λ_ _ _ z k=>⟨z.1.at λo e=>k it (by simp) o e,z.2.at λo e=>k t (by simp) o e⟩
 item:=λi s Q E hi z k=>aCl z.1 z.2 (x:=its[i]) (by simp [hi]) λg z' sb=>k _ g s.toks (by simp [hi]) ⟨z',z.2.extBut sb.extBut hne⟩ sb
 done:=λs Q E z k=>aCk hh z.1 z.2 (by simp) k
structure Ap (z TI TO i1 i2:Addr)(f1 f2:List Addr):Prop where
 a1:∀ b∈f1,b≠z/\b≠TO/\b≠i2
 a2:∀ b∈f2,b≠z/\b≠TO/\b≠i1
 m1:i1∈f1
 m2:i2∈f2
 tz:TI≠z
 tO:TI≠TO
 t1:TI≠i1
 t2:TI≠i2
 oz:TO≠z
section
variable {z TI TO i1 i2:Addr}{f1 f2:List Addr}{n1 n2 k:Nat}{P1 P2:Nat->Value->Prop}{S1 S2:Nat->Heap->Prop}{a b:Value}
end
end
def Itz (K:Ab)(a b:Addr):It:=
  ⟨λi H=>∃ xs ys,SqT K H a xs/\SqL K H b ys/\i<xs.length/\i<ys.length,
   λi H v H'=>∃ T,H T=none/\v=.ref T/\∀ xs ys,SqT K H a xs->SqL K H b ys->∃ x y,xs[i]?=some x/\ys[i]?=some y/\H'=upd H T (.tup [x,y]),
   λi H=>∃ xs ys,SqT K H a xs/\SqL K H b ys/\(i=xs.length\/(i<xs.length/\i=ys.length))⟩
def Inv.turnedL {X:Cx}{pins:List (Addr×Obj)}{σ:St}{H:Hp}{s:Shared}{h':Heap}{t':Nat}{ch:List Addr}(I:Inv X pins σ H s)(k:∀ b o,b∉ch->s.heap.get? b=some o->h'.get? b=some o)(hf:∀ b∈ch,FpOk X pins H b):Inv X pins σ H { s with heap:=h',toks:=t' }:=by
 have nit:∀ b u,H b=some u->b∉ch:=λb u e z=>by rw [(hf b z).1] at e;cases e
 refine I.step (g':=s.gens) (d':=s.drawn) (ch:=ch) (λb hb=>⟨(hf b hb).2.2.2.1,(hf b hb).2.1,(hf b hb).2.2.2.2.1,(hf b hb).2.2.2.2.2⟩) (λb o _ _ hc e _=>k b o hc e) (λb o _ _ hc e _=>⟨o.slots,k b o hc e⟩) (λ_ _ _ _ n=>n)
  (λb o hc e=>⟨o,k b o hc e⟩) (λ_ _ e=>e) (λ_ _ _ e=>e) (λb ps e=>⟨#[],by rw [e];simp⟩) (λm hm=>?_) (λb u e=>?_) I.bare
 ·obtain ⟨o,es,ep,ho,r⟩:=hm
  exact ⟨o,es,ep,k _ o (λz=>(hf _ z).2.1 rfl) ho,r⟩
 ·refine (I.hok b u e).stay (λc v hc q=>k c v ?_ q) (λ_ q=>q) λ_ _ q=>q
  rcases hc with z|z
  ·rw [z];exact nit b u e
  ·exact nit c _ z
def ZipSt (n a b:Nat)(i:Nat)(h:Heap):Prop:=IsZip h (n+4) (n+2) (n+3) .none/\IsPair h (n+2) (.ref n) (.ref (n+1))/\(∃ x y,IsPair h (n+3) x y)/\h.IsTupleIter n a i/\h.IsListIter (n+1) b i
abbrev zo1 (h:Heap)(a:Addr):Heap:=h.push { cls:=.type "tuple_iterator",data:=.fields #[.ref a,.int 0 0] }
abbrev zo2 (h:Heap)(a b:Addr):Heap:=(zo1 h a).push { cls:=.type "list_iterator",data:=.fields #[.ref b,.int 0 0] }
abbrev zo3 (h:Heap)(a b:Addr):Heap:=(zo2 h a b).push { cls:=.type "tuple",data:=.seq #[.ref h.objs.size,.ref (zo1 h a).objs.size] }
abbrev zo4 (h:Heap)(a b:Addr):Heap:=(zo3 h a b).push { cls:=.type "tuple",data:=.seq #[.none,.none] }
abbrev zo5 (h:Heap)(a b:Addr):Heap:=(zo4 h a b).push { cls:=.type "zip",data:=.fields #[.none,.bool false,.bool false,.ref (zo2 h a b).objs.size,.ref (zo3 h a b).objs.size] }
def iZip (K:Ab)(ta:TA):TI:=λσ H R=>ta σ H λvs H1=>∃ a b,vs=[.ref a,.ref b]/\(∃ xs,SqT K H1 a xs)/\(∃ ys,SqL K H1 b ys)/\R (Itz K a b) H1
section
variable {κ:Type}[DecidableEq κ]
def valV (kvs:List (κ×V))(k:κ):Option V:=(kvs.find? λkv=>decide (kv.1=k)).map (·.2)
def putK (kvs:List (κ×V))(k:κ)(v:V):List (κ×V):=
 if (kvs.any λkv=>decide (kv.1=k))=true then kvs.map (λkv=>if kv.1=k then (kv.1,v) else kv) else kvs++[(k,v)]
def bS (kvs:List (κ×V))(k:κ):List (κ×V):=kvs.filter λkv=>decide (kv.1≠k)
theorem bZ {r:List (κ×V)}(e:p.1=k):valV (p::r) k=some p.2:=by simp [valV,Er,e]
theorem bX {r:List (κ×V)}(e:¬ p.1=k):valV (p::r) k=valV r k:=by simp [valV,Er,e]
theorem eZ (k:κ):∀ kvs:List (κ×V),(kvs.any λkv=>decide (kv.1=k))=(valV kvs k).isSome
 |[]=>rfl
 |p::r=>by
  rw [List.any_cons]
  by_cases e:p.1=k
  ·simp only [bZ e,decide_eq_true e,Bool.true_or,Option.isSome_some]
  ·rw [bX e,decide_eq_false e,Bool.false_or];exact eZ k r
theorem qY (k j:κ)(y:V):∀ kvs:List (κ×V),valV (kvs.map λkv=>if kv.1=k then (kv.1,y) else kv) j=(valV kvs j).map λx=>if j=k then y else x
 |[]=>rfl
 |p::r=>by
  have ih:=qY k j y r;rw [Bb]
  by_cases h:p.1=k
  ·rw [if_pos h]
   by_cases e:p.1=j
   ·rw [bZ (p:=(p.1,y)) e,bZ e,EX,if_pos (e.symm.trans h)]
   ·rw [bX (p:=(p.1,y)) e,bX e,ih]
  ·rw [if_neg h]
   by_cases e:p.1=j
   ·rw [bZ (p:=p) e,bZ e,EX,if_neg (λz=>h (e.trans z))]
   ·rw [bX (p:=p) e,bX e,ih]
theorem mU (k j:κ)(y:V):∀ kvs:List (κ×V),valV kvs k=none->valV (kvs++[(k,y)]) j=if j=k then some y else valV kvs j
 |[],_=>by
  by_cases e:k=j
  ·rw [if_pos e.symm];exact bZ (p:=(k,y)) e
  ·rw [if_neg (λz=>e z.symm)];exact bX (p:=(k,y)) e
 |p::r,hn=>by
  rw [List.cons_append];have hk:¬ p.1=k:=λz=>by rw [bZ z] at hn;cases hn
  rw [bX hk] at hn;have ih:=mU k j y r hn
  by_cases e:p.1=j
  ·rw [bZ e,bZ e,if_neg (λz=>hk (e.trans z))]
  ·rw [bX e,bX e,ih]
theorem eY (kvs:List (κ×V))(k j:κ)(y:V):valV (putK kvs k y) j=if j=k then some y else valV kvs j:=by
 unfold putK
 by_cases a:(kvs.any λkv=>decide (kv.1=k))=true
 ·rw [if_pos a,qY]
  rw [eZ] at a
  by_cases e:j=k
  ·obtain ⟨x,hx⟩:=BY.mp a
   rw [if_pos e,e,hx,EX,if_pos rfl]
  ·rw [if_neg e]
   cases valV kvs j with
   |none=>rfl
   |some x=>rw [EX,if_neg e]
 ·rw [if_neg a]
  refine mU k j y kvs ?_;rw [eZ] at a;cases q:valV kvs k with
  |none=>rfl
  |some x=>rw [q] at a;exact (a rfl).elim
def eK (kvs:List (κ×V))(k:κ)(v:V):(putK kvs k v).length<=kvs.length+1:=by
 unfold putK;split
 ·rw [Ac];omega
 ·rw [Aq,AI,Ep];omega
theorem RelO.isSome_eq {u:Option Value}(r:RelO o u):o.isSome=u.isSome:=by
 cases o with
 |none=>cases u with
  |none=>rfl
  |some _=>exact (show False from r).elim
 |some _=>cases u with
  |none=>exact (show False from r).elim
  |some _=>rfl
theorem RelO.getD {u:Option Value}{d:V}(r:RelO o u)(rd:RelV d d'):RelV (o.getD d) (u.getD d'):=by
 cases o with
 |none=>cases u with
  |none=>exact rd
  |some _=>exact (show False from r).elim
 |some _=>cases u with
  |none=>exact (show False from r).elim
  |some _=>exact r
theorem KV.val (r:KV kvs vs)(k:κ):RelO (valV kvs k) (valueAt vs k):=by
 unfold KV at r
 induction r with
 |nil=>exact DN
 |@cons p q ps qs h t ih=>
  obtain ⟨h1,h2⟩:=h
  by_cases e:p.1=k
  ·have e':q.1=k:=h1.symm.trans e
   have b:valueAt (q::qs) k=some q.2:=by simp [valueAt,Er,e']
   rw [bZ e,b];exact h2
  ·have e':¬ q.1=k:=λz=>e (h1.trans z)
   have b:valueAt (q::qs) k=valueAt qs k:=by simp [valueAt,Er,e']
   rw [bX e,b];exact ih
theorem KV.any (r:KV kvs vs)(k:κ):(kvs.any λkv=>decide (kv.1=k))=vs.any λkv=>decide (kv.1=k):=by
 unfold KV at r
 induction r with
 |nil=>rfl
 |cons h t ih=>rw [List.any_cons,List.any_cons,ih,h.1]
def KV.repl (r:KV kvs vs)(k:κ){u:Value}(ry:RelV y u) :
  KV (kvs.map λkv=>if kv.1=k then (kv.1,y) else kv) (vs.map λkv=>if kv.1=k then (kv.1,u) else kv):=by
 unfold KV at r ⊢
 induction r with
 |nil=>exact .nil
 |@cons p q ps qs h t ih=>
  rw [Bb,Bb];refine .cons ?_ ih;obtain ⟨h1,h2⟩:=h
  by_cases e:p.1=k
  ·rw [if_pos e,if_pos (h1.symm.trans e)];exact ⟨h1,ry⟩
  ·rw [if_neg e,if_neg (λz=>e (h1.trans z))];exact ⟨h1,h2⟩
def KV.put (r:KV kvs vs)(k:κ){u:Value}(ry:RelV y u):KV (putK kvs k y) (stored vs k u):=by
 unfold putK stored;rw [r.any k]
 by_cases e:(vs.any λkv=>decide (kv.1=k))=true
 ·rw [if_pos e,if_pos e];exact r.repl k ry
 ·rw [if_neg e,if_neg e];exact Paired.snoc r ⟨rfl,ry⟩
theorem KV.length (r:KV kvs vs):kvs.length=vs.length:=CH r
def sI (kvs:List (κ×V))(k:κ):(bS kvs k).length<=kvs.length:=BM _ _
end
def xM {u:Value}(r:RelV (kV k) u):(cH P w).is k u=true:=by
 cases k with
 |inl i=>obtain ⟨t,e⟩:=(show ∃ t,u=Value.int i t from r);subst e;exact qD P w i t
 |inr x=>obtain ⟨t,e⟩:=(show ∃ t,u=Value.str x t from r);subst e;exact qC P w x t
theorem oB :∀ {ks:List Key} {us:List Value},Vals (ks.map kV) us->ItemsAre (cH P w) ks us
 |[],_,r=>by rw [List.map_nil] at r;cases r;exact .nil
 |k::ks,_,r=>by
  rw [Bb] at r;cases r with
  |cons h t=>exact .cons (xM h) (oB t)
abbrev KT (H:Hp):List (List Key×V)->List (List Key×Addr×Value)->Prop:=Paired λp q=>p.1=q.1/\H q.2.1=some (.tup (p.1.map kV))/\RelV p.2 q.2.2
theorem KT.val (r:KT H kvs xs)(k:List Key):RelO (valV kvs k) ((atKey xs k).map (·.2)):=by
 induction r with
 |nil=>exact DN
 |@cons p q ps qs h t ih=>
  obtain ⟨h1,_,h2⟩:=h
  by_cases e:p.1=k
  ·have e':q.1=k:=h1.symm.trans e
   have b:atKey (q::qs) k=some q.2:=by simp [atKey,Er,e']
   rw [bZ e,b];exact h2
  ·have e':¬ q.1=k:=λz=>e (h1.trans z)
   have b:atKey (q::qs) k=atKey qs k:=by simp [atKey,Er,e']
   rw [bX e,b];exact ih
def KT.repl (r:KT H kvs xs)(k:List Key){u:Value}(ry:RelV y u) :
  KT H (kvs.map λkv=>if kv.1=k then (kv.1,y) else kv) (xs.map (putAt k u)):=by
 induction r with
 |nil=>exact .nil
 |@cons p q ps qs h t ih=>
  rw [Bb,Bb];refine .cons ?_ ih;obtain ⟨h1,h2,h3⟩:=h;unfold putAt
  by_cases e:p.1=k
  ·rw [if_pos e,if_pos (h1.symm.trans e)];exact ⟨h1,h2,ry⟩
  ·rw [if_neg e,if_neg (λz=>e (h1.trans z))];exact ⟨h1,h2,h3⟩
def KT.put (r:KT H kvs xs)(k:List Key){b:Addr}{u:Value}(hb:H b=some (.tup (k.map kV)))(ry:RelV y u) :
  KT H (putK kvs k y) (storedH xs k b u):=by
 have e:(kvs.any λkv=>decide (kv.1=k))=(atKey xs k).isSome:=by
  rw [eZ,(r.val k).isSome_eq,Option.isSome_map]
 unfold putK storedH;rw [e]
 by_cases q:(atKey xs k).isSome=true
 ·rw [if_pos q,if_pos q];exact r.repl k ry
 ·rw [if_neg q,if_neg q];exact Paired.snoc r ⟨rfl,hb,ry⟩
def KT.keeps (r:KT H kvs xs)(ht:∀ b ys,H b=some (.tup ys)->H' b=some (.tup ys)):KT H' kvs xs:=
 Paired.mapP r λ_ _ z=>⟨z.1,ht _ _ z.2.1,z.2.2⟩
section
variable {P:AF}{w:World}{H:Hp}{h:Heap}{a:Addr}
def aFd {u:HO}(ok:HOk P w H h)(e:Rd H a u):ObjOk P w H h a u:=e.ok ok
def uF (ok:HOk P w H h)(e:Rd H a (.dK kvs)):kvs.length<=AE/\(a==Ed)=false/\∃ vs,KV kvs vs/\h.DictOf (cH P w) a vs:=
 show ObjOk P w H h a (.dK kvs) from aFd ok e
def aHk (ok:HOk P w H h)(e:H a=some (.dK kvs)):kvs.length<=AE/\(a==Ed)=false/\∃ vs,KV kvs vs/\h.DictOf (cH P w) a vs:=uF ok (.inl e)
def kR (ok:HOk P w H h)(e:H a=some (.tup (ks.map kV))):(tupleKind (cH P w)).is h ks a:=by
 obtain ⟨_,its,r,o,h1,h2,n,h3⟩:=(show ObjOk P w H h a (.tup (ks.map kV)) from ok a _ e);exact ⟨o,its.toArray,n,h1,h2,h3,by simpa using oB r⟩
def uE (ok:HOk P w H h)(e:Rd H a (.dT kvs)):kvs.length<=AE/\(a==Ed)=false /\
  ∃ xs,KT H kvs xs/\h.DictOfH (tupleKind (cH P w)) a xs:=by
 obtain ⟨z,y,xs,r,o,es,ep,h1,h2,h3,h4,h5⟩:=(show ObjOk P w H h a (.dT kvs) from aFd ok e);refine ⟨z,y,xs,r,o,es,ep,h1,h2,h3,h4,λx hx=>?_,h5⟩;have all:∀ {l:List (List Key×V)} {m:List (List Key×Addr×Value)},KT H l m->∀ x∈m,(tupleKind (cH P w)).is h x.1 x.2.1:=by
  intro l m q
  induction q with
  |nil=>intro x hx;exact nomatch hx
  |@cons p q ps qs hq t ih=>
   intro x hx
   rcases Aw.mp hx with e|hx
   ·subst e
    exact kR ok (by rw [<- hq.1];exact hq.2.1)
   ·exact ih x hx
 exact all r x hx
def aGd (ok:HOk P w H h)(e:H a=some (.dT kvs)):kvs.length<=AE/\(a==Ed)=false /\
  ∃ xs,KT H kvs xs/\h.DictOfH (tupleKind (cH P w)) a xs:=uE ok (.inl e)
end
def DGet (H:Hp)(a:Addr)(y:V)(r:Option V):Prop:=
 (∃ kvs k,Rd H a (.dK kvs)/\y=kV k/\r=valV kvs k)\/∃ kvs k b,Rd H a (.dT kvs)/\y=.ref b/\H b=some (.tup (k.map kV))/\r=valV kvs k
def DPut (H:Hp)(a:Addr)(y v:V)(H':Hp):Prop:=
 (∃ kvs k,H a=some (.dK kvs)/\y=kV k/\kvs.length<AE/\H'=upd H a (.dK (putK kvs k v))) \/
 ∃ kvs k b,H a=some (.dT kvs)/\y=.ref b/\H b=some (.tup (k.map kV))/\kvs.length<AE/\H'=upd H a (.dT (putK kvs k v))
theorem DGet.t {a b:Addr}(e:H a=some (.dT kvs))(eb:H b=some (.tup (k.map kV))):DGet H a (.ref b) (valV kvs k):=.inr ⟨kvs,k,b,.inl e,rfl,eb,rfl⟩
theorem DPut.t {a b:Addr}(e:H a=some (.dT kvs))(eb:H b=some (.tup (k.map kV)))(hl:kvs.length<AE) :
  DPut H a (.ref b) v (upd H a (.dT (putK kvs k v))):=.inr ⟨kvs,k,b,e,rfl,eb,hl,rfl⟩
section
variable {X:Cx}{pins:List (Addr×Obj)}{σ:St}{H:Hp}{s:Shared}{a:Addr}{y v:V}{u r:Value}{o:Option V}{A:Around}{E:Value->Shared->Prop}
def Inv.big (I:Inv X pins σ H s):Ed<s.heap.objs.size:=by
 have h:As<s.heap.objs.size:=(I.mod.glob.keeps I.bk).lt;exact DG (by decide) h
def yF (hu:A.units+1<cLine)(I:Inv X pins σ H s)(g:DGet H a y (some v))(ry:RelV y u)(h:∀ w' s',Inv X pins σ H s'->RelV v w'->Q w' s') :
  wpAny (model X.prog X.w) A (getItem (.ref a) u) Q E s:=by
 rcases g with ⟨kvs,k,e,ey,l⟩|⟨kvs,k,b,e,ey,eb,l⟩
 ·subst ey
  obtain ⟨z,hd,vs,rel,dd⟩:=uF I.hok e;obtain ⟨w',hw,rw'⟩:=RelO.some_of (v:=v) (o:=valueAt vs k) (by rw [l];exact rel.val k);exact wpAny_getItem_of (xM ry) dd.mapOf hw (h w' _ (I.tok _) rw')
 ·subst ey
  cases (show u=AN b from ry);obtain ⟨z,hd,xs,rel,dd⟩:=uE I.hok e;obtain ⟨w',hw,rw'⟩:=RelO.some_of (v:=v) (o:=(atKey xs k).map (·.2)) (by rw [l];exact rel.val k);obtain ⟨p,hp,hp2⟩:=Cf.mp hw;refine wpAny_getItem_heap (EC hu) (kR I.hok eb) dd hp ?_;rw [hp2];exact h w' _ (I.tok _) rw'
def aEd (hu:A.units+1<cLine)(I:Inv X pins σ H s)(g:DGet H a y o)(ry:RelV y u)(h:∀ s',Inv X pins σ H s'->Q (.bool (!o.isSome)) s') :
  wpAny (model X.prog X.w) A (BO .NotIn u (.ref a)) Q E s:=by
 rcases g with ⟨kvs,k,e,ey,l⟩|⟨kvs,k,b,e,ey,eb,l⟩
 ·subst ey
  obtain ⟨z,hd,vs,rel,dd⟩:=uF I.hok e;refine wpAny_notIn_of (xM ry) hd dd.mapOf ?_;rw [<- (rel.val k).isSome_eq,<- l];exact h _ (I.tok _)
 ·subst ey
  cases (show u=AN b from ry);obtain ⟨z,hd,xs,rel,dd⟩:=uE I.hok e;refine wpAny_notIn_heap (EC hu) (kR I.hok eb) hd dd ?_;have q:=(rel.val k).isSome_eq;rw [Option.isSome_map] at q;rw [<- q,<- l];exact h _ (I.tok _)
def qR {t':Nat}(I:Inv X pins σ H s)(mu:Mut (H a))(hs:Bq a s.heap h')(he:∃ q,h'.get? a=some q)(new:ObjOk X.prog X.w (upd H a ob) h' a ob) :
  Inv X pins σ (upd H a ob) { s with heap:=h',toks:=t' }:=
 I.write (x:=a) (e:=a) mu (.inl rfl) (λb q hb z=>(hs.2 b hb).trans z) he new
def aGe (z:kvs.length<=AE)(hd:(a==Ed)=false)(rel:KV kvs vs)(dd:h'.DictOf (cH P w) a vs) :
  ObjOk P w H' h' a (.dK kvs):=⟨z,hd,vs,rel,dd⟩
def yE (hu:A.units+1<cLine)(I:Inv X pins σ H s)(g:DPut H a y v H')(ry:RelV y u)(rv:RelV v r)(h:∀ s',Inv X pins σ H' s'->Q () s') :
  wpAny (model X.prog X.w) A (setItem (.ref a) u r) Q E s:=by
 rcases g with ⟨kvs,k,e,ey,l,eH⟩|⟨kvs,k,b,e,ey,eb,l,eH⟩
 ·subst ey eH
  obtain ⟨z,hd,vs,rel,dd⟩:=aHk I.hok e;have hz:vs.length<=AE:=by rw [<- rel.length];exact z
  have hl:(putK kvs k v).length<=AE:=by have:=eK kvs k v;omega
  refine wpAny_setItem_pairs (hsz:=hz) (xM ry) dd λh' dd' hs=>h _ ?_;have he:∃ q,h'.get? a=some q:=let ⟨q,_,_,hq,_⟩:=dd';⟨q,hq⟩;exact qR I (by rw [e];exact DN) hs he (aGe hl hd (rel.put k rv) dd')
 ·subst ey eH
  cases (show u=AN b from ry);obtain ⟨z,hd,xs,rel,dd⟩:=aGd I.hok e;have hz:xs.length<=AE:=by rw [<- CH rel];exact z
  have hl:(putK kvs k v).length<=AE:=by have:=eK kvs k v;omega
  refine wpAny_setItem_heap (hsz:=hz) (EC hu) (kR I.hok eb) dd λh' dd' hs=>h _ ?_;obtain ⟨q,es,ep,hq,h2,h3,h4,_,h5⟩:=dd';refine qR I (by rw [e];exact DN) hs ⟨q,hq⟩ ⟨hl,hd,_,(rel.put k eb rv).keeps λc ys ec=>?_,q,es,ep,hq,h2,h3,h4,h5⟩;rw [aE (bG ec e (λz=>nomatch z))];exact ec
end
section
variable {X:Cx}{pins:List (Addr×Obj)}{σ:St}{H:Hp}{s:Shared}{a:Addr}{kvs:List (Key×V)}{k:Key}{u:Value}{A:Around}{E:Value->Shared->Prop}
end
def NoSl (i:Expr):Prop:=∀ ov iv,subscripted i false ov iv=operate [ov,iv] (getItem ov iv)
def aCs {prog:AF}{w:World}{A:Around}{E:Value->Shared->Prop}{s:Shared}{env:Env}{value slice:Expr}{pos:Pos}{T id:String}{Q:Value->Shared->Prop}
  (hl:typeLookup (.type T) "__getitem__" = pure (some (.builtin id))) (hs:NoSl slice)
  (h:wpAny (model prog w) A (eval value env) (λo s₁=>wpAny (model prog w) A (eval slice env) (λi s₂=>s₂.TypeIs o T/\wpAny (model prog w) A (getItem o i) Q E s₂) E s₁) E s) :
  wpAny (model prog w) A (eval (.Subscript value slice pos) env) Q E s:=by
 refine Subscript_ (BH h (λo s₁ h₁=>BH h₁ (λi s₂ h₂=>?_) λ_ _ x=>x) λ_ _ x=>x);obtain ⟨hT,h₂⟩:=h₂;unfold subscriptTail;refine Aa ?_;rw [getitemInPython_of_ne hT.not_modules];refine Aa (wpAny_specialOf hT hl ?_);have fin:wpAny (model prog w) A (subscripted slice false o i) (λr s₃=>wpAny (model prog w) A (letTemporaryGo value o r >>= λ_=>pure r) Q E s₃) E s₂:=by
  rw [hs o i];exact wpAny_operating (BH h₂ (λr s₃ h₃=>Aa (wpAny_letTemporaryGo (Ag h₃))) λ_ _ x=>x)
 first
  |exact Ag (Aa fin)
  |exact Aa (Ag (Aa fin))
  |exact Aa fin
def qQ {σ:St}{s:Shared}{a:Addr}(I:Inv X pins σ H s)(g:DGet H a y o):s.TypeIs (.ref a) "dict":=by
 rcases g with ⟨kvs,k,e,_,_⟩|⟨kvs,k,b,e,_,_,_⟩
 ·obtain ⟨_,_,vs,_,dd⟩:=uF I.hok e
  exact dd.typeIs
 ·obtain ⟨_,_,xs,_,dd⟩:=uE I.hok e
  exact dd.typeIs
def aGx (td ty:TE):TE:=λσ H Q=>td σ H λx H1=>ty σ H1 λy H2=>∃ a v,x=.ref a/\DGet H2 a y (some v)/\Q v H2
def tDIn (ty td:TE):TE:=λσ H Q=>ty σ H λy H1=>td σ H1 λx H2=>∃ a o,x=.ref a/\DGet H2 a y o/\Q (.bl o.isSome) H2
def aCo (ty td:TE):TE:=λσ H Q=>ty σ H λy H1=>td σ H1 λx H2=>∃ a o,x=.ref a/\DGet H2 a y o/\Q (.bl (!o.isSome)) H2
def aG1 (td ty tv:TE):TS:=λD σ H=>tv σ H λv H1=>td σ H1 λx H2=>ty σ H2 λy H3=>∃ a H4,x=.ref a/\DPut H3 a y v H4/\D.nx σ H4
def sDAug (td ty tv:TE)(rd:V->V->Hp->VK->Prop):TS:=λD σ H=>td σ H λx H1=>ty σ H1 λy H2=>∃ a v,x=.ref a/\DGet H2 a y (some v) /\
 tv σ H2 λy2 H3=>rd v y2 H3 λz H4=>∃ H5,DPut H4 a y z H5/\D.nx σ H5
def sDDel (td ty:TE):TS:=λD σ H=>td σ H λx H1=>ty σ H1 λy H2=>∃ a kvs k,x=.ref a/\H2 a=some (.dK kvs)/\y=kV k/\(valV kvs k).isSome=true/\D.nx σ (upd H2 a (.dK (bS kvs k)))
section
variable {X:Cx}{o i e value:Expr}{pos pos' tpos:Pos}{td ty tv:TE}
def jC (hu:X.A.units+1<cLine)(ho:PE X o td)(hi:PE X i ty)(hs:NoSl i):PE X (.Subscript o i pos) (aGx td ty):=by
 intro pins s σ H Q I h;refine aCs PySem.F.slot_dict_getitem.lookup hs (thn (ho pins s σ H _ I h) λu s1 ⟨x,H1,I1,rx,q1⟩=>thn (hi pins s1 σ H1 _ I1 q1) λiv s2 ⟨y,H2,I2,ry,a,v,ex,g,q2⟩=>?_);subst ex;obtain rfl:u=AN a:=rx;exact ⟨qQ I2 g,yF hu I2 g ry λw' s3 I3 rw'=>⟨v,H2,I3,rw',q2⟩⟩
def vY (hu:X.A.units+1<cLine)(hi:PE X i ty)(ho:PE X o td):PC X .NotIn i o (aCo ty td):=by
 intro pins s σ H Q I h;refine thn (hi pins s σ H _ I h) λiv s1 ⟨y,H1,I1,ry,q1⟩=>thn (ho pins s1 σ H1 _ I1 q1) λu s2 ⟨x,H2,I2,rx,a,ov,ex,g,q2⟩=>?_;subst ex;obtain rfl:u=AN a:=rx;exact aEd hu I2 g ry λs3 I3=>⟨.bl (!ov.isSome),H2,I3,rfl,q2⟩
def pW (hu:X.A.units+1<cLine)(ho:PE X o td)(hi:PE X i ty)(hv:PE X value tv)(hs:swapsWith value (some (.Subscript o i pos')) pos.line X.env=pure false) :
  PS X (.Assign [.Subscript o i pos'] value pos) (aG1 td ty tv):=by
 intro pins s σ H D I h;refine wpAny_Assign_Subscript (thn (hv pins s σ H _ I h) λr s1 ⟨v,H1,I1,rv,q1⟩=>thn (ho pins s1 σ H1 _ I1 q1) λu s2 ⟨x,H2,I2,rx,q2⟩=>thn (hi pins s2 σ H2 _ I2 q2) λiv s3 ⟨y,H3,I3,ry,a,H4,ex,g,q3⟩=>?_) hs;subst ex;obtain rfl:u=AN a:=rx;exact yE hu I3 g ry rv λs4 I4=>⟨σ,H4,I4,q3⟩
end
def aBc (h:Heap)(hb:Ed<h.objs.size):ObjOk P w H (h.push { cls:=.type "dict",data:=.dict #[] }) h.objs.size (.dT []):=
 ⟨Bi _,beq_eq_false_iff_ne.mpr (BU (AG hb)),[],.nil,_,#[],0,An _ rfl,⟨rfl,rfl,rfl⟩,rfl,rfl,Cp⟩
def tDNewK:TE:=λ_ H Q=>∀ p,H p=none->Q (.ref p) (upd H p (.dK []))
def aEz:TE:=λ_ H Q=>∀ p,H p=none->Q (.ref p) (upd H p (.dT []))
section
variable {X:Cx}{pos:Pos}
def rO:PE X (.Dict [] [] pos) aEz:=λpins s σ H Q I h=>
 wpAny_Dict_empty ⟨.ref s.heap.objs.size,_,I.laid (a:=s.heap.objs.size) (o:=.dT []) (t':=s.toks) (λ_ _ q=>Ae _ q) (Ao _) (aBc s.heap I.big),rfl,h _ (I.hok.fresh (Ao _))⟩
end
def uR:List (TE×TE)->St->Hp->(List (V×V)->Hp->Prop)->Prop
  |[],_,H,Q=>Q [] H
  |(tk,tv)::r,σ,H,Q=>tk σ H λx H1=>tv σ H1 λy H2=>uR r σ H2 λps H3=>Q ((x,y)::ps) H3
abbrev VV:List (V×V)->List (Value×Value)->Prop:=Paired λp q=>RelV p.1 q.1/\RelV p.2 q.2
def PPs (X:Cx)(pos:Pos)(keys:List (Option Expr))(values:List Expr)(trs:List (TE×TE)):Prop:=
 ∀ (pins:List (Addr×Obj)) (s:Shared) (σ:St) (H:Hp) (Q:List (V×V)->Hp->Prop),Inv X pins σ H s->uR trs σ H Q ->
  wpAny (model X.prog X.w) X.A (evalPairs (pairTrees keys values X.env pos)) (λvs s'=>∃ ps H',Inv X pins σ H' s'/\VV ps vs/\Q ps H') X.xe s
def aB2 (kvs more:List (Key×V)):List (Key×V):=more.foldl (λacc kv=>putK acc kv.1 kv.2) kvs
def tDisp (trs:List (TE×TE)):TE:=λσ H Q=>∀ p,H p=none->uR trs σ (upd H p (.dK [])) λps H2=>H2 p=some (.dK [])/\∃ kvs:List (Key×V),ps=kvs.map (λkv=>(kV kv.1,kv.2))/\kvs.length<=15/\Q (.ref p) (upd H2 p (.dK (aB2 [] kvs)))
structure M1 (X:Cx)(o:Expr)(m:Str)(apos:Pos)(e:Expr)(cpos:Pos):Prop where
 base:Ee o m X.env (eval o X.env)=eval o X.env
 few:((backTo cpos (AV [e] X.env)).all (λx=>!x.1)&&(backToKw cpos (Dy [] X.env)).all (λx=>x.1.isSome)
  && decide (([e]:List Expr).length+([]:List Keyword).length+(if ([]:List Keyword).isEmpty then 0 else 1)<30))=true
 line:(apos.endLine==cpos.line)=true
 trees:backTo cpos (AV [e] X.env)=[(false,eval e X.env)]
structure M2 (X:Cx)(o:Expr)(m:Str)(apos:Pos)(e f:Expr)(cpos:Pos):Prop where
 base:Ee o m X.env (eval o X.env)=eval o X.env
 few:((backTo cpos (AV [e,f] X.env)).all (λx=>!x.1)&&(backToKw cpos (Dy [] X.env)).all (λx=>x.1.isSome)
  && decide (([e,f]:List Expr).length+([]:List Keyword).length+(if ([]:List Keyword).isEmpty then 0 else 1)<30))=true
 line:(apos.endLine==cpos.line)=true
 trees:backTo cpos (AV [e,f] X.env)=[(false,eval e X.env),(false,eval f X.env)]
def IsD (H:Hp)(a:Addr):Prop:=(∃ kvs,Rd H a (.dK kvs))\/∃ kvs,Rd H a (.dT kvs)
def aB6 {σ:St}{s:Shared}{a:Addr}(I:Inv X pins σ H s)(d:IsD H a) :
  s.TypeIs (.ref a) "dict" /\ (∀ b,AN a=.ref b->∃ ob,s.heap.get? b=some ob/\ob.dict=none)/\(a==Ed)=false:=by
 rcases d with ⟨kvs,e⟩|⟨kvs,e⟩
 ·obtain ⟨_,hd,vs,_,dd⟩:=uF I.hok e
  refine ⟨dd.typeIs,λb q=>?_,hd⟩;cases q;obtain ⟨ob,_,_,h1,h2,_⟩:=dd;exact ⟨ob,h1,h2.2.1⟩
 ·obtain ⟨_,hd,xs,_,dd⟩:=uE I.hok e
  refine ⟨dd.typeIs,λb q=>?_,hd⟩;cases q;obtain ⟨ob,_,_,h1,h2,_⟩:=dd;exact ⟨ob,h1,h2.2.1⟩
section
variable {X:Cx}{pins:List (Addr×Obj)}{σ:St}{H:Hp}{s:Shared}{a:Addr}{y d:V}{u r:Value}{o:Option V}{A:Around}{E:Value->Shared->Prop}
def aGh (hu:A.units+1<cLine)(I:Inv X pins σ H s)(g:DGet H a y o)(ry:RelV y u)(rd:RelV d r)(h:∀ w' s',Inv X pins σ H s'->RelV (o.getD d) w'->Q w' s') :
  wpAny (model X.prog X.w) A (call (.builtin "dict.get") [.ref a,u,r]) Q E s:=by
 rcases g with ⟨kvs,k,e,ey,l⟩|⟨kvs,k,b,e,ey,eb,l⟩
 ·subst ey
  obtain ⟨z,hd,vs,rel,dd⟩:=uF I.hok e;refine call_meetsIn PySem.F.slot_dict_get dd.typeIs PySem.F.entry_dict_get (PySem.F.args_dict_get_3 _ _ _) (meets_dict_get_default (cH X.prog X.w) a (xM ry) hd r) ⟨_,dd.mapOf,h _ _ (I.tok _) ?_⟩;rw [l];exact (rel.val k).getD rd
 ·subst ey
  cases (show u=AN b from ry);obtain ⟨z,hd,xs,rel,dd⟩:=uE I.hok e;refine call_meetsIn PySem.F.slot_dict_get dd.typeIs PySem.F.entry_dict_get (PySem.F.args_dict_get_3 _ _ _) (meetsH_dict_get_default (tupleKind (cH X.prog X.w)) a b hd r) ⟨EC hu,k,xs,kR I.hok eb,dd,h _ _ (I.tok _) ?_⟩;rw [l];exact (rel.val k).getD rd
end
def tDGet1 (td ty:TE):TE:=λσ H Q=>td σ H λx H1=>∃ a,x=.ref a/\IsD H1 a/\ty σ H1 λy H2=>∃ o,DGet H2 a y o/\Q (o.getD .non) H2
def aE0 (td ty tx:TE):TE:=λσ H Q=>td σ H λx H1=>∃ a,x=.ref a/\IsD H1 a/\ty σ H1 λy H2=>tx σ H2 λz H3=>∃ o,DGet H3 a y o/\Q (o.getD z) H3
def tDPop1 (td ty:TE):TE:=λσ H Q=>td σ H λx H1=>∃ a,x=.ref a/\IsD H1 a/\ty σ H1 λy H2=>∃ kvs k v,H2 a=some (.dK kvs)/\y=kV k/\valV kvs k=some v/\Q v (upd H2 a (.dK (bS kvs k)))
def tDPop2 (td ty tx:TE):TE:=λσ H Q=>td σ H λx H1=>∃ a,x=.ref a/\IsD H1 a/\ty σ H1 λy H2=>tx σ H2 λz H3=>∃ kvs k,H3 a=some (.dK kvs)/\y=kV k /\
 (∀ v,valV kvs k=some v->Q v (upd H3 a (.dK (bS kvs k))))/\(valV kvs k=none->Q z H3)
section
variable {X:Cx}{o e f:Expr}{apos cpos:Pos}{td ty tx:TE}
def zW (hu:X.A.units+1<cLine)(ho:PE X o td)(he:PE X e ty)(hf:PE X f tx)(m:M2 X o "get" apos e f cpos):PE X (.Call (.Attribute o "get" apos) [e,f] [] cpos) (aE0 td ty tx):=by
 intro pins s σ H Q I h;refine wpAny_Call_method m.base m.few m.line PySem.F.plainAttrs_dict PySem.F.slot_dict_get PySem.F.type_dict_get (thn (ho pins s σ H _ I h) λu s1 ⟨x,H1,I1,rx,a,ex,d,q1⟩=>?_);subst ex;obtain rfl:u=AN a:=rx;obtain ⟨t1,t2,_⟩:=aB6 I1 d;refine ⟨t1,t2,?_⟩;rw [m.trees];refine Du rfl (EL (CM (thn (he pins s1 σ H1 _ I1 q1) λiv s2 ⟨y,H2,I2,ry,q2⟩=>
  CM (thn (hf pins s2 σ H2 _ I2 q2) λfv s3 ⟨z,H3,I3,rz,ov,g,q3⟩=>DJ ?_))))
 exact aGh hu I3 g ry rz λw' s4 I4 rw'=>⟨_,H3,I4,rw',q3⟩
end
section
variable {X:Cx}{pins:List (Addr×Obj)}{σ:St}{H:Hp}{s:Shared}{a:Addr}{kvs:List (Key×V)}{A:Around}{E:Value->Shared->Prop}
end
section
variable {X:Cx}{pins:List (Addr×Obj)}{σ:St}{H:Hp}{s:Shared}{a:Addr}{y:V}{u:Value}{A:Around}{E:Value->Shared->Prop}
end
def kG :∀ {us:List Value},Vals (ss.map V.str) us->StrsAre us ss:=by
 induction ss with
 |nil=>intro us r;rw [List.map_nil] at r;cases r;exact .nil
 |cons n ns ih=>
  intro us r;rw [Bb] at r;cases r with
  |cons r1 r2=>
   obtain ⟨t,rfl⟩:=r1;exact .cons _ _ (ih r2)
theorem eQ:∀ {us:List Value} {ss:List Str},StrsAre us ss->Vals (ss.map V.str) us
 |_,_,.nil=>.nil
 |_,_,.cons _ _ h=>.cons ⟨_,rfl⟩ (eQ h)
theorem gS:∀ {us:List Value} {ns:List Int},DH us ns->Vals (ns.map V.int) us
 |_,_,.nil=>.nil
 |_,_,.cons _ _ h=>.cons ⟨_,rfl⟩ (gS h)
def nW {a:Addr}{e:Nat}(hv:Vals xs its)(hz:xs.length<=AE)(ho:h.get? a=some (seqObj "list" its.toArray e)):ObjOk P w H h a (.lst xs):=⟨hz,its,e,hv,ho⟩
section
variable {X:Cx}
def aFf (K:Ab):List V->Hp->VK->Prop:=λxs H Q=>∃ a,∃ ss:List Str,xs=[.ref a]/\SqL K H a (ss.map V.str)/\ss.length<64/\∀ (p:Addr) (ss':List Str),ss'.Perm ss->sortedS ss'=true->H p=none->Q (.ref p) (upd H p (.lst (ss'.map V.str)))
def kZ:eX X (.builtin "sorted") (aFf X.K):=by
 intro pins s σ H xs us Q I r h;obtain ⟨a,ss,rfl,hq,h64,q⟩:=h;obtain ⟨u,rfl,rx⟩:=vals1 r;cases rx;obtain ⟨its,r',pl,hz⟩:=I.list hq;have hl:=r'.length;rw [Ac] at hl;refine sorted_strs (pl.isList) (kG r') (by omega) λout ss' a1 a2 a3=>?_;obtain ⟨e,he⟩:=sortedAll_at s.heap its out;refine ⟨.ref (s.heap.objs.size+1),_,I.laid (a:=s.heap.objs.size+1) (o:=.lst (ss'.map V.str)) (t':=s.toks) (λ_ _=>sortedAll_old) (Cb _) (nW (its:=out.toList) (e:=e) (eQ a1) ?_ (by rw [DV];exact he)),rfl,q _ ss' a2 a3 (I.hok.fresh (Cb _))⟩;rw [Ac,a2.length_eq];exact bL (by omega)
def rSortI (K:Ab):List V->Hp->VK->Prop:=λxs H Q=>∃ a,∃ ns:List Int,xs=[.ref a]/\SqL K H a (ns.map V.int)/\ns.length<64/\∀ (p:Addr) (ns':List Int),ns'.Perm ns->ns'.Pairwise (·<=·)->H p=none->Q (.ref p) (upd H p (.lst (ns'.map V.int)))
def rSortDS:List V->Hp->VK->Prop:=λxs H Q=>∃ a kvs,∃ ss:List Str,xs=[.ref a]/\H a=some (.dK kvs)/\kvs.map (·.1)=ss.map Sum.inr/\kvs.length<64/\∀ (p:Addr) (ss':List Str),ss'.Perm ss->sortedS ss'=true->H p=none->Q (.ref p) (upd H p (.lst (ss'.map V.str)))
def rSortDI:List V->Hp->VK->Prop:=λxs H Q=>∃ a kvs,∃ ns:List Int,xs=[.ref a]/\H a=some (.dK kvs)/\kvs.map (·.1)=ns.map Sum.inl/\kvs.length<64/\∀ (p:Addr) (ns':List Int),ns'.Perm ns->ns'.Pairwise (·<=·)->H p=none->Q (.ref p) (upd H p (.lst (ns'.map V.int)))
end
variable {X:Cx}
def tRev (K:Ab)(te:TE)(tk:TO):TE:=λσ H Q=>te σ H λx H1=>tk σ H1 λst H2=>st=some (-1)/\∃ a xs,x=.ref a/\SqL K H2 a xs/\∀ p,H2 p=none->Q (.ref p) (upd H2 p (.lst xs.reverse))
def tListRng (ta:TA):TE:=λσ H Q=>ta σ H λvs H1=>∃ i j:Int,vs=[.int i,.int j]/\(-(2^62)<=i/\i<2^62/\-(2^62)<=j/\j<2^62)/\(j-i).toNat<=1000/\∀ p,H1 p=none->Q (.ref p) (upd H1 p (.lst (rngV i (j-i).toNat)))
def tListVals (td:TE):TE:=λσ H Q=>td σ H λx H1=>∃ a kvs,x=.ref a/\H1 a=some (.dK kvs)/\∀ p,H1 p=none->Q (.ref p) (upd H1 p (.lst (kvs.map (·.2))))
def Itz2 (K:Ab)(a b:Addr):It:=
  ⟨λi H=>∃ xs ys,SqT K H a xs/\SqT K H b ys/\i<xs.length/\i<ys.length,
   λi H v H'=>∃ T,H T=none/\v=.ref T/\∀ xs ys,SqT K H a xs->SqT K H b ys->∃ x y,xs[i]?=some x/\ys[i]?=some y/\H'=upd H T (.tup [x,y]),
   λi H=>∃ xs ys,SqT K H a xs/\SqT K H b ys/\(i=xs.length\/(i<xs.length/\i=ys.length))⟩
def ZipSt2 (n a b:Nat)(i:Nat)(h:Heap):Prop:=IsZip h (n+4) (n+2) (n+3) .none/\IsPair h (n+2) (.ref n) (.ref (n+1))/\(∃ x y,IsPair h (n+3) x y)/\h.IsTupleIter n a i/\h.IsTupleIter (n+1) b i
abbrev yo1 (h:Heap)(a:Addr):Heap:=h.push { cls:=.type "tuple_iterator",data:=.fields #[.ref a,.int 0 0] }
abbrev yo2 (h:Heap)(a b:Addr):Heap:=(yo1 h a).push { cls:=.type "tuple_iterator",data:=.fields #[.ref b,.int 0 0] }
abbrev yo3 (h:Heap)(a b:Addr):Heap:=(yo2 h a b).push { cls:=.type "tuple",data:=.seq #[.ref h.objs.size,.ref (yo1 h a).objs.size] }
abbrev yo4 (h:Heap)(a b:Addr):Heap:=(yo3 h a b).push { cls:=.type "tuple",data:=.seq #[.none,.none] }
abbrev yo5 (h:Heap)(a b:Addr):Heap:=(yo4 h a b).push { cls:=.type "zip",data:=.fields #[.none,.bool false,.bool false,.ref (yo2 h a b).objs.size,.ref (yo3 h a b).objs.size] }
def iZip2 (K:Ab)(ta:TA):TI:=λσ H R=>ta σ H λvs H1=>∃ a b,vs=[.ref a,.ref b]/\(∃ xs,SqT K H1 a xs)/\(∃ ys,SqT K H1 b ys)/\R (Itz2 K a b) H1
variable {X:Cx}
def rListD:List V->Hp->VK->Prop:=λxs H Q=>∃ a kvs,∃ ss:List Str,xs=[.ref a]/\H a=some (.dK kvs)/\kvs.map (·.1)=ss.map Sum.inr/\∀ p,H p=none->Q (.ref p) (upd H p (.lst (ss.map V.str)))
def tListRng3 (ta:TA):TE:=λσ H Q=>ta σ H λvs H1=>∃ i j c:Int,vs=[.int i,.int j,.int c]/\(-(2^20)<=i/\i<2^20/\-(2^20)<=j/\j<2^20/\1<=c/\c<2^20)/\(j-i)/c<=900 /\
 ∀ p (ms:List Int),(∀ x∈ms,i<=x/\x<j)->(ms.length:Int)<=max 0 ((j-i-1)/c+1)->H1 p=none->Q (.ref p) (upd H1 p (.lst (ms.map V.int)))
variable {X:Cx}
def Itd (d:Addr)(ob:Obj)(kvs:List (Key×V)):It:=
 ⟨λi H=>H d=some (.frz ob (.dK kvs))/\i<kvs.length,λi H v H'=>H'=H/\∃ kv,kvs[i]?=some kv/\v=kV kv.1,λi H=>H d=some (.frz ob (.dK kvs))/\kvs.length<=i⟩
def iDict (tl:TE):TI:=λσ H R=>tl σ H λx H1=>∃ d kvs,x=.ref d/\H1 d=some (.dK kvs)/\∀ ob,R (Itd d ob kvs) (upd H1 d (.frz ob (.dK kvs)))
end L2
namespace L2
open PySem PySem.Spec PyProof.Rows PySem.W
def mM (CX:CXT)(X:Cx)(σ:St)(E:XK):Prop:=∀ (pins:List (Addr×Obj)) (H:Hp) (s:Shared) (e:Value) (s':Shared),Inv X pins σ H s->CX X.stack H s E e s'->X.xe e s'
section
variable {X:Cx}
def aC3 {k:Nat}{f:Addr}{σ:St}{s:Shared}(F:FnOk X.prog X.w X.K X.mg X.base CX k f fd ps sp)(hr:Room k X.A)(hb:Binds X.K fd ps [])(hx:mM CX X σ E)(I:Inv X pins σ H s)(r:Vals vs us)(h:sp (vs++[]) H Q E):wpAny (model X.prog X.w) X.A (call (.ref f) us) (EP X pins σ Q) X.xe s:=by
 have r2:Vals (vs++[]) (us++[]):=r.append .nil;have hl:(us++[]).length=ps.length:=by rw [<- r2.length];exact F.len _ _ _ _ h
 refine EM (CZ (F.run X.A X.stack s H ⟨us,[]⟩ (us++[]) (vs++[]) Q E hr I.env0 (hb s us I.kIn hl) r2 h) λr s' hq=>?_);cases r with
 |error e=>exact hx pins H s e s' I hq
 |ok fl=>
  cases fl with
  |ret u=>exact I.after hq
  |next=>exact Cu hq
  |brk=>exact Cu hq
  |cont=>exact Cu hq
def aDk {k:Nat}{t:TA}{p pos:Pos}{σ:St}(C:Cal X.prog X.w X.K X.mg X.base CX k x ps sp)(hr:Room k X.A)(hg:Gl X x)(hx:mM CX X σ E)(ha:PA X (e::es) t)(hdb:(x==("__debug__":Str))=false:=by decide)(he:AV (e::es) X.env=(false,eval e X.env)::AV es X.env:=by rfl)(hpl:(backTo pos (AV es X.env)).any (·.1)=false:=by rfl) :
  PE X (.Call (.Name x p) (e::es) [] pos) (λσ' H Q=>σ'=σ/\aCq sp [] E t σ' H Q):=by
 obtain ⟨f,fd,hm,hk,hb,F⟩:=C.ex;intro pins s σ' H Q I h;obtain ⟨es',h⟩:=h;subst es';refine CB (fN I hg hm ?_ hdb);refine Ej (h₀:=X.base) I.ok.mod.kin hk (thn (ha pos pins s σ' H _ I h) λus s1 ⟨vs,H1,I1,r,q⟩=>⟨I1.kIn,?_⟩) he hpl;exact aC3 F hr hb hx I1 r q
def aGo (K:Frag)(i j:Nat)(Dc:Addr)(tb:St->XK->TS):TS:=λD σ H=>tb σ (λcls dd H'=>∃ C,cls=.ref C/\ExK K C/\subIn K (.ref C) (.ref Dc)=some true/\∀ a,H' a=none->D.nx (((σ.set i (some (.ref a))).set j (some (.ref a))).set i none) (upd H' a (excD a C dd))) D σ H
def aC9 {d n y:Str}{dp np py apos hpos pos:Pos}{i j:Nat}(O:OwnF X)(hg:Gl X d)(hm:X.mg d=some (.ref Dc))(F:CtK X.K Dc)(hN:X.N.Nodup)(hi:X.N[i]?=some n)(hki:X.env.scope.names.lookup n=some .local)(hj:X.N[j]?=some y)(hkj:X.env.scope.names.lookup y=some .local)(hij:i≠j)(hb:∀ (pins:List (Addr×Obj)) (E':Value->Shared->Prop) (σ:St) (Ec:XK),mM (CXg X.prog X.w) (X.trying pins E') σ Ec->PSs (X.trying pins E') body (tb σ Ec))(hdb:(d==("__debug__":Str))=false:=by decide)(hnb:(n==("__debug__":Str))=false:=by decide)(hnc:(n==("__classdict__":Str))=false:=by decide)(hs:swapsWith (.Name n np) (some (.Name y py)) apos.line X.env=pure false:=by rfl) :
  PS X (.Try body [.ExceptHandler (some (.Name d dp)) (some n) [.Assign [.Name y py] (.Name n np) apos] hpos] [] [] pos) (aGo X.K i j Dc tb):=by
 intro pins s σ H D I h;refine wpAny_Try_except (BH (hb pins _ σ _ ?hp [] s σ H D (I.trying _) h) (λf s1 z=>?_) λ_ _ z=>z)
 case hp=>
  intro pl Hc sc e s' I0 hx;have I1:Inv X pins σ Hc sc:=I0.tried;obtain ⟨ea,C,dd,H',rfl,Fl,C',e1,FK,hsub,hk⟩:=hx;cases e1;obtain ⟨B,hok,fl,bk,th⟩:=Fl.fl;have hfr:X.A.frames=some (X.env::X.outer):=by rw [<- O.stk];exact I1.ok.frames
  have fl':FlyD B (X.env::X.outer) ea (.ref C) dd .none s'.heap:=by rw [<- O.stk];exact fl
  have hBe:B.get? ea=none:=fl.no;refine aHb hfr O.fr fl' λh4 held4 up4=>?_;refine qL held4 λh5 fl5 up5=>?_;have mk:∀ h6:Heap,B.StaysIn h6->s'.heap.UpToSlots h6->Inv X pins σ H' { s' with heap:=h6 }:=λh6 st up=>
   I1.call' (s':={ s' with heap:=h6 }) (ch:=[]) Fl.os (aCj I1 Fl.un bk th st up) (hok.kept st) Fl.bare (by simp)
  have I5:=mk h5 fl5.st (up4.trans up5);obtain ⟨ob,_,hob,hobc,_,_⟩:=fl5.at;refine wpAny_handleBy_cons (codeAny_handlers_test (fN (I5.within (.ref ea)) hg hm ?_ hdb)) (by intro q;cases q);refine qN I5.kIn ⟨hob,hobc⟩ F hsub ?_;refine codeAny_handlers_suite_as ?_;refine qL fl5 λh6 fl6 up6=>?_;have I6:=mk h6 fl6.st ((up4.trans up5).trans up6);obtain ⟨ob6,ws,hob6,hobc6,hobdd,hobd6⟩:=fl6.at;have nfr:ea∉frs X.stack:=λz=>by
   obtain ⟨_,o',ho',hnf⟩:=I6.stack.mem z;rw [hob6] at ho';cases ho';exact hnf ws hobd6
  have nsc:sc.heap.get? ea=none:=by
   cases q:sc.heap.get? ea with
   |none=>rfl
   |some o=>
    obtain ⟨o',e'⟩:=th ea o q nfr;rw [hBe] at e';cases e'
  have nH:H' ea=none:=by
   cases q:H' ea with
   |none=>rfl
   |some o=>
    exfalso;have lt:=hok.lt q;obtain ⟨o',e'⟩:∃ o',B.get? ea=some o':=by
     exact aAt (hok ea o q)
    rw [hBe] at e';cases e'
  have n0:X.s₀.heap.get? ea=none:=by
   cases q:X.s₀.heap.get? ea with
   |none=>rfl
   |some o=>
    obtain ⟨o',e'⟩:=I1.base.there ea o q (by rw [O.ex];simp);rw [nsc] at e';cases e'
  have nL:ea≠X.env.locals:=λz=>by
   obtain ⟨m,⟨oL,_,_,hoL,_⟩,_⟩:=I1.loc;rw [<- z,nsc] at hoL;cases hoL
  have I7:Inv X pins σ (upd H' ea (excD ea C dd)) { s' with heap:=h6 }:=I6.track nH n0 nL
   (λx c q z=>by obtain ⟨v,o,ho,_⟩:=I1.cell x c q;rw [z,nsc] at ho;cases ho)
   (λp q z=>by have:=(I1.pin p q).1;rw [z,nsc] at this;cases this)
   ⟨⟨ob6,⟨hob6,hobc6⟩,hobdd,_,hobd6⟩,⟨ob6,hob6⟩,λh1 h2 ⟨o,ho,hd⟩ k=>⟨o,⟨k o ho.at_,ho.cls⟩,hd⟩⟩
  have J:=I7.within (.ref ea);refine fR (X:=X.within (.ref ea)) J hN hi (.inl hki) (show RelV (.ref ea) (.ref ea) from rfl) (λs8 I8=>?_) (.inr hki);have hiσ:i<σ.length:=by rw [I1.len];exact (Ah.mp hi).1
  have z:=aH (aK (X:=X.within (.ref ea)) (pos:=apos) (pos':=py) (i:=j) hN hj (.inl hkj) (vV (X:=X.within (.ref ea)) (pos:=np) hi (.inl hki) hnb hnc) hs (.inr hkj)) pins s8 (σ.set i (some (.ref ea))) (upd H' ea (excD ea C dd))
   { nx:=λσ9 H9=>σ9=(σ.set i (some (.ref ea))).set j (some (.ref ea))/\H9=upd H' ea (excD ea C dd),rt:=λ_ _=>False } I8 ⟨_,Ex hiσ,rfl,rfl⟩
  refine BH z (λf s9 hf=>?_) (λ_ _ q=>q.elim);cases f with
  |next=>
   obtain ⟨σ9,H9,I9,rfl,rfl⟩:=hf;refine wV (I9.without I1.ok) hN hi hki λs10 I10=>?_;exact ⟨_,_,I10,hk ea nH⟩
  |brk=>obtain ⟨_,_,_,q⟩:=hf;exact q.elim
  |cont=>obtain ⟨_,_,_,q⟩:=hf;exact q.elim
  |ret u=>obtain ⟨_,_,_,_,_,q⟩:=hf;exact q.elim
 ·have z':=SP.tried z
  cases f with
  |next=>exact Fm z'
  |brk=>exact z'
  |cont=>exact z'
  |ret u=>exact z'
end
end L2
namespace L2
open PySem PySem.Spec PyProof.Rows
variable {X:Cx}
def rSortDSR:List V->Hp->VK->Prop:=λxs H Q=>∃ a kvs,∃ ss:List Str,xs=[.ref a]/\Rd H a (.dK kvs)/\kvs.map (·.1)=ss.map Sum.inr/\kvs.length<64/\∀ (p:Addr) (ss':List Str),ss'.Perm ss->sortedS ss'=true->H p=none->Q (.ref p) (upd H p (.lst (ss'.map V.str)))
def tListValsR (td:TE):TE:=λσ H Q=>td σ H λx H1=>∃ a kvs,x=.ref a/\Rd H1 a (.dK kvs)/\∀ p,H1 p=none->Q (.ref p) (upd H1 p (.lst (kvs.map (·.2))))
def Fz (H H':Hp):Prop:=∀ b o,H b=some o->H' b=some o\/∃ ob kvs,o=.dK kvs/\H' b=some (.frz ob (.dK kvs))
def Hld (d:Addr)(ob:Obj)(kvs:List (Key×V))(H H':Hp):Prop:=H' d=some (.frz ob (.dK kvs))/\(∀ b,b≠d->H' b=H b)/\(H d=some (.dK kvs)\/H d=some (.frz ob (.dK kvs)))
section
variable {X:Cx}
def iDictR (tl:TE):TI:=λσ H R=>tl σ H λx H1=>∃ d kvs,x=.ref d/\Rd H1 d (.dK kvs)/\∀ ob H2,Hld d ob kvs H1 H2->R (Itd d ob kvs) H2
def rDictD:List V->Hp->VK->Prop:=λxs H Q=>∃ a kvs,xs=[.ref a]/\Rd H a (.dK kvs)/\∀ p,H p=none->Q (.ref p) (upd H p (.dK kvs))
def DDeq (K:Ab)(H:Hp)(ka kb:List (Key×V)):Prop:=ka.length=kb.length/\∀ kv∈ka,∃ v' d,valV kb kv.1=some v'/\Dv K H 30 kv.2 d/\Dv K H 30 v' d
def rNeDD (K:Ab):R2:=λx y H Q=>∃ a b ka kb,x=.ref a/\y=.ref b/\Rd H a (.dK ka)/\Rd H b (.dK kb)/\DDeq K H ka kb/\Q (.bl false) H
def rEqDD (K:Ab):R2:=λx y H Q=>∃ a b ka kb,x=.ref a/\y=.ref b/\Rd H a (.dK ka)/\Rd H b (.dK kb)/\DDeq K H ka kb/\Q (.bl true) H
end
def EqIn (P:AF)(w:World)(A:Around)(s:Shared)(y x:Value):Prop:=∀ (E:Value->Shared->Prop) (Q:Bool->Shared->Prop),Q true s->wpAny (model P w) A (eqBool y x) Q E s
section
open AutoSeq1 MeetsSeq MeetsSeq2 MeetsSeq3 SeqAt
variable {P:AF}{w:World}
end
section
variable {X:Cx}
def rNeLD (K:Ab):R2:=λx y H Q=>∃ a b xs ys,x=.ref a/\y=.ref b/\SqL K H a xs/\SqL K H b ys/\xs.length=ys.length /\
 (∀ (j:Nat) x y,xs[j]?=some x->ys[j]?=some y->∃ da db ka kb,x=.ref da/\y=.ref db/\Rd H da (.dK ka)/\Rd H db (.dK kb)/\DDeq K H ka kb)/\Q (.bl false) H
end
end L2
namespace HT
open PySem PyProof.Rows
def lexLtS:List Str->List Str->Bool
 |[],[]=>false
 |[],_::_=>true
 |_::_,[]=>false
 |x::xs,y::ys=>if x=y then lexLtS xs ys else decide (x.cps.toList<y.cps.toList)
section
open PySem.SeqAt
open PySem.AutoSeq1 (wpAny_loadPart')
open PySem.MeetsSeq PySem.MeetsSeq2 PySem.MeetsSeq3
end
section
variable {prog:AF}{w:World}{A:Around}{E:Value->Shared->Prop}{s:Shared}
end
end HT
namespace L2
open PySem PySem.Spec PyProof.Rows
section
variable {X:Cx}
def rLtTS (K:Ab):R2:=λx y H Q=>∃ a b ns ms,x=.ref a/\y=.ref b/\SqT K H a (ns.map V.str)/\SqT K H b (ms.map V.str)/\Q (.bl (HT.lexLtS ns ms)) H
end
end L2
namespace HT
open PySem PySem.Spec PyProof.Rows
section
variable {prog:AF}{w:World}{A:Around}{E:Value->Shared->Prop}{s:Shared}
def cat_tup0 {t b:Addr}{ws:List Value}{Q:Value->Shared->Prop}(ht:IsTup s.heap t #[])(hb:IsTup s.heap b ws.toArray)(h:Q (.ref b) s):wpAny (model prog w) A (DM .Add (.ref t) (.ref b)) Q E s:=by
 obtain ⟨⟨cls,dd,data,sl⟩,ho,hc,n,hd⟩:=id ht;obtain ⟨⟨cls2,dd2,data2,sl2⟩,ho2,hc2,n2,hd2⟩:=id hb;simp only at hc hd hc2 hd2;subst hc hd hc2 hd2;exact concat_meets ⟨_,ho,rfl⟩ ⟨_,ho2,rfl⟩ noFill_tuple_add seq_tuple_add PySem.F.slot_tuple_add Fo (Ff _ _)
   (tuple_addW0 t b #[] ws.toArray n n2 dd dd2 sl sl2 (by simp)) ⟨ho,ho2,h⟩
end
end HT
namespace L2
open PySem PySem.Spec PyProof.Rows
section
variable {X:Cx}
def aBr (K:Ab):R2:=λx y H Q=>∃ a b ys,x=.ref a/\y=.ref b/\SqT K H a []/\SqT K H b ys/\Q (.ref b) H
def aAb:OpR X (DM .Add) (aBr X.K):=by
 intro pins s σ H x y v u Q I rx ry h;obtain ⟨a,b,ys,rfl,rfl,ha,hb,q⟩:=h;cases rx;cases ry;obtain ⟨its,r1,p1,_⟩:=I.tuple ha;obtain ⟨its2,r2,p2,_⟩:=I.tuple hb;cases r1;exact HT.cat_tup0 p1 p2 ⟨.ref b,H,I,rfl,q⟩
def aFj (K:Ab):R2:=λx y H Q=>aBr K x y H Q\/aFk K x y H Q
def aAa:OpR X (DM .Add) (aFj X.K):=by
 intro pins s σ H x y v u Q I rx ry h
 rcases h with h|h
 ·exact aAb pins s σ H x y v u Q I rx ry h
 ·exact aDp pins s σ H x y v u Q I rx ry h
def rRepT (K:Ab):R2:=λx y H Q=>∃ a k xs,x=.ref a/\y=.int k/\SqT K H a xs/\xs≠[]/\2<=k/\k<=1000/\xs.length<=1000/\∀ p,H p=none->Q (.ref p) (upd H p (.tup (AR k.toNat xs).flatten))
end
section
variable {D:Ends}{σ:L2.St}{H:Hp}
def cut3 (h:let u3:TS:=t3;let u2:TS:=tSeq t2 u3;tSeq t1 u2 D σ H):(tSeq t1 (tSeq t2 (t3))) D σ H:=h
def cut4 (h:let u4:TS:=t4;let u3:TS:=tSeq t3 u4;let u2:TS:=tSeq t2 u3;tSeq t1 u2 D σ H):(tSeq t1 (tSeq t2 (tSeq t3 (t4)))) D σ H:=h
def cut5 (h:let u5:TS:=t5;let u4:TS:=tSeq t4 u5;let u3:TS:=tSeq t3 u4;let u2:TS:=tSeq t2 u3;tSeq t1 u2 D σ H):(tSeq t1 (tSeq t2 (tSeq t3 (tSeq t4 (t5))))) D σ H:=h
def cut7 (h:let u7:TS:=t7;let u6:TS:=tSeq t6 u7;let u5:TS:=tSeq t5 u6;let u4:TS:=tSeq t4 u5;let u3:TS:=tSeq t3 u4;let u2:TS:=tSeq t2 u3;tSeq t1 u2 D σ H):(tSeq t1 (tSeq t2 (tSeq t3 (tSeq t4 (tSeq t5 (tSeq t6 (t7))))))) D σ H:=h
def cut8 (h:let u8:TS:=t8;let u7:TS:=tSeq t7 u8;let u6:TS:=tSeq t6 u7;let u5:TS:=tSeq t5 u6;let u4:TS:=tSeq t4 u5;let u3:TS:=tSeq t3 u4;let u2:TS:=tSeq t2 u3;tSeq t1 u2 D σ H):(tSeq t1 (tSeq t2 (tSeq t3 (tSeq t4 (tSeq t5 (tSeq t6 (tSeq t7 (t8)))))))) D σ H:=h
def aHm (h:let u10:TS:=t10;let u9:TS:=tSeq t9 u10;let u8:TS:=tSeq t8 u9;let u7:TS:=tSeq t7 u8;let u6:TS:=tSeq t6 u7;let u5:TS:=tSeq t5 u6;let u4:TS:=tSeq t4 u5;let u3:TS:=tSeq t3 u4;let u2:TS:=tSeq t2 u3;tSeq t1 u2 D σ H):(tSeq t1 (tSeq t2 (tSeq t3 (tSeq t4 (tSeq t5 (tSeq t6 (tSeq t7 (tSeq t8 (tSeq t9 (t10)))))))))) D σ H:=h
def aHl (h:let u14:TS:=t14;let u13:TS:=tSeq t13 u14;let u12:TS:=tSeq t12 u13;let u11:TS:=tSeq t11 u12;let u10:TS:=tSeq t10 u11;let u9:TS:=tSeq t9 u10;let u8:TS:=tSeq t8 u9;let u7:TS:=tSeq t7 u8;let u6:TS:=tSeq t6 u7;let u5:TS:=tSeq t5 u6;let u4:TS:=tSeq t4 u5;let u3:TS:=tSeq t3 u4;let u2:TS:=tSeq t2 u3;tSeq t1 u2 D σ H):(tSeq t1 (tSeq t2 (tSeq t3 (tSeq t4 (tSeq t5 (tSeq t6 (tSeq t7 (tSeq t8 (tSeq t9 (tSeq t10 (tSeq t11 (tSeq t12 (tSeq t13 (t14)))))))))))))) D σ H:=h
end
end L2
namespace L2
open PySem PySem.Spec PyProof.Rows PySem.W
section
variable {X:Cx}
end
end L2
namespace TM
open PySem PySem.Spec PyProof.Rows PySem.W
def aFn {α:Type}[BEq α][LawfulBEq α](f:Nat->α):∀ (j:Nat) (l:List α),(∀ i,i<j->f i∈l)->(∀ i k,i<j->k<j->f i=f k->i=k)->j<=l.length:=by
 intro j
 induction j with
 |zero=>
  intro l _ _;exact Bi _
 |succ j ih=>
  intro l hm hi;have h1:=hm j (CO _);have:=ih (l.erase (f j)) (λi hij=>(List.mem_erase_of_ne (λe=>by
   have:=hi i j (by omega) (by omega) e;omega)).mpr (hm i (by omega))) (λi k a b e=>hi i k (by omega) (by omega) e)
  rw [List.length_erase_of_mem h1] at this;have:0<l.length:=List.length_pos_of_mem h1;omega
def rd (c j:Nat):Nat:=97+(c-97+j)%26
abbrev LET:Str:="abcdefghijklmnopqrstuvwxyz"
def pA {j:Nat}(h:j<26):(cps LET)[j]?=some (97+j):=by
 have all:∀ k:Fin 26,(cps LET)[k.val]?=some (97+k.val):=by decide +kernel
 exact all ⟨j,h⟩
end TM
namespace L2
open PySem PySem.Spec PyProof.Rows
def Itr3 (lo c:Int)(n:Nat):It:=⟨λi _=>i<n,λi H x H'=>H'=H/\x=.int (lo+(i:Nat)*c),λi _=>n<=i⟩
def pC {P:AF}{w:World}{K:Ab}{tg:Expr}(it:Addr)(lo c:Int)(n:Nat):Turn P w K tg (Itr3 lo c n) [it] it (λi h=>IsRangeIter h it (lo+(i:Nat)*c) ((n:Int)-(i:Nat)) c) where
 mem:=by simp
 obj:=λi h st b hb=>by
  have e:b=it:=by simpa using hb
  subst e;exact ⟨_,st,λv z=>by
   have z':Data.fields _=Data.cell v:=z;cases z'⟩
 keep:=λi h h' st k=>k it (by simp) _ st
 item:=by
  intro X hP hw hK hc i pins s σ H E I hf st hg;subst hP hw hK;obtain ⟨f0,f1,f2,f3,f4,f5⟩:=hf it (by simp);have W:=Walks.range (prog:=X.prog) (w:=X.w) (I.ok.hd hc) it lo c n;refine W.item i s _ _ hg st λv h' tk hv st' kk=>?_;obtain ⟨t,rfl⟩:=hv;have I1:Inv X pins σ H { s with heap:=h',toks:=tk }:=I.turned (λb o hb e=>kk b o (by simpa using hb) e) f0 f1 f3 f4 f5;exact ⟨_,rfl,xU (s:={ s with heap:=h',toks:=tk }) (n:="range_iterator") st' rfl rfl (by decide) ⟨.int (lo+(i:Nat)*c),H,I1,⟨t,rfl⟩,⟨rfl,rfl⟩,st',λb hb=>(hf b hb).1⟩⟩
 done:=by
  intro X hP hw hK hc i pins s σ H E I hf st hg;subst hP hw hK;obtain ⟨f0,f1,f2,f3,f4,f5⟩:=hf it (by simp);exact wpAny_pyNext_range_end (I.ok.hd hc) st (by have:n<=i:=hg;omega) λh' eb=>⟨rfl,I.turned (t':=s.toks) (λb o hb e=>eb b o hb e) f0 f1 f3 f4 f5⟩
 self:=λ_ _ _ _ _ st h=>wpAny_pyIter_rangeiter st h
def iRng3 (ta:TA):TI:=λσ H R=>ta σ H λvs H1=>∃ i j c:Int,vs=[.int i,.int j,.int c]/\(-(2^20)<=i/\i<=2^20/\-(2^20)<=j/\j<=2^20/\0<c/\c<=2^20)/\R (Itr3 i c (if i<j then (j-i-1)/c+1 else 0).toNat) H1
def gO {lo c:Int}{n:Nat}{g:TG}{tb:TS}{D:Ends}{σ:St}{H:Hp}(Pv:Nat->St->Hp->Prop)(h0:Pv 0 σ H)
  (hs:∀ i σ H,i<n->Pv i σ H->g (.int (lo+(i:Nat)*c)) σ H λσ2 H2=>tb { D with nx:=Pv (i+1),ct:=Pv (i+1),bk:=D.nx } σ2 H2) (hd:∀ σ H,Pv n σ H->D.nx σ H) :
  ∃ W:Nat->Nat->St->Hp->Prop,(∃ m,W 0 m σ H)/\∀ i m σ H,W i m σ H ->
   ((Itr3 lo c n).stop i H/\D.nx σ H)\/((Itr3 lo c n).go i H/\∃ N:St->Hp->Prop,(∀ σ' H',N σ' H'->∃ m',m'<m/\W (i+1) m' σ' H')/\∀ x H',(Itr3 lo c n).yld i H x H'->g x σ H' λσ2 H2=>tb { D with nx:=N,ct:=N,bk:=D.nx } σ2 H2):=by
 refine ⟨λi m σ H=>m=n-i/\i<=n/\Pv i σ H,⟨n,by simp,Bi _,h0⟩,?_⟩
 rintro i m σ H ⟨rfl,hi,p⟩
 by_cases hlt:i<n
 ·refine .inr ⟨hlt,Pv (i+1),λσ' H' p'=>⟨n-(i+1),by omega,rfl,hlt,p'⟩,λv H' y=>?_⟩
  obtain ⟨e,rfl⟩:=y;subst e;exact hs i σ _ hlt p
 ·have e:i=n:=by omega
  subst e;exact .inl ⟨Ao _,hd σ H p⟩
def aEv (K:Ab)(te:TE):TE:=λσ H Q=>te σ H λx H1=>∃ (a:Addr) (ns:List Int),x=.ref a/\SqL K H1 a (ns.map V.int)/\ns.length<64 /\
 ∀ (p:Addr) (ns':List Int),ns'.Perm ns->ns'.Pairwise (· ≥ ·)->H1 p=none->Q (.ref p) (upd H1 p (.lst (ns'.map V.int)))
def zR {p pos kp bp:Pos}{j:Nat}(hg:Gl X "sorted")(hm:X.mg "sorted" = none)(he:PE X e te)(h1:backTo pos (AV [e] X.env)=(false,eval e X.env)::backTo pos (AV [] X.env):=by rfl)(h2:(backTo pos (AV [e] X.env)).any (·.1)=false:=by rfl) :
  PE X (.Call (.Name "sorted" p) [e] [⟨some "reverse",.Constant (.bool true) j bp,kp⟩] pos) (aEv X.K te):=by
 intro pins s σ H Q I h;refine CB (fH I hg hm boot_sorted (callWith_kw ?_ h1 h2 rfl rfl));rw [h1];refine CM (thn (he pins s σ H _ I h) λv s1 ⟨x1,H1,I1,r1,a,ns,ex,hl,h64,q⟩=>?_);subst ex;cases r1;refine DJ ?_;refine kws_cons (thn (pY (b:=true) pins s1 σ H1 (λv H'=>v=.bl true/\H'=H1) I1 ⟨rfl,rfl⟩) λu s2 ⟨y,H2,I2,r2,ey,eH⟩=>?_);subst ey eH;cases r2;refine kws_nil ?_;obtain ⟨its,r',pl,hz⟩:=I2.list hl;have hlen:=r'.length;rw [Ac] at hlen;refine sorted_ints_rev (b:=true) (pl.isList) (intsAre_of r') (by omega) λout ns' a1 a2 a3=>?_;obtain ⟨e,he⟩:=sortedAll_at s2.heap its out;refine ⟨.ref (s2.heap.objs.size+1),_,I2.laid (a:=s2.heap.objs.size+1) (o:=.lst (ns'.map V.int)) (t':=s2.toks) (λ_ _=>sortedAll_old) (Cb _) (nW (its:=out.toList) (e:=e) (gS a1) ?_ (by rw [DV];exact he)),rfl,q _ ns' a2 a3 (I2.hok.fresh (Cb _))⟩;rw [Ac,a2.length_eq];exact bL (by omega)
def iR:isSubtype (.type "range_iterator") (.type "reversed")=pure false:=by rw [isSubtype_type];kernel_rfl
abbrev fW (n:Int)(t u v:Tok):Obj:={ cls:=.type "range",data:=.fields #[.int 0 t,.int n u,.int 1 v] }
abbrev tD (n:Int):Obj:={ cls:=.type "range_iterator",data:=.fields #[rawInt (n-1),rawInt n,rawInt (-1)] }
section
variable {prog:AF}{w:World}{A:Around}{E:Value->Shared->Prop}{s:Shared}
def fQ {n:Int}{t u v:Tok}(hl:s.heap.get? l=some (fW n t u v))(h0:0<=n)(h1:n<2^62)(h:Q (.ref s.heap.objs.size) { s with heap:=s.heap.push (tD n) }):wpAny (model prog w) A (call (.builtin "range.__reversed__") [.ref l]) Q E s:=by
 refine BG F.slot_range_reversed ⟨_,hl,rfl⟩ F.entry_range_reversed ?_ (F.args_range_reversed_1 _);unfold AU.«range.__reversed__»;refine Aa (Di (a:=AN l) rfl ?_);unfold AU.Range.rangeFields;refine Aa ?_;refine Aa (Ct hl rfl (x:=.int 0 t) rfl ?_);refine Aa (Di (a:=some 0) rfl ?_);refine Aa (Ct hl rfl (x:=.int n u) rfl ?_);refine Aa (Di (a:=some n) rfl ?_);refine Aa (Ct hl rfl (x:=.int 1 v) rfl ?_);refine Aa (Di (a:=some 1) rfl ?_);refine Ag ?_;have hz:AU.Range.rangeSize 0 n 1=n:=by
  rw [rangeSize_one];split<;>omega
 dsimp only;rw [hz];have hs:(BF 0&&BF n&&BF 1&&BF (-1)&&BF (0-1)&&BF n)=true:=by
  simp only [BF,BV,decide_eq_true_eq];omega
 rw [hs];rw [if_neg (by decide),if_pos rfl];have e:(0:Int)+(n-1)*1=n-1:=by omega
 rw [e];exact Aa (Be (Ag ⟨_,rfl,h⟩))
def fO {n:Int}{t u v:Tok}(hl:s.heap.get? l=some (fW n t u v))(h0:0<=n)(h1:n<2^62)(h:Q₁ (.ref s.heap.objs.size) { s with heap:=s.heap.push (tD n) }) :
  DE (model prog w) A (.call (.builtin "reversed.__new__") ⟨[.type "reversed",.ref l],[]⟩) (wants Q₁ E) s:=by
 refine codeAny_of_tree ?_;show wpAny _ A.in1 (do checkBuiltinCall "reversed.__new__" ⟨[.type "reversed",.ref l],[]⟩;again (.builtin "reversed.__new__" ⟨[.type "reversed",.ref l],[]⟩)) _ _ s;refine Aa (Di (F.newCall_reversed_1 _) (Ag ⟨Fe F.plain_reversed_new _,Dq F.entry_reversed_new ?_⟩));rw [CY F.plain_reversed_new _];unfold AU.«reversed.__new__»;refine Aa (Di (newClass_reversed _) ?_);dsimp only;refine Aa (Di (a:=()) (by first|rfl|kernel_rfl) ?_);refine Aa (Di (a:=()) (by first|rfl|kernel_rfl) ?_);refine Aa (wpAny_specialOf (⟨_,hl,rfl⟩:s.TypeIs (.ref l) "range") F.slot_range_reversed.lookup ?_);dsimp only;refine Aa (Di (F.slot_range_reversed.bind _) ?_);dsimp only;have hne:¬ ((Cn "range.__reversed__" == BI)=true):=AK;show wpAny _ _ (if (Cn "range.__reversed__" == BI)=true then _ else _) _ _ _;rw [if_neg hne];refine Aa (Dp ?_);refine Aa (m:=runValue (.call (.builtin "range.__reversed__") ⟨[.ref l],[]⟩)) (show wpAny _ _ (call (.builtin "range.__reversed__") [.ref l]) _ _ _ from fQ hl h0 h1 ?_)
 first
 |exact Ag h
 |exact Aa (Ag (Ag h))
def fP {n:Int}{t u v:Tok}(hl:s.heap.get? l=some (fW n t u v))(h0:0<=n)(h1:n<2^62)(h:Q (.ref s.heap.objs.size) { s with heap:=s.heap.push (tD n) }):wpAny (model prog w) A (call (.type "reversed") [.ref l]) Q E s:=by
 refine callType_other (U:="range_iterator") (Q₁:=λobj s₁=>obj=.ref s.heap.objs.size/\s₁={ s with heap:=s.heap.push (tD n) }) (by decide +kernel) F.create_reversed ⟨_,_,F.mro_reversed⟩ F.made_reversed iR (F.typeCall_reversed_1 _) (fO hl h0 h1 ⟨rfl,rfl⟩) ?_
 rintro obj s₁ ⟨rfl,rfl⟩
 exact ⟨⟨_,An _ rfl,rfl⟩,h⟩
end
def iRev (ta:TA):TI:=λσ H R=>ta σ H λvs H1=>∃ n:Int,vs=[.int n]/\0<=n/\n<2^62/\R (Itr3 (n-1) (-1) n.toNat) H1
def vS {tg a:Expr}{p p2 pos pos2:Pos}(hg:Gl X "reversed")(hm:X.mg "reversed" = none)(hg2:Gl X "range")(hm2:X.mg "range" = none)(ha:PA X [a] ta)(hs:AV [a] X.env=[(false,eval a X.env)]:=by rfl)(hs2:AV [.Call (.Name "range" p2) [a] [] pos2] X.env=[(false,eval (.Call (.Name "range" p2) [a] [] pos2) X.env)]:=by rfl) :
  PI X tg (.Call (.Name "reversed" p) [.Call (.Name "range" p2) [a] [] pos2] [] pos) (iRev ta):=by
 intro pins s σ H R I h;refine Call_ (fH I hg hm boot_reversed (BX ?_ hs2 rfl));rw [hs2];refine CM ?_;refine Call_ (fH I hg2 hm2 boot_range (BX (thn (ha pos2 pins s σ H _ I h) λus s1 ⟨vs,H1,I1,r1,q1⟩=>?_) hs rfl));obtain ⟨n,e,q1,q2,q⟩:=q1;subst e;cases r1 with
 |cons r rr=>
  cases rr;obtain ⟨t,rfl⟩:=r;refine call_range_1 ?_;refine DJ ?_;refine fP (n:=n) (An _ rfl) q1 q2 ?_;have I2:Inv X pins σ H1 { s1 with heap:=(s1.heap.push (fW n s1.toks t (s1.toks+1))).push (tD n),toks:=s1.toks+1+1 }:=I1.kept λb o e=>Ae _ (Ae _ e);have hz:(s1.heap.push (fW n s1.toks t (s1.toks+1))).objs.size=s1.heap.objs.size+1:=size_push' _ _;have hi:IsRangeIter ((s1.heap.push (fW n s1.toks t (s1.toks+1))).push (tD n)) (s1.heap.push (fW n s1.toks t (s1.toks+1))).objs.size (n-1) n (-1):=An _ rfl;refine wpAny_pyIter_rangeiter hi ?_;refine ⟨_,[_],_,_,H1,rfl,I2,pC _ (n-1) (-1) n.toNat,?_,λb hb=>?_,q⟩
  ·show IsRangeIter _ _ (n-1+((0:Nat):Int) * -1) (((n.toNat:Nat):Int)-((0:Nat):Int)) (-1)
   have e1:n-1+((0:Nat):Int) * -1=n-1:=by simp
   have e2:((n.toNat:Nat):Int)-((0:Nat):Int)=n:=by omega
   rw [e1,e2];exact hi
  ·have e:b=(s1.heap.push (fW n s1.toks t (s1.toks+1))).objs.size:=by simpa using hb
   subst e;have hf:=I1.fpOk (b:=(s1.heap.push (fW n s1.toks t (s1.toks+1))).objs.size) (by rw [hz];exact Cb _) (I1.hok.fresh (by rw [hz];exact Cb _));exact hf
end L2
namespace GM
structure Fr (M t b N:Int):Prop where
 am:Amt t b
 e:t*M=N*b
end GM
namespace K45
open PySem PySem.Spec PyProof.Rows L2 GM TM
def top (i:Nat):Stmt:=PySem.Challenge.pw_phialhouse_k45_too_few_phials.main.body.getD i (.Pass ⟨0,0,0,0⟩)
abbrev sLess:Stmt:=top 9
abbrev sPairIn:Stmt:=top 11
abbrev sPartAt:Stmt:=top 13
abbrev sNeedOf:Stmt:=top 14
abbrev sNeeds:Stmt:=top 15
abbrev sStepsOf:Stmt:=top 17
abbrev sWithin:Stmt:=top 18
abbrev zD:Stmt:=top 19
abbrev sLeaves:Stmt:=top 21
abbrev sRows:Stmt:=top 23
abbrev sReadyP:Stmt:=top 24
abbrev zB:Stmt:=top 25
abbrev sCell:Stmt:=top 27
abbrev sMixed:Stmt:=top 28
abbrev sWhole:Stmt:=top 29
abbrev sLowest:Stmt:=top 30
abbrev sAdd:Stmt:=top 31
abbrev sTake:Stmt:=top 32
abbrev sBy:Stmt:=top 33
abbrev sUnder:Stmt:=top 34
abbrev sDigit:Stmt:=top 35
abbrev sNames:Stmt:=top 36
abbrev sWares:Stmt:=top 37
abbrev sMuch:Stmt:=top 38
abbrev sFreeC:Stmt:=top 39
abbrev sCounts:Stmt:=top 40
abbrev sTotal:Stmt:=top 41
abbrev sFreeR:Stmt:=top 42
abbrev sRoot:Stmt:=top 43
abbrev sPaths:Stmt:=top 44
abbrev sNeed:Stmt:=top 45
abbrev sWaresIn:Stmt:=top 46
abbrev sFreeSt:Stmt:=top 47
abbrev sFreeP:Stmt:=top 48
abbrev sStand:Stmt:=top 49
abbrev sTouch:Stmt:=top 50
abbrev sReady:Stmt:=top 51
abbrev sRefused:Stmt:=top 52
abbrev sLaw:Stmt:=top 53
structure Txt (mg:Str->Option Value):Prop where
 isi:mg "isinstance" = none
 int':mg "int" = none
 bool':mg "bool" = none
 tup':mg "tuple" = none
 len:mg "len" = none
 range:mg "range" = none
 min':mg "min" = none
 max':mg "max" = none
 abs':mg "abs" = none
 list':mg "list" = none
 sorted':mg "sorted" = none
 sum':mg "sum" = none
 rev':mg "reversed" = none
 enum':mg "enumerate" = none
 set':mg "set" = none
 val':mg "ValueError" = none
def gU (K:Ab):Sp:=λvs H Q _=>∃ (a:Addr) (ns:List Int) (k:Int),vs=[.ref a,.int k]/\SqL K H a (ns.map V.int)/\0<=k/\∀ c:Int,Q (.int c) H
structure Wr (x:Str):Prop where
 l1:1<=x.length
 l8:x.length<=8
 lt:∀ c∈cps x,97<=c/\c<=122
instance (x:Str):Decidable (Wr x):=decidable_of_iff ((1<=x.length/\x.length<=8)/\∀ c∈cps x,97<=c/\c<=122) ⟨λh=>⟨h.1.1,h.1.2,h.2⟩,λh=>⟨⟨h.l1,h.l8⟩,h.lt⟩⟩
instance (x:Str):Decidable (Wr x):=decidable_of_iff ((1<=x.length/\x.length<=8)/\∀ c∈cps x,97<=c/\c<=122) ⟨λh=>⟨h.1.1,h.1.2,h.2⟩,λh=>⟨⟨h.l1,h.l8⟩,h.lt⟩⟩
section
variable {P:AF}{w:World}{K:Ab}{mg:Str->Option Value}{base:Heap}
def aA6 {a0 b0 a b:Int}(e:G a b=G a0 b0)(hb:0<=b)(h:¬ b=0):0<=a%b/\G b (a%b)=G a0 b0:=⟨Int.emod_nonneg a h,by rw [aGl];exact e⟩
def b6 {n:Nat}{x:Int}(h:Bt n x)(hn:n<=1000000:=by decide):Bt 1000000 x:=h.mono hn
def cG (n:Nat){x c:Int}(h0:0<=x)(h:x<c)(hc:c<=((2^n:Nat):Int):=by decide +kernel):Bt n x:=by
 show x.natAbs<2^n;omega
def bV (x:Int){m:Int}(h:0<m):0<=x%m/\x%m<m:=⟨Int.emod_nonneg x (by omega),Int.emod_lt_of_pos x h⟩
def aCf:Ck "int" = some (.type "int"):=by decide +kernel
def aEg:Ck "bool" = some (.type "bool"):=by decide +kernel
def eN:Ck "tuple" = some (.type "tuple"):=by decide +kernel
def bl {c:Int}(h0:0<=c:=by decide)(h:c<18446744073709551616:=by decide):Bt 1000000 c:=b6 (cG 64 h0 h)
def bk {c:Int}(h0:0<=c:=by decide)(h:c<18446744073709551616:=by decide):Bt 1000 c:=(cG 64 h0 h).mono (by decide)
def aE9:FnScope ["_law_script","_law_k"] ["_law_script","_law_k"] (aJ sCell):=fnScOk (by decide +kernel)
def aDx {f:Addr}{fd:AM}(F:Fun K "_law_cell_at" "_law_cell_at" sCell f fd)(T:Txt mg):FnOk P w K mg base CX0 1 f fd ["_law_script","_law_k"] (gU K):=by
 refine F.ok aE9 (λvs H Q E h=>?_) (λcdv A outer s H vs Q E hr h=>?_)
 ·obtain ⟨_,_,_,rfl,_⟩:=h
  rfl
 ·obtain ⟨a,ns,j,rfl,hS,h0,k⟩:=h
  refine ⟨_,(aD (bK (aM qA (pv 1) (aQ bA rfl T.len BA (aA (pv 0) aC)) (aV _))
    (aH (aU (bE aW (pv 0) (pv 1) (λ_ _=>rfl))))
    aY)
   (aH (aU aG))),?_⟩
  refine ⟨_,rfl,_,rfl,a,_,rfl,.inl hS,_,_,rfl,rfl,_,rfl,ite2 (λhc=>?_) (λ_=>k _)⟩;have hc':j<((ns.map V.int).length:Int):=of_decide_eq_true hc;rw [Ac] at hc';obtain ⟨i,rfl⟩:=Bc h0;obtain ⟨c,hc⟩:∃ c,ns[i]?=some c:=⟨_,Af (show i<ns.length by omega)⟩;exact ⟨_,rfl,_,rfl,a,_,(i:Int),.int c,rfl,rfl,hS,aZ (by rw [Aj,hc];rfl),k c⟩
def oU:Ck "abs" = some (.builtin "abs"):=by decide +kernel
theorem lenC (x:Str):x.length=(cps x).length:=by simp [Str.length,cps]
theorem lenA (x y:Str):(x++y).length=x.length+y.length:=by rw [lenC,dE,Aq,<- lenC,<- lenC]
def dU {x:Str}{ws:List Str}:inV (.str x) (ws.map V.str)=true↔x∈ws:=by
 unfold inV;rw [List.any_map,List.any_eq_true];constructor
 ·rintro ⟨y,hy,e⟩
  have:y=x:=by simpa [eqV] using e
  exact this▸hy
 ·intro h
  exact ⟨x,h,by simp [eqV]⟩
def cI (ws:List Str):(ws.map V.str).all dX=true:=by
 rw [List.all_map,Cy];intro x _;rfl
def tP {ws:List Str}{x:Str}(h:ws.Nodup)(n:x∉ws):(ws++[x]).Nodup:=by
 rw [DR];refine ⟨h,by simp,λy hy z hz e=>?_⟩;rw [Al.mp hz] at e;exact n (e▸hy)
def fF {X:Cx}{scope:Scope}(h:∀ y∈scope.names,y.2=.local\/y.2=.globalImplicit):ClOk X scope []:=by
 refine ⟨closureFor_none λx hx z=>?_,λx c e=>by simp at e,λx e=>?_⟩
 ·rcases h x hx with q|q<;>rw [q] at z<;>cases z
 ·exfalso
  have e':∃ k,(k=Cw\/k=Bd)/\(relabel scope X.env).names.lookup x=some k:=by
   rcases e with e|e
   ·exact ⟨_,.inl rfl,e⟩
   ·exact ⟨_,.inr rfl,e⟩
  obtain ⟨k,hk,e⟩:=e';have hm:=BW e;obtain ⟨y,hy,hy2⟩:=AY.mp hm;have hl:=h y hy;obtain ⟨n,kk⟩:=y;simp only at hl
  rcases hl with hl|hl<;>subst hl<;>simp at hy2<;>rcases hk with rfl|rfl<;>exact absurd hy2.2 (by decide)
def list_eq {α:Type}{ys l:List α}(hl:ys.length=l.length)(h:∀ (i:Nat) x y,l[i]?=some x->ys[i]?=some y->y=x):ys=l:=by
 refine Dh λi=>?_
 by_cases hi:i<l.length
 ·have e1:=Af hi
  have e2:ys[i]?=some (ys[i]'(by omega)):=Af (by omega);rw [e1,e2,h i _ _ e1 e2]
 ·rw [Bu (by omega),Bu (by omega)]
end
end K45
namespace L2
open PySem PySem.Spec PyProof.Rows
def jn (sep:Str):List Str->Str
 |[x]=>x
 |l=>AU.Str.glued sep l
def rJoin (K:Ab):V->List V->Hp->VK->Prop:=λz vs H Q=>∃ sep a ss,z=.str sep/\vs=[.ref a]/\SqL K H a (ss.map V.str)/\sep.length<=10/\ss.length<=100/\(∀ x∈ss,x.length<=1000)/\Q (.str (jn sep ss)) H
def xW {x:Str}{g:TG}{tb:TS}{D:Ends}{σ:St}{H:Hp}(Pv:Nat->St->Hp->Prop)(h0:Pv 0 σ H)
  (hs:∀ i c σ H,x.cps[i]?=some c->Pv i σ H->g (.str ⟨#[c]⟩) σ H λσ2 H2=>tb { D with nx:=Pv (i+1),ct:=Pv (i+1),bk:=D.nx } σ2 H2) (hd:∀ σ H,Pv x.cps.size σ H->D.nx σ H) :
  ∃ W:Nat->Nat->St->Hp->Prop,(∃ m,W 0 m σ H)/\∀ i m σ H,W i m σ H ->
   ((Its x).stop i H/\D.nx σ H)\/((Its x).go i H/\∃ N:St->Hp->Prop,(∀ σ' H',N σ' H'->∃ m',m'<m/\W (i+1) m' σ' H')/\∀ v H',(Its x).yld i H v H'->g v σ H' λσ2 H2=>tb { D with nx:=N,ct:=N,bk:=D.nx } σ2 H2):=by
 refine ⟨λi m σ H=>m=x.cps.size-i/\i<=x.cps.size/\Pv i σ H,⟨x.cps.size,by simp,Bi _,h0⟩,?_⟩
 rintro i m σ H ⟨rfl,hi,p⟩
 by_cases hlt:i<x.cps.size
 ·refine .inr ⟨⟨x.cps[i],Fi hlt⟩,Pv (i+1),λσ' H' p'=>⟨x.cps.size-(i+1),by omega,rfl,hlt,p'⟩,λv H' y=>?_⟩
  obtain ⟨e,c,hc,rfl⟩:=y;subst e;exact hs i c σ _ hc p
 ·have e:i=x.cps.size:=by omega
  subst e;exact .inl ⟨Array.getElem?_eq_none (Ao _),hd σ H p⟩
section
variable {X:Cx}
def tx:V->Str
 |.int n=>toString n
 |.str x=>x
 |_=>Str.empty
def TxOk (v:V):Prop:=(∃ n:Nat,v=.int n/\n<10^60)\/∃ x,v=.str x/\x.length<=100
end
end L2
namespace K45
open PySem PySem.Spec PyProof.Rows L2 GM TM
def SmB (a:Addr)(H H':Hp):Prop:=∀ b o,b≠a->H b=some o->H' b=some o
def SmB.refl {a:Addr}{H:Hp}:SmB a H H:=λ_ _ _ h=>h
theorem SmB.trans {a:Addr}{H H1 H2:Hp}(h:SmB a H H1)(k:SmB a H1 H2):SmB a H H2:=λb o n e=>k b o n (h b o n e)
def SmB.of {a:Addr}{H H':Hp}(h:Same H H'):SmB a H H':=λb o _ e=>h b o e
theorem SmB.upd {a:Addr}{H:Hp}{o:HO}:SmB a H (upd H a o):=λb u n e=>by rw [aE n];exact e
def SmB.own {a p:Addr}{H H':Hp}{o:HO}(h:SmB a H H')(n:H p=none):SmB a H (L2.upd H' p o):=λb u nb e=>by
 have ne:b≠p:=λz=>by rw [z,n] at e;cases e
 rw [aE ne];exact h b u nb e
theorem SmB.none {a p:Addr}{H H':Hp}(h:SmB a H H')(n:H' p=none)(pa:p≠a):H p=none:=by
 cases e:H p with
 |none=>rfl
 |some o=>
  have:=h p o pa e;rw [n] at this;cases this
def Lf (H:Hp)(a:Addr):Prop:=∃ n:Int,H a=some (.lst [.int n])/\0<=n
theorem Lf.keep {H H':Hp}{a:Addr}(h:Lf H a)(s:Same H H'):Lf H' a:=by
 obtain ⟨n,e,r⟩:=h;exact ⟨n,s _ _ e,r⟩
def Lf.there {H:Hp}{a b:Addr}(h:Lf H a)(n:H b=none):b≠a:=λz=>by
 obtain ⟨_,e,_⟩:=h;rw [<- z,n] at e;cases e
def Lf.own {H:Hp}{a p:Addr}{o:HO}(h:Lf H a)(n:p≠a):Lf (upd H p o) a:=by
 obtain ⟨m,e,r⟩:=h;exact ⟨m,by rw [aE (BU n)];exact e,r⟩
def gG:Sp:=λvs H Q _=>∃ c k:Int,vs=[.int c,.int k]/\0<=k/\k<=1000/\∀ n:Int,0<=n->n<2147483647->Q (.int n) H
def eD:Sp:=λvs H Q _=>∃ t b:Int,vs=[.int t,.int b]/\0<=t/\1<=b/\Bt 9000 b/\∀ p H',Same H H'->H p=none->H' p=some (.tup [.int (t/G t b),.int (b/G t b)])->Q (.ref p) H'
def fJ:Sp:=λvs H Q _=>∃ (a:Addr) (m:Int),vs=[.ref a,.int m]/\Lf H a/\1<=m/\Bt 9000 m/\∀ (d:Int) H',0<=d->d<m->SmB a H H'->Lf H' a->Q (.int d) H'
def pM:Sp:=λvs H Q _=>∃ a:Addr,vs=[.ref a]/\Lf H a/\∀ (ws:List Str) p H',ws.length=6->ws.Nodup->(∀ x∈ws,Wr x)->SmB a H H'->H p=none->p≠a->H' p=some (.lst (ws.map V.str))->Q (.ref p) H'
structure Rm (t b:Int):Prop where
 t1:1<=t
 b1:1<=b
 g:G t b=1
 st:Bt 63 t
 sb:Bt 63 b
def vB:Sp:=λvs H Q _=>∃ n:Int,vs=[.int n]/\0<=n/\n<2147483647/\∀ t b p H',Rm t b->Same H H'->H p=none->H' p=some (.tup [.int t,.int b])->Q (.ref p) H'
def rW {t b:Int}(h0:1<=t)(h1:1<=b)(ht:Bt 63 t)(hb:Bt 63 b):Rm (t/G t b) (b/G t b):=by
 have a:=aD6 (t:=t) (b:=b) (by omega) h1;have g:=qW (a:=t) (b:=b) (by omega);have l:=Int.le_of_dvd (by omega) (aEj t b);refine ⟨(EA g).mpr (by omega),(EA g).mpr (by have:=sT (a:=t) (b:=b) (by omega);omega),a.3,ht.le a.1 (Int.ediv_le_self _ (by omega)),hb.le (by have:=a.2;omega) (Int.ediv_le_self _ (by omega))⟩
def xC {t b:Int}(h1:1<=b)(hs:Bt 9000 b):0<G t b/\Bt 9000 (G t b):=by
 have p:=qW (a:=t) (b:=b) (by omega);exact ⟨p,hs.le (by omega) (sT (by omega))⟩
def b9 {c:Int}(h0:0<=c:=by decide)(h:c<18446744073709551616:=by decide):Bt 9000 c:=(cG 64 h0 h).mono (by decide)
theorem e18:(10:Int)^BP 18=1000000000000000000:=by decide +kernel
section
variable {P:AF}{w:World}{K:Ab}{mg:Str->Option Value}{base:Heap}
def aC2:FnScope ["_law_cell","_law_k"] ["_law_cell","_law_k"] (aJ sMixed):=fnScOk (by decide +kernel)
def aAo {f:Addr}{fd:AM}(F:Fun K "_law_mixed" "_law_mixed" sMixed f fd):FnOk P w K mg base CX0 1 f fd ["_law_cell","_law_k"] gG:=by
 refine F.ok aC2 (λvs H Q E h=>?_) (λcdv A outer s H vs Q E hr h=>?_)
 ·obtain ⟨_,_,rfl,_⟩:=h
  rfl
 ·obtain ⟨c,k,rfl,k0,k1,q⟩:=h
  refine ⟨_,aH (aU (aN bM (aN cQ (aN bF (aN bF (aN bM (pv 0) aG) (aN cQ (pv 1) (pv 1))) aG) aG) aG)),?_⟩;have c1:=bV c (m:=1000003) (by decide);have bk1:Bt 32 k:=cG 32 (c:=1001) k0 (by omega);have b3:Bt 66 (c%1000003+k*k+1):=((cG 64 (c:=1000003) c1.1 c1.2).add (bk1.mul bk1)).add (cG 65 (x:=1) (c:=2) (by decide) (by decide));refine ⟨_,rfl,_,_,rfl,rfl,(by show (0:Int)<1000003;decide),_,rfl,_,rfl,_,_,rfl,rfl,⟨b6 bk1,b6 bk1⟩,_,_,rfl,rfl,_,_,rfl,rfl,_,_,rfl,rfl,⟨b6 b3,bl⟩,_,_,rfl,rfl,(by show (0:Int)<2147483647;decide),?_⟩;have e:=bV ((c%1000003+k*k+1)*48271) (m:=2147483647) (by decide);exact q _ e.1 e.2
def iJ:FnScope ["_law_top","_law_bottom","_law_one","_law_other"] ["_law_top","_law_bottom"] (aJ sLowest):=fnScOk (by decide +kernel)
def wI {f:Addr}{fd:AM}(F:Fun K "_law_lowest" "_law_lowest" sLowest f fd):FnOk P w K mg base CX0 1 f fd ["_law_top","_law_bottom"] eD:=by
 refine F.ok iJ (λvs H Q E h=>?_) (λcdv A outer s H vs Q E hr h=>?_)
 ·obtain ⟨a,b,rfl,_⟩:=h
  rfl
 ·obtain ⟨a,b,rfl,ha,hb,bb,k⟩:=h
  refine ⟨_,(aD (aK (i:=2) iJ.nd rfl (Or.inl rfl) (pv 0))
   (aD (aK (i:=3) iJ.nd rfl (Or.inl rfl) (pv 1))
   (aD (iK AQ (aM qB (pv 3) aG (aV _))
   (aH (aFm (i:=2) (j:=3) rfl iJ.nd rfl rfl (by decide) rfl rfl (aA (pv 3) (aA (aN bM (pv 2) (pv 3)) aC)) rfl)))
   (aH (aU (aT (aA (aN bN (pv 0) (pv 2)) (aA (aN bN (pv 1) (pv 2)) aC)))))))),?_⟩
  refine cut4 ?_
  intros
  refine ⟨_,rfl,_,rfl,?_⟩;refine yR (λσ H'=>H'=H/\∃ (x y:Int),σ=[some (.int a),some (.int b),some (.int x),some (.int y)]/\0<=x/\0<=y/\G x y=G a b) (λσ _=>match σ with|[_,_,_,some (.int y)]=>y.toNat|_=>0) ⟨rfl,a,b,rfl,ha,by omega,rfl⟩ ?_ ?_
  ·rintro σ H' ⟨rfl,x,y,rfl,hx,hy,e⟩
   refine ⟨_,rfl,_,_,rfl,rfl,_,rfl,?_⟩;refine ite2 (λhc=>?_) (λhc=>?_)
   ·have hy0:0<y:=of_decide_eq_true hc
    have t:=aA6 e hy (by omega);refine ⟨_,rfl,_,rfl,_,rfl,_,_,rfl,rfl,(by show 0<y;omega),_,_,rfl,⟨rfl,y,x%y,rfl,hy,t.1,t.2⟩,?_⟩;have:=Int.emod_lt_of_pos x (show 0<y by omega);have:=t.1;show (x%y).toNat<y.toNat;omega
   ·have hy0:y=0:=by
     have:¬ 0<y:=λz=>hc (decide_eq_true z);omega
    subst hy0;rw [aGk hx] at e;subst e;have g:=xC (t:=a) hb bb;refine ⟨_,rfl,_,rfl,_,_,rfl,rfl,g,_,rfl,_,rfl,_,_,rfl,rfl,g,zLn2,λp hp=>?_⟩;exact k p _ (Same.upd hp) hp aB
  ·rintro σ H' Q1 Q2 hq ⟨v,e,i,j,e1,e2,z,ez,q⟩
   exact ⟨v,e,i,j,e1,e2,z,ez,hq _ _ q⟩
def vI:FnScope ["_law_left","_law_many","_law_found"] ["_law_left","_law_many"] (aJ sDigit):=fnScOk (by decide +kernel)
def aAs {f:Addr}{fd:AM}(F:Fun K "_law_digit" "_law_digit" sDigit f fd):FnOk P w K mg base CX0 1 f fd ["_law_left","_law_many"] fJ:=by
 refine F.ok vI (λvs H Q E h=>?_) (λcdv A outer s H vs Q E hr h=>?_)
 ·obtain ⟨_,_,rfl,_⟩:=h
  rfl
 ·obtain ⟨a,m,rfl,⟨n,ha,n0⟩,m1,bm,k⟩:=h
  refine ⟨_,(aD (aK (i:=2) vI.nd rfl (Or.inl rfl) (aN bM (bE aW (pv 0) aG (λ_ _=>rfl)) (pv 1)))
   (aD (kL (aN bN (bE aW (pv 0) aG (λ_ _=>rfl)) (pv 1)) (vT (pv 0) aG set_list))
   (aH (aU (pv 2))))),?_⟩
  refine cut3 ?_
  intros
  refine ⟨_,rfl,a,_,0,.int n,rfl,rfl,SqL.of ha,aZ (j:=0) rfl,_,rfl,_,_,rfl,rfl,(by show 0<m;omega),?_⟩;refine ⟨_,rfl,a,_,0,.int n,rfl,rfl,SqL.of ha,aZ (j:=0) rfl,_,rfl,_,_,rfl,rfl,⟨by omega,bm⟩,_,rfl,a,_,0,0,rfl,rfl,ha,rfl,?_⟩;have e:=bV n (show (0:Int)<m by omega);exact ⟨_,rfl,k _ _ e.1 e.2 SmB.upd ⟨_,aB,DI n0 (by omega)⟩⟩
def aE6:FnScope ["_law_number"] ["_law_number"] (aJ sMuch):=fnScOk (by decide +kernel)
def aDu {f:Addr}{fd:AM}(F:Fun K "_law_much" "_law_much" sMuch f fd)(cL:Cal P w K mg base CX0 1 "_law_lowest" ["_law_top","_law_bottom"] eD):FnOk P w K mg base CX0 2 f fd ["_law_number"] vB:=by
 refine F.ok aE6 (λvs H Q E h=>?_) (λcdv A outer s H vs Q E hr h=>?_)
 ·obtain ⟨_,rfl,_⟩:=h
  rfl
 ·obtain ⟨n,rfl,n0,nl,k⟩:=h
  refine ⟨_,(aD (bK (aM cV (aN bM (pv 0) aG) aG (aV _))
    (aH (aU (aL cL hr rfl aS (aA (aN bF aG (aN bM (aN cQ (aN bN (pv 0) aG) aG) (aN jG aG aG))) (aA (aN bF aG (aN bM (aN bN (pv 0) aG) aG)) aC)))))
    aY)
   (aH (aU (aL cL hr rfl aS (aA (aN bF aG (aN bM (aN bN (pv 0) aG) aG)) (aA (aN bF aG (aN bM (aN bN (pv 0) aG) aG)) aC)))))),?_⟩
  have q0:0<=n/4:=DI n0 (by decide);have ql:n/4<2147483647:=Int.lt_of_le_of_lt (Int.ediv_le_self _ n0) nl;have bq:Bt 64 (n/4):=cG 64 q0 (Int.lt_trans ql (by decide:(2147483647:Int)<2147483648));have e1:=bV (n/4) (m:=12) (by decide);have e2:=bV (n/48) (m:=12) (by decide);refine ⟨_,rfl,_,_,rfl,rfl,(by show (0:Int)<4;decide),rfl,_,rfl,ite2 (λ_=>?_) (λ_=>?_)⟩
  ·refine ⟨_,rfl,_,_,rfl,rfl,⟨by decide,b9⟩,_,_,rfl,rfl,⟨b6 bq,bl⟩,_,_,rfl,rfl,⟨by decide,by decide,bk⟩,_,_,rfl,rfl,?_,_,_,rfl,rfl,_,rfl,_,_,rfl,rfl,⟨by decide,b9⟩,_,_,rfl,rfl,(by show (0:Int)<12;decide),_,_,rfl,rfl,?_⟩
   ·rw [e18]
    show (0:Int)<1000000000000000000
    decide
   ·rw [e18]
    have e3:=bV (n/4*69621) (m:=1000000000000000000) (by decide);exact ⟨_,_,rfl,by omega,by omega,b9 (by omega) (by omega),λp H' sm np hp=>k _ _ p H' (rW (by omega) (by omega) (cG 63 (c:=2000000000000000000) (by omega) (by omega)) (cG 63 (c:=2000000000000000000) (by omega) (by omega))) sm np hp⟩
  ·refine ⟨_,rfl,_,_,rfl,rfl,⟨by decide,b9⟩,_,_,rfl,rfl,(by show (0:Int)<12;decide),_,_,rfl,rfl,_,rfl,_,_,rfl,rfl,⟨by decide,b9⟩,_,_,rfl,rfl,(by show (0:Int)<12;decide),_,_,rfl,rfl,?_⟩
   exact ⟨_,_,rfl,by omega,by omega,b9 (by omega) (by omega),λp H' sm np hp=>k _ _ p H' (rW (by omega) (by omega) (cG 63 (c:=2000000000000000000) (by omega) (by omega)) (cG 63 (c:=2000000000000000000) (by omega) (by omega))) sm np hp⟩
end
def one (c:Nat):Str:=⟨#[c]⟩
theorem mI (c:Nat):cps (one c)=[c]:=rfl
def aEm {c:Nat}(h:97<=c/\c<=122):Wr (one c):=⟨(by show 1<=1;decide),(by show 1<=8;decide),λx hx=>by
 rw [mI] at hx;rw [Al.mp hx];exact h⟩
def one_inj {c d:Nat}(e:one c=one d):c=d:=by
 have:=congrArg cps e;rw [mI,mI] at this;exact (List.cons.inj this).1
def pE:Sp:=λvs H Q _=>∃ c:Int,vs=[.int c]/\∀ (ws:List Str) p H',ws.length=6->ws.Nodup->(∀ x∈ws,Wr x)->Same H H'->H p=none->H' p=some (.lst (ws.map V.str))->Q (.ref p) H'
section
variable {P:AF}{w:World}{K:Ab}{mg:Str->Option Value}{base:Heap}
def eF:FnScope ["_law_left","_law_letters","_law_found","_law_k","_law_word","_law_j","_law_tail"] ["_law_left"] (aJ sNames):=fnScOk (by decide +kernel)
def aAn {f:Addr}{fd:AM}(F:Fun K "_law_names" "_law_names" sNames f fd)(T:Txt mg)(cD:Cal P w K mg base CX0 1 "_law_digit" ["_law_left","_law_many"] fJ):FnOk P w K mg base CX0 2 f fd ["_law_left"] pM:=by
 refine F.ok eF (λvs H Q E h=>?_) (λcdv A outer s H vs Q E hr h=>?_)
 ·obtain ⟨_,rfl,_⟩:=h
  rfl
 ·obtain ⟨a,rfl,lf,k⟩:=h
  refine ⟨_,(aD (aK (i:=1) eF.nd rfl (Or.inl rfl) bD)
   (aD (aK (i:=2) eF.nd rfl (Or.inl rfl) (bC aC))
   (aD (bP AQ rfl (bT rfl T.range (aA aG aC)) (aR (i:=3) eF.nd rfl (Or.inl rfl))
    (aD (aK (i:=4) eF.nd rfl (Or.inl rfl) bD)
    (aD (bP AQ rfl (bT rfl T.range (aA (aN bF aG (aL cD hr rfl aS (aA (pv 0) (aA aG aC)))) aC)) (aR (i:=5) eF.nd rfl (Or.inl rfl))
     (aH (aK (i:=4) eF.nd rfl (Or.inl rfl) (aN dA (pv 4) (bE oA (pv 1) (aL cD hr rfl aS (aA (pv 0) (aA aG aC))) (λ_ _=>rfl))))))
    (aD (bP AQ rfl (aBu (pv 1)) (aR (i:=6) eF.nd rfl (Or.inl rfl))
     (aH (bK (aM dH (pv 4) (pv 2) rfl) (aH (aK (i:=4) eF.nd rfl (Or.inl rfl) (pv 6))) aY)))
    (aH (bB (cO Ak AB AA aX (pv 2) (aA (pv 4) aC))))))))
   (aH (aU (pv 2)))))),?_⟩
  refine cut4 ?_
  intros
  have zL:LET.length<=AE:=by decide +kernel
  refine ⟨zLn0,λp hp=>?_⟩;have pa:p≠a:=lf.there hp;refine ⟨6,rfl,by decide,by decide,?_⟩;refine eB (λi σ H'=>∃ (ws:List Str) (v3 v4 v5 v6:Option V),σ=[some (.ref a),some (.str LET),some (.ref p),v3,v4,v5,v6]/\ws.length=i/\ws.Nodup/\(∀ x∈ws,Wr x)/\SmB a H H'/\Lf H' a/\H' p=some (.lst (ws.map V.str)))
   ⟨[],none,none,none,none,rfl,rfl,Cp,(λ_ h=>nomatch h),SmB.refl.own hp,lf.own pa,aB⟩ ?_ ?_
  ·rintro i σ H2 hi ⟨ws,v3,v4,v5,v6,rfl,wl,nd,wr,s2,lf2,hp2⟩
   have hi6:i<6:=hi;refine ⟨_,rfl,a,8,rfl,lf2,by decide,b9,λe H3 e0 el s3 lf3=>⟨_,_,rfl,rfl,1+e,rfl,by omega,by omega,?_⟩⟩;refine eB (λj σ H'=>∃ (x:Str) (v5:Option V),σ=[some (.ref a),some (.str LET),some (.ref p),some (.int (0+i)),some (.str x),v5,v6]/\x.length=j/\(∀ c∈cps x,97<=c/\c<=122)/\SmB a H H'/\Lf H' a/\H' p=some (.lst (ws.map V.str)))
    ⟨"",v5,rfl,rfl,(λ_ h=>nomatch h),s2.trans s3,lf3,s3 _ _ pa hp2⟩ ?_ ?_
   ·rintro j σ H4 hj ⟨x,u5,rfl,xl,xc,s4,lf4,hp4⟩
    refine ⟨_,rfl,_,rfl,_,rfl,a,26,rfl,lf4,by decide,b9,λg H5 g0 gl s5 lf5=>?_⟩;obtain ⟨gn,rfl⟩:=Bc g0;have lx:x.length<=8:=by omega
    refine ⟨LET,(gn:Int),97+gn,rfl,rfl,zL,aZ (pA (by omega)),_,_,rfl,rfl,bL (by show x.length+1<=1000;omega),?_⟩;refine ⟨_,_,rfl,?_,λc hc=>?_,s4.trans s5,lf5,s5 _ _ pa hp4⟩
    ·rw [lenA,xl]
     rfl
    ·rw [dE] at hc
     rcases Av.mp hc with h|h
     ·exact xc c h
     ·have:c=97+gn:=by simpa [cps] using h
      omega
   ·rintro σ H4 ⟨x,u5,rfl,xl,xc,s4,lf4,hp4⟩
    have wx:Wr x:=⟨by omega,by omega,xc⟩;refine ⟨_,rfl,LET,rfl,?_⟩;refine xW (λj σ H'=>∃ (y:Str) (v6:Option V),σ=[some (.ref a),some (.str LET),some (.ref p),some (.int (0+i)),some (.str y),u5,v6]/\H'=H4/\Wr y/\(y∉ws\/j=0\/∃ q,j=q+1/\y=one (97+q)/\∀ r,r<q->one (97+r)∈ws)) ⟨x,v6,rfl,rfl,wx,.inr (.inl rfl)⟩ ?_ ?_
    ·rintro j c σ H5 hc ⟨y,v6',rfl,rfl,wy,inv⟩
     have hj:j<26:=by
      have:=(Cg.mp hc).1;exact this
     have ec:c=97+j:=by
      have h1:=pA hj;have h2:(cps LET)[j]?=some c:=by simpa [cps] using hc
      rw [h1] at h2;exact (AS h2).symm
     subst ec;refine ⟨_,rfl,_,rfl,p,_,rfl,.inl (SqL.of hp4),rfl,cI ws,_,rfl,ite2 (λhin=>?_) (λhno=>?_)⟩
     ·have hin':y∈ws:=dU.mp hin
      refine ⟨_,rfl,one (97+j),_,rfl,rfl,aEm (by omega),.inr (.inr ⟨j,rfl,rfl,λr hr=>?_⟩)⟩
      rcases inv with h|h|⟨q,e,ey,h⟩
      ·exact absurd hin' h
      ·omega
      ·by_cases z:r=q
       ·rw [z,<- ey]
        exact hin'
       ·exact h r (by omega)
     ·exact ⟨y,_,rfl,rfl,wy,.inl λz=>hno (dU.mpr z)⟩
    ·rintro σ H5 ⟨y,v6',rfl,rfl,wy,inv⟩
     have ny:y∉ws:=by
      rcases inv with h|h|⟨q,e,ey,h⟩
      ·exact h
      ·exact absurd h (by decide)
      ·exfalso
       have q25:q=25:=by
        have:LET.cps.size=26:=by decide +kernel
        omega
       have:=aFn (λr=>one (97+r)) 25 ws (λr hr=>h r (by omega)) (λr1 r2 _ _ e=>by have:=one_inj e;omega);omega
     refine ⟨_,rfl,.inl ⟨rfl,_,SqL.of hp4⟩,_,rfl,p,_,_,rfl,rfl,hp4,aP (by rw [Ac];omega),?_⟩;refine ⟨ws++[y],_,_,_,_,rfl,by rw [Aq,wl];rfl,tP nd ny,λz hz=>?_,s4.own hp,lf4.own pa,by rw [Ax];exact aB⟩
     rcases Av.mp hz with h|h
     ·exact wr z h
     ·rw [Al.mp h]
      exact wy
  ·rintro σ H2 ⟨ws,v3,v4,v5,v6,rfl,wl,nd,wr,s2,lf2,hp2⟩
   exact ⟨_,rfl,k ws p H2 wl nd wr s2 hp pa hp2⟩
def ndW1:(["_law_tail","_law_word"]:List Str).Nodup:=by decide +kernel
def ndW2:(["_law_k","_law_word","_law_letters","_law_number"]:List Str).Nodup:=by decide +kernel
abbrev lC:List Str:=["","a","aa","ab","b","ba"]
def aEe {x y:Str}(h:cps x=cps y):x=y:=by
 obtain ⟨⟨x⟩⟩:=x;obtain ⟨⟨y⟩⟩:=y;simp [cps] at h;rw [h]
def yO {x y z:Str}(h:x++y=x++z):y=z:=by
 have:=congrArg cps h;rw [dE,dE] at this;exact aEe (List.append_cancel_left this)
def aBl {x y:Str}(l1:1<=x.length)(l:x.length+y.length<=8)(hx:∀ c∈cps x,97<=c/\c<=122)(hy:∀ c∈cps y,97<=c/\c<=122):Wr (x++y):=by
 refine ⟨by rw [lenA];omega,by rw [lenA];exact l,λc hc=>?_⟩;rw [dE] at hc
 rcases Av.mp hc with h|h
 ·exact hx c h
 ·exact hy c h
def qZ:∀ t∈lC,t.length<=2/\∀ c∈cps t,97<=c/\c<=122:=by decide +kernel
def yV:lC.Nodup:=by decide +kernel
def uT {ys:List V}{ws:List Str}(hl:ys.length=ws.length)(h:∀ (i:Nat) y b,ys[i]?=some y->ws[i]?=some b->y=.str b):ys=ws.map V.str:=by
 refine list_eq (by rw [Ac];exact hl) λi x y hx hy=>?_;rw [Aj] at hx;cases e:ws[i]? with
 |none=>rw [e] at hx;cases hx
 |some b=>
  rw [e] at hx;cases hx;exact h i y b hy e
theorem jI {α β:Type}{f:α->β}:∀ {l:List α},(∀ x∈l,∀ y∈l,f x=f y->x=y)->l.Nodup->(l.map f).Nodup
 |[],_,_=>Cp
 |x::r,h,n=>by
  rw [CC] at n;rw [Bb,CC];refine ⟨λz=>?_,jI (λa ha b hb=>h a (Au _ ha) b (Au _ hb)) n.2⟩;obtain ⟨y,hy,e⟩:=AY.mp z;have:=h y (Au _ hy) x (Az ..) e;rw [this] at hy;exact n.1 hy
def gH:FnScope ["_law_cell","_law_letters","_law_number","_law_word","_law_k"] ["_law_cell"] (aJ sWares):=fnScOk (by decide +kernel)
def aAd {f:Addr}{fd:AM}(F:Fun K "_law_wares" "_law_wares" sWares f fd)(T:Txt mg)(cN:Cal P w K mg base CX0 2 "_law_names" ["_law_left"] pM)(cM:Cal P w K mg base CX0 2 "_law_mixed" ["_law_cell","_law_k"] gG):FnOk P w K mg base CX0 3 f fd ["_law_cell"] pE:=by
 refine F.ok gH (λvs H Q E h=>?_) (λcdv A outer s H vs Q E hr h=>?_)
 ·obtain ⟨_,rfl,_⟩:=h
  rfl
 ·obtain ⟨c,rfl,k⟩:=h
  refine ⟨_,(aD (aK (i:=1) gH.nd rfl (Or.inr rfl) bD)
   (aD (bK (aM cV (aN bM (pv 0) aG) aG (aV _))
    (aH (aU (aL cN hr rfl aS (aA (bC (aA (aN bN (aQ gD rfl T.abs' oU (aA (pv 0) aC)) aG) aC)) aC))))
    aY)
   (aD (aK (i:=2) gH.nd rfl (Or.inr rfl) (aL cM hr rfl aS (aA (pv 0) (aA aG aC))))
   (aD (aK (i:=3) gH.nd rfl (Or.inr rfl) bD)
   (aD (bP AQ rfl (bT rfl T.range (aA (aN bF aG (aN bM (pv 2) aG)) aC)) (aR (i:=4) gH.nd rfl (Or.inl rfl))
    (aH (aK (i:=3) gH.nd rfl (Or.inr rfl) (aN dA (pv 3) (bE oA (pv 1) (aN bM (aN bN (aL cM hr rfl aS (aA (pv 0) (aA (aN bF (pv 4) aG) aC))) aG) aG) (λ_ _=>rfl))))))
   (aD (bK (aM cV (aN bM (aN bN (pv 2) aG) aG) aG (aV _))
    (aH (aU (fB (N':=["_law_tail","_law_word"]) (λσ=>[none,some 3].map λt=>t.bind λj=>(σ[j]?).join) rfl rfl (by decide +kernel) (by decide +kernel)
     (tZ (sc:=aJ sWares) rfl (by decide +kernel)) (λ_ _ _=>gR (sc:=aJ sWares) (N:=["_law_cell","_law_letters","_law_number","_law_word","_law_k"]) [none,some 3] rfl rfl rfl rfl (by decide +kernel))
     (gY (aT (aA bD (aA bD (aA bD (aA bD (aA bD (aA bD aC)))))))) (λ_ _ _ _ _ _=>aR (i:=0) ndW1 rfl (Or.inl rfl)) (λ_ _ _ _ _ _=>fA)
     (λ_ _ _ _ _ _=>aN dA (pv 1) (pv 0)))))
    aY)
   (aH (aU (fB (N':=["_law_k","_law_word","_law_letters","_law_number"]) (λσ=>[none,some 3,some 1,some 2].map λt=>t.bind λj=>(σ[j]?).join) rfl rfl (by decide +kernel) (by decide +kernel)
     (tZ (sc:=aJ sWares) rfl (by decide +kernel)) (λ_ _ _=>gR (sc:=aJ sWares) (N:=["_law_cell","_law_letters","_law_number","_law_word","_law_k"]) [none,some 3,some 1,some 2] rfl rfl rfl rfl (by decide +kernel))
     (bT rfl T.range (aA aG aC)) (λ_ _ _ _ _ _=>aR (i:=0) ndW2 rfl (Or.inl rfl)) (λ_ _ _ _ _ _=>fA)
     (λ_ _ _ _ _ _=>aN dA (pv 1) (bE oA (pv 2) (aN bM (aN bF (aN bN (pv 3) aG) (aN cQ aG (pv 0))) aG) (λ_ _=>rfl)))))))))))),?_⟩
  refine cut7 ?_
  intros
  have zL:LET.length<=AE:=by decide +kernel
  refine ⟨_,rfl,_,_,rfl,rfl,(by show (0:Int)<2;decide),rfl,_,rfl,ite2 (λ_=>?_) (λ_=>?_)⟩
  ·refine ⟨_,rfl,c,rfl,?_⟩
   have ha:0<=(if c<0 then -c else c):=by split<;>omega
   generalize (if c<0 then -c else c)=n at *
   refine ⟨_,_,rfl,rfl,⟨by decide,b9⟩,zLn1,λz hz=>⟨z,rfl,⟨_,aB,DI ha (by decide)⟩,λws p H' wl nd wr sm hp pz hp'=>?_⟩⟩;have hpn:H p=none:=by
    cases e:H p with
    |none=>rfl
    |some o=>
     have:=Same.upd (o:=.lst [.int (n/2)]) hz _ _ e;rw [hp] at this;cases this
   exact k ws p H' wl nd wr (λb o e=>sm b o (λq=>by rw [q,hz] at e;cases e) (Same.upd hz _ _ e)) hpn hp'
  refine ⟨_,rfl,c,0,rfl,by decide,by decide,λn n0 nl=>?_⟩;have e5:=bV n (m:=5) (by decide);refine ⟨_,rfl,_,_,rfl,rfl,(by show (0:Int)<5;decide),_,_,rfl,rfl,_,rfl,by omega,by omega,?_⟩;refine eB (λi σ H'=>∃ (x:Str) (v4:Option V),σ=[some (.int c),some (.str LET),some (.int n),some (.str x),v4]/\x.length=i/\(∀ d∈cps x,97<=d/\d<=122)/\H'=H) ⟨"",none,rfl,rfl,(λ_ h=>nomatch h),rfl⟩ ?_ ?_
  ·rintro i σ H' hi ⟨x,v4,rfl,xl,xc,rfl⟩
   refine ⟨_,rfl,_,rfl,_,rfl,_,rfl,_,_,rfl,rfl,c,_,rfl,by omega,by omega,λm m0 ml=>?_⟩;have e:=bV (m/64) (m:=26) (by decide);obtain ⟨gn,hg⟩:=Bc e.1;refine ⟨_,_,rfl,rfl,⟨by decide,b9⟩,_,_,rfl,rfl,(by show (0:Int)<26;decide),LET,_,97+gn,rfl,rfl,zL,(by rw [hg];exact aZ (pA (by omega))),_,_,rfl,rfl,bL (by show x.length+1<=1000;omega),?_⟩;refine ⟨_,_,rfl,?_,λd hd=>?_,rfl⟩
   ·rw [lenA,xl]
    rfl
   ·rw [dE] at hd
    rcases Av.mp hd with h|h
    ·exact xc d h
    ·have:d=97+gn:=by simpa [cps] using h
     omega
  ·rintro σ H' ⟨x,v4,rfl,xl,xc,rfl⟩
   have xl1:1<=x.length:=by omega
   have xl5:x.length<=5:=by omega
   refine ⟨_,rfl,_,_,rfl,rfl,⟨by decide,b9⟩,_,_,rfl,rfl,(by show (0:Int)<2;decide),rfl,_,rfl,ite2 (λ_=>?_) (λ_=>?_)⟩
   ·refine ⟨zLn6,λq hq=>⟨q,rfl,⟨_,SqT.of aB⟩,λD hD=>?_⟩⟩
    refine mJ (Ys.tup (xs:=lC.map V.str) (SqT.of aB)) (λi _ y _=>∀ t,lC[i]?=some t->y=.str (x++t)) (λ_ _ _ _ _ h _=>h) hD (by decide) (λi y H2 R hy sm hR=>?_) (λys H2 sm hD' yl hy=>?_)
    ·rw [Aj] at hy
     cases et:lC[i]? with
     |none=>rw [et] at hy;cases hy
     |some t=>
      rw [et] at hy;cases hy;have:=(qZ t (AJ et)).1;refine ⟨(Keep.refl _).set rfl,_,rfl,_,rfl,_,_,rfl,rfl,bL (by omega),hR _ _ (Same.refl _) λt' e'=>?_⟩;rw [et] at e';cases e';rfl
    ·have ey:=uT (ws:=lC.map λt=>x++t) (yl.trans (by rfl)) λi y b h1 h2=>by
      rw [Aj] at h2;cases et:lC[i]? with
      |none=>rw [et] at h2;cases h2
      |some t=>
       rw [et] at h2;cases h2;exact hy i (.str t) y (by rw [Aj,et];rfl) h1 t et
     subst ey;refine k _ D H2 rfl (jI (λa _ b _ e=>yO e) yV) (λz hz=>?_) ((Same.upd hq).trans sm) ?_ hD'
     ·obtain ⟨t,ht,rfl⟩:=AY.mp hz
      have tt:=qZ t ht;exact aBl xl1 (by omega) xc tt.2
     ·cases e:H' D with
      |none=>rfl
      |some o=>
       have h9:upd H' q (.tup (lC.map V.str)) D=none:=hD;have:=Same.upd (o:=.tup (lC.map V.str)) hq _ _ e;rw [h9] at this;cases this
   ·refine ⟨6,rfl,by decide,by decide,λD hD=>?_⟩
    refine mJ (Ys.rng (lo:=0) (n:=6)) (λi _ y _=>y=.str (x++one (97+((n/10+3*((0:Int)+i))%26).toNat))) (λ_ _ _ _ _ h _=>h) hD (by decide) (λi y H2 R hy sm hR=>?_) (λys H2 sm hD' yl hy=>?_)
    ·obtain ⟨hi,rfl⟩:=zH hy
     have e:=bV (n/10+3*((0:Int)+i)) (m:=26) (by decide);have bi:Bt 64 ((0:Int)+i):=cG 64 (c:=100) (by omega) (by omega);obtain ⟨gn,hg⟩:=Bc e.1;refine ⟨(Keep.refl _).set rfl,_,rfl,_,rfl,_,rfl,_,_,rfl,rfl,⟨by decide,b9⟩,_,rfl,_,_,rfl,rfl,⟨bl,b6 bi⟩,_,_,rfl,rfl,_,_,rfl,rfl,(by show (0:Int)<26;decide),LET,_,97+gn,rfl,rfl,zL,(by rw [hg];exact aZ (pA (by omega))),_,_,rfl,rfl,bL (by show x.length+1<=1000;omega),hR _ _ (Same.refl _) ?_⟩;rw [hg];rfl
    ·have ey:=uT (ws:=(Ay 6).map λi=>x++one (97+((n/10+3*((0:Int)+(i:Nat)))%26).toNat)) (yl.trans (by rfl)) λi y b h1 h2=>by
      rw [Aj] at h2;cases et:(Ay 6)[i]? with
      |none=>rw [et] at h2;cases h2
      |some t=>
       rw [et] at h2;cases h2;have ti:i=t:=by
        obtain ⟨hl,e⟩:=Ah.mp et
        simpa using e
       subst ti;obtain ⟨v,hv⟩:∃ v,(rngV 0 6)[i]?=some v:=⟨_,Af (by rw [fV];have:=(Ah.mp et).1;simpa using this)⟩;exact hy i v y hv h1
     subst ey;refine k _ D H2 rfl (jI (λa ha b hb e=>?_) List.nodup_range) (λz hz=>?_) sm hD hD'
     ·have h1:=one_inj (yO e)
      have ha':=Bv.mp ha;have hb':=Bv.mp hb;omega
     ·obtain ⟨t,ht,rfl⟩:=AY.mp hz
      have e:=bV (n/10+3*((0:Int)+(t:Nat))) (m:=26) (by decide);refine aBl xl1 (by show x.length+1<=8;omega) xc (λd hd=>?_);rw [mI] at hd;rw [Al.mp hd];omega
end
end K45
namespace TR
open PySem PySem.Spec PyProof.Rows L2 GM
def fU {t u:TS}{σ:L2.St}(S:L2.St->Hp->Prop)(h:∀ σ' H',S σ' H'->u D σ' H')(g:∀ N:L2.St->Hp->Prop,(∀ σ' H',S σ' H'->N σ' H')->t { D with nx:=N } σ H):tSeq t u D σ H:=g (u D) h
def aCx {t1 t2 u:TS}{σ:L2.St}(S:L2.St->Hp->Prop)(h:∀ σ' H',S σ' H'->u D σ' H')(g:∀ N:L2.St->Hp->Prop,(∀ σ' H',S σ' H'->N σ' H')->tSeq t1 t2 { D with nx:=N } σ H):tSeq t1 (tSeq t2 u) D σ H:=g (u D) h
def Top2 (l:List Int)(f s:Int):Prop:=∃ r,(l++[0,0]).Perm (f::s::r)/\s<=f/\∀ x∈r,x<=s
def Top2.uniq {f s f' s':Int}(h:Top2 l f s)(h':Top2 l f' s'):f=f'/\s=s':=by
 obtain ⟨r,p,a,b⟩:=h;obtain ⟨r',p',a',b'⟩:=h';have q:(f::s::r).Perm (f'::s'::r'):=p.symm.trans p';have m1:f∈f'::s'::r':=q.mem_iff.mp (Az ..);have m2:f'∈f::s::r:=q.mem_iff.mpr (Az ..);have ef:f=f':=by
  have u1:f<=f':=by
   rcases Aw.mp m1 with h|h
   ·omega
   ·rcases Aw.mp h with h|h
    ·omega
    ·have:=b' _ h;omega
  have u2:f'<=f:=by
   rcases Aw.mp m2 with h|h
   ·omega
   ·rcases Aw.mp h with h|h
    ·omega
    ·have:=b _ h;omega
  omega
 subst ef;have q2:(s::r).Perm (s'::r'):=(List.perm_cons f).mp q;have n1:s∈s'::r':=q2.mem_iff.mp (Az ..);have n2:s'∈s::r:=q2.mem_iff.mpr (Az ..);refine ⟨rfl,?_⟩;have u1:s<=s':=by
  rcases Aw.mp n1 with h|h
  ·omega
  ·exact b' _ h
 have u2:s'<=s:=by
  rcases Aw.mp n2 with h|h
  ·omega
  ·exact b _ h
 omega
def Top2.nil:Top2 [] 0 0:=⟨[],EF.refl _,by decide,λx h=>nomatch h⟩
def Top2.base {f s:Int}(h:Top2 l f s):0<=s:=by
 obtain ⟨r,p,a,b⟩:=h;have c:(l++[0,0]).countP (λx=>decide (0<=x)) ≥ 2:=by
  rw [List.countP_append];have:List.countP (λx:Int=>decide (0<=x)) [0,0]=2:=by decide
  omega
 rw [p.countP_eq] at c
 by_cases hs:0<=s
 ·exact hs
 ·exfalso
  have z:r.countP (λx=>decide (0<=x))=0:=by
   rw [List.countP_eq_zero];intro x hx;have:=b x hx;simp;omega
  rw [Eh,Eh,z] at c;have hs':decide (0<=s)=false:=decide_eq_false hs;rw [hs'] at c
  by_cases hf:0<=f<;>simp [hf] at c
def iU {x:Int}:((l++[x])++[0,0]).Perm (x::(l++[0,0])):=by
 rw [Bo];exact List.perm_middle
theorem Top2.up {f s x:Int}(h:Top2 l f s)(hx:f<x):Top2 (l++[x]) x f:=by
 obtain ⟨r,p,a,b⟩:=h;refine ⟨s::r,iU.trans (p.cons x),by omega,λy hy=>?_⟩
 rcases Aw.mp hy with h|h
 ·omega
 ·have:=b y h;omega
def Top2.mid {f s x:Int}(h:Top2 l f s)(h1:x<=f)(h2:s<=x):Top2 (l++[x]) f x:=by
 obtain ⟨r,p,a,b⟩:=h;refine ⟨s::r,iU.trans ((p.cons x).trans (EF.swap f x _)),by omega,λy hy=>?_⟩
 rcases Aw.mp hy with h|h
 ·omega
 ·have:=b y h;omega
def Top2.low {f s x:Int}(h:Top2 l f s)(h1:x<=s):Top2 (l++[x]) f s:=by
 obtain ⟨r,p,a,b⟩:=h;refine ⟨x::r,iU.trans ((p.cons x).trans ((EF.swap f x _).trans ((EF.swap s x _).cons f))),a,λy hy=>?_⟩
 rcases Aw.mp hy with h|h
 ·omega
 ·exact b y h
def Top2.one {a:Int}(p:[a].Perm l)(h:0<=a):Top2 l a 0:=
 ⟨[0],(p.symm.append_right [0,0]).trans (EF.refl _),h,λx hx=>by rw [Al.mp hx];exact Int.le_refl _⟩
def Top2.two {l r:List Int}{a b:Int}(p:(a::b::r).Perm l)(pw:(a::b::r).Pairwise (· ≥ ·))(h:0<=b):Top2 l a b:=by
 rw [List.pairwise_cons,List.pairwise_cons] at pw;refine ⟨r++[0,0],(p.symm.append_right [0,0]).trans (EF.refl _),pw.1 b (Az ..),λx hx=>?_⟩
 rcases Av.mp hx with h'|h'
 ·exact pw.2.1 x h'
 ·have:x=0:=by simpa using h'
  omega
def Nd (ds:List Int)(d:Int):Prop:=∃ f s,Top2 ds f s/\d=max f (s+1)
def Nd.pos {d:Int}(h:Nd ds d):1<=d:=by
 obtain ⟨f,s,t,rfl⟩:=h;have:=t.base;omega
def Nd.is {d f s:Int}(h:Nd ds d)(t:Top2 ds f s):d=max f (s+1):=by
 obtain ⟨f',s',t',rfl⟩:=h;obtain ⟨rfl,rfl⟩:=t'.uniq t;rfl
def av:List Int->Int
 |[]=>0
 |c::r=>av r-c+1
def Okc:List Int->Prop
 |[]=>True
 |c::r=>Okc r/\0<=c/\c<64/\c<=av r
def Gd (p:List Int)(m l:Int):Prop:=∀ r,Okc r->l<=av r->Okc (p++r)/\av r-l+m<=av (p++r)
def Gd.nil:Gd [] 0 0:=λr h _=>⟨h,by show av r-0+0<=av r;omega⟩
def Gd.root {m c:Int}(h:Gd p m 0)(h0:0<=c)(h1:c<64):Gd (p++[c]) (m+1) c:=λr hr hl=>by
 rw [Bo];have e:av ([c]++r)=av r-c+1:=rfl;have k:=h ([c]++r) ⟨hr,h0,h1,hl⟩ (by rw [e];omega);exact ⟨k.1,by have:=k.2;rw [e] at this;omega⟩
def Gd.part {m l c:Int}(h:Gd p m l)(l1:1<=l)(h0:0<=c)(h1:c<64):Gd (p++[c]) m (l-1+c):=λr hr hl=>by
 rw [Bo];have e:av ([c]++r)=av r-c+1:=rfl;have k:=h ([c]++r) ⟨hr,h0,h1,(by show c<=av r;omega)⟩ (by rw [e];omega);exact ⟨k.1,by have:=k.2;rw [e] at this;omega⟩
theorem nN:∀ n:Nat,Okc (AR n 0)/\av (AR n 0)=n
 |0=>⟨trivial,rfl⟩
 |n+1=>by
  have k:=nN n;rw [BZ];refine ⟨⟨k.1,by decide,by decide,by rw [k.2];omega⟩,?_⟩;show av (AR n 0)-0+1=_;rw [k.2];omega
def Gd.done {m:Int}(h:Gd p m 0):Okc p:=by
 have k:=h [] trivial (Int.le_refl _);rw [AL] at k;exact k.1
def Gd.whole {m:Int}{l:Nat}(h:Gd p m l)(m0:0<=m)(m1:m<64):Okc (m::(p++AR l 0)):=by
 have z:=nN l;have k:=h _ z.1 (by rw [z.2];omega);exact ⟨k.1,m0,m1,by have:=k.2;rw [z.2] at this;omega⟩
def xF (i:List Int)(x:Int):ixN ((i++[x]).map V.int).length (-1)=some i.length:=by
 unfold ixN;rw [if_neg (by decide),Ac,Aq,if_pos (by simp;omega)]
 congr 1
 simp;omega
theorem rX (i:List Int)(x y:Int):((i++[x]).map V.int).set i.length (.int y)=(i++[y]).map V.int:=by
 rw [Ax,Ax];rw [List.set_append_right _ _ (by rw [Ac];exact Ao _)];simp
def mB (i:List Int)(x:Int):atI ((i++[x]).map V.int) (-1)=some (.int x):=by
 rw [Ax];exact mK _ _
theorem lD (i:List Int)(x:Int):(i++[x]).sum=i.sum+x:=by simp
theorem rB:∀ {l:List Int},(∀ x∈l,0<=x)->0<=l.sum
 |[],_=>by decide
 |x::r,h=>by
  have:=h x (Az ..);have:=rB (l:=r) λy hy=>h y (Au _ hy);rw [List.sum_cons];omega
theorem aBo:∀ {l:List Int},(∀ x∈l,x<=4)->l.sum<=4*l.length
 |[],_=>by decide
 |x::r,h=>by
  have:=h x (Az ..);have:=aBo (l:=r) λy hy=>h y (Au _ hy);rw [List.sum_cons,AI];omega
def jJ (l:List Int):l=[]\/∃ i x,l=i++[x]:=by
 cases h:l.reverse with
 |nil=>exact .inl (BC.mp h)
 |cons x i=>exact .inr ⟨i.reverse,x,by have:=congrArg DA h;simpa using this⟩
def Am (H:Hp)(m:Addr)(n:Nat):Prop:=∃ t b:Int,H m=some (.tup [.int t,.int b])/\0<=t/\1<=b/\Bt (64*n-1) t/\Bt (64*n-1) b
theorem Am.keep {n:Nat}(h:Am H m n)(k:Tk H H'):Am H' m n:=by
 obtain ⟨t,b,e,r⟩:=h;exact ⟨t,b,k _ _ e,r⟩
def Am.mono {n k:Nat}(h:Am H m n)(l:n<=k):Am H m k:=by
 obtain ⟨t,b,e,h1,h2,h3,h4⟩:=h;exact ⟨t,b,e,h1,h2,h3.mono (by omega),h4.mono (by omega)⟩
abbrev Pt:=V×Nat×Int
def szs (cs:List Pt):Nat:=(cs.map (·.2.1)).sum
def Tr (H:Hp):Nat->V->Nat->Int->Prop
 |0,_,_,_=>False
 |n+1,v,s,d=>
  (∃ (p m:Addr) (x:Str),v=.ref p/\H p=some (.tup [.str "ware",.str x,.ref m])/\Am H m 1/\s=1/\d=0) \/
  (∃ (p m q:Addr) (x:Str) (cs:List Pt),v=.ref p/\H p=some (.tup [.str "recipe",.str x,.ref m,.ref q])/\H q=some (.tup (cs.map (·.1)))/\1<=cs.length/\cs.length<64 /\
   (∀ c∈cs,Tr H n c.1 c.2.1 c.2.2)/\s=1+szs cs/\Nd (cs.map (·.2.2)) d/\Am H m s)
theorem Tr.keep (k:Tk H H'):∀ {n:Nat} {v:V} {s:Nat} {d:Int},Tr H n v s d->Tr H' n v s d
 |0,_,_,_,h=>h
 |n+1,v,s,d,h=>by
  rcases h with ⟨p,m,x,e,hp,am,r⟩|⟨p,m,q,x,cs,e,hp,hq,l1,l2,hc,hs,hd,am⟩
  ·exact .inl ⟨p,m,x,e,k _ _ hp,am.keep k,r⟩
  ·exact .inr ⟨p,m,q,x,cs,e,k _ _ hp,k _ _ hq,l1,l2,λc h=>Tr.keep k (hc c h),hs,hd,am.keep k⟩
theorem Tr.up :∀ {n m:Nat} {v:V} {s:Nat} {d:Int},n<=m->Tr H n v s d->Tr H m v s d
 |0,_,_,_,_,_,h=>h.elim
 |n+1,0,_,_,_,l,_=>absurd l (by omega)
 |n+1,m+1,v,s,d,l,h=>by
  rcases h with h|⟨p,a,q,x,cs,e,hp,hq,l1,l2,hc,r⟩
  ·exact .inl h
  ·exact .inr ⟨p,a,q,x,cs,e,hp,hq,l1,l2,λc h=>Tr.up (by omega) (hc c h),r⟩
theorem Tr.size {n:Nat}{s:Nat}{d:Int}(h:Tr H n v s d):1<=s:=by
 cases n with
 |zero=>exact h.elim
 |succ n=>
  rcases h with ⟨_,_,_,_,_,_,rfl,_⟩|⟨_,_,_,_,_,_,_,_,_,_,_,rfl,_⟩<;>omega
def Tr.need {n:Nat}{s:Nat}{d:Int}(h:Tr H n v s d):0<=d:=by
 cases n with
 |zero=>exact h.elim
 |succ n=>
  rcases h with ⟨_,_,_,_,_,_,_,rfl⟩|⟨_,_,_,_,_,_,_,_,_,_,_,_,hd,_⟩
  ·exact Int.le_refl _
  ·have:=hd.pos;omega
def Tr.shows {n:Nat}{s:Nat}{d:Int}(h:Tr H n v s d):∃ (p m:Addr) (y x:Str) (xs:List V),v=.ref p/\H p=some (.tup (.str y::.str x::.ref m::xs))/\Am H m s:=by
 cases n with
 |zero=>exact h.elim
 |succ n=>
  rcases h with ⟨p,m,x,e,hp,am,rfl,_⟩|⟨p,m,q,x,cs,e,hp,hq,l1,l2,hc,hs,hd,am⟩
  ·exact ⟨p,m,_,x,[],e,hp,am⟩
  ·exact ⟨p,m,_,x,_,e,hp,am⟩
theorem iF (c:Pt)(cs:List Pt):szs (c::cs)=c.2.1+szs cs:=by simp [szs]
def aCr (h:c∈cs):c.2.1<=szs cs:=by
 induction cs with
 |nil=>cases h
 |cons a r ih=>
  rw [iF]
  rcases Aw.mp h with h|h
  ·subst h;omega
  ·have:=ih h;omega
theorem cY (a b:List Pt):szs (a++b)=szs a+szs b:=by simp [szs]
theorem pD (a:List Pt):szs a.reverse=szs a:=by simp [szs]
def vX {X:Cx}{K:Ab}{o:Expr}{to:TE}{name:Str}{apos cpos:Pos}{T id:String}{r:V->List V->Hp->VK->Prop}(hK:X.K=K)(pa:PlainAttrs T)(slot:Slot T name id)(hty:typeOf (.builtin id)=pure (.type "method_descriptor"))(hm:MtR X id r)(ho:PE X o to)
  (hbase:Ee o name X.env (eval o X.env)=eval o X.env:=by rfl) (hline:(apos.endLine==cpos.line)=true:=by rfl):PE X (.Call (.Attribute o name apos) [] [] cpos) (tBM0 K T r to):=hK▸rP pa slot hty hm ho hbase hline
def Bx (a:Addr)(H H':Hp):Prop:=∀ b o,b≠a->H b=some o->H' b=some o
def Bx.tk {a:Addr}(h:Bx a H H')(ha:H a=some (.lst xs)):Tk H H':=λb ys e=>h b _ (λz=>by rw [z,ha] at e;cases e) e
def sN {K:Ab}{Pl D:Addr}{r u:List V}{H1:Hp}{QD:Hp->Prop}(hP:H1 Pl=some (.lst (r++u.reverse)))(hD:H1 D=none)(hl:u.length<=1000)
  (hd:∀ H',Bx Pl H1 H'->H' Pl=some (.lst r)->H' D=some (.lst u)->QD H') :
  ∃ W:Nat->Nat->List V->Hp->Prop,(∃ m,W 0 m [] (upd H1 D (.lst [])))/\∀ i m ys H,W i m ys H->H D=some (.lst ys)/\ys.length<AE /\
   (((Itr 0 u.length).stop i H/\QD H)\/((Itr 0 u.length).go i H/\∀ x H',(Itr 0 u.length).yld i H x H'->dW 0 x [none,some (.ref Pl)] H' λσ2 H2=>Keep [none,some (.ref Pl)] σ2/\yW σ2 H2 λb H3=>
    if b=true then tBM0 K "list" rPop (tVar 1) σ2 H3 λy H4=>H4 D=some (.lst ys)/\∃ m',m'<m/\W (i+1) m' (ys++[y]) (upd H4 D (.lst (ys++[y]))) else ∃ m',m'<m/\W (i+1) m' ys H3)):=by
 have DP:D≠Pl:=λz=>by rw [z,hP] at hD;cases hD
 refine ⟨λi m ys H=>m=u.length-i/\i<=u.length/\Bx Pl H1 H/\H Pl=some (.lst (r++(u.drop i).reverse))/\H D=some (.lst ys)/\ys=u.take i,
  ⟨_,rfl,Bi _,λb o n e=>by rw [aE (aI e hD)];exact e,by rw [aE DP.symm];exact hP,aB,rfl⟩,?_⟩
 rintro i m ys H ⟨rfl,hi,bx,hPl,hDD,rfl⟩
 refine ⟨hDD,aP (by rw [CL];omega),?_⟩
 by_cases hlt:i<u.length
 ·refine .inr ⟨hlt,λx H' y=>?_⟩
  obtain ⟨rfl,_⟩:=y;obtain ⟨v,hv⟩:∃ v,u[i]?=some v:=⟨_,Af hlt⟩;have ed:u.drop i=v::u.drop (i+1):=by
   rw [Cq hlt]
   congr 1
   rw [Af hlt] at hv;exact AS hv
  have el:r++(u.drop i).reverse=(r++(u.drop (i+1)).reverse)++[v]:=by rw [ed,List.reverse_cons,Bo]
  rw [el] at hPl;refine ⟨(Keep.refl _).set rfl,?_⟩;unfold yW;dsimp only;rw [if_pos rfl];refine ⟨_,rfl,.inl ⟨rfl,_,SqL.of hPl⟩,Pl,_,v,rfl,rfl,hPl,by simp,?_⟩;have ex:((r++(u.drop (i+1)).reverse)++[v]).dropLast=r++(u.drop (i+1)).reverse:=by simp
  rw [ex];refine ⟨by rw [aE DP];exact hDD,u.length-(i+1),by omega,rfl,hlt,λb o n e=>?_,?_,aB,?_⟩
  ·rw [aE (aI e hD),aE n]
   exact bx b o n e
  ·rw [aE DP.symm]
   exact aB
  ·rw [Dd,hv]
   rfl
 ·have e:i=u.length:=by omega
  subst e;rw [Eg,List.reverse_nil,AL] at hPl;rw [Ef] at hDD;exact .inl ⟨Ao _,hd H bx hPl hDD⟩
theorem rR:∀ {cs:List Int} (k:Nat),Okc cs->Okc (cs.drop k)
 |_,0,h=>h
 |[],_+1,h=>h
 |_::r,k+1,h=>rR (cs:=r) k h.1
theorem eM {cs:List Int}{k:Nat}{c:Int}(h:cs[k]?=some c):cs.drop k=c::cs.drop (k+1):=by
 obtain ⟨hl,e⟩:=Ah.mp h;rw [Cq hl,e]
def nzc (cs:List Int):Nat:=(cs.filter λc=>c != 0).length
def aBy (cs:List Int):nzc cs<=cs.length:=BM _ _
theorem iM (cs:List Int):nzc (0::cs)=nzc cs:=rfl
theorem rS {c:Int}(cs:List Int)(h:c≠0):nzc (c::cs)=nzc cs+1:=by
 unfold nzc;rw [List.filter_cons_of_pos (by simpa using h)];rfl
theorem aDz (a b:List Int):nzc (a++b)=nzc a+nzc b:=by simp [nzc]
theorem wN (n:Nat):nzc (AR n 0)=0:=by
 induction n with
 |zero=>rfl
 |succ n ih=>rw [BZ,iM,ih]
structure Pile (H:Hp)(cs:List Int)(j:Nat)(pl:List Pt):Prop where
 tr:∀ c∈pl,Tr H (nzc (cs.drop (cs.length-j))+1) c.1 c.2.1 c.2.2
 sz:szs pl=j
 ln:(pl.length:Int)=av (cs.drop (cs.length-j))
 hd:1<=j->∃ pl' q,pl=pl'++[q]/\∀ c,cs[cs.length-j]?=some c->1<=c->1<=q.2.2
theorem Pile.keep {j:Nat}(h:Pile H cs j pl)(k:Tk H H'):Pile H' cs j pl:=⟨λc hc=>(h.tr c hc).keep k,h.sz,h.ln,h.hd⟩
def Pile.nil :Pile H cs 0 []:=⟨(λ_ h=>nomatch h),rfl,by rw [Nat.sub_zero,Eg];rfl,λh=>absurd h (by decide)⟩
def Pile.ware {H:Hp}{cs:List Int}{j k:Nat}{pl:List Pt}{v:V}(h:Pile H cs j pl)(hj:cs.length=k+1+j)(hc:cs[k]?=some 0)(t:Tr H 1 v 1 0):Pile H cs (j+1) (pl++[(v,1,0)]):=by
 have e1:cs.length-(j+1)=k:=by omega
 have e2:cs.length-j=k+1:=by omega
 refine ⟨λc hc'=>?_,?_,?_,λ_=>⟨pl,_,rfl,λc hc' h1=>?_⟩⟩
 ·rw [e1,eM hc,iM]
  rcases Av.mp hc' with h'|h'
  ·have:=h.tr c h'
   rw [e2] at this;exact this
  ·rw [Al.mp h']
   exact t.up (by omega)
 ·rw [cY,h.sz]
  rfl
 ·have:=h.ln
  rw [e2] at this;rw [e1,eM hc,Aq];show ((pl.length+1:Nat):Int)=av (cs.drop (k+1))-0+1;omega
 ·rw [e1,hc] at hc'
  cases hc';omega
def Pile.split {H:Hp}{cs:List Int}{j k:Nat}{c:Int}{pl:List Pt}(h:Pile H cs j pl)(ok:Okc cs)(hj:cs.length=k+1+j)(hc:cs[k]?=some c):∃ r u:List Pt,pl=r++u.reverse/\(u.length:Int)=c/\u.length<64:=by
 have o:=rR k ok;rw [eM hc] at o;obtain ⟨_,c0,c64,ca⟩:=o;have e2:cs.length-j=k+1:=by omega
 have l:=h.ln;rw [e2] at l;refine ⟨pl.take (pl.length-c.toNat),(pl.drop (pl.length-c.toNat)).reverse,by rw [List.reverse_reverse,EE],?_,?_⟩<;>rw [List.length_reverse,List.length_drop]<;>omega
def Tr.recipe {n:Nat}{u:List Pt}(hp:H p=some (.tup [.str "recipe",.str x,.ref m,.ref q]))(hq:H q=some (.tup (u.map (·.1))))(l1:1<=u.length)(l2:u.length<64)(ht:∀ c∈u,Tr H n c.1 c.2.1 c.2.2)(am:Am H m (1+szs u)) :
  ∃ d,1<=d/\Tr H (n+1) (.ref p) (1+szs u) d:=by
 obtain ⟨d,hd⟩:∃ d,Nd (u.map (·.2.2)) d:=by
  have:∀ l:List Int,∃ f s,Top2 l.reverse f s:=λl=>by
   induction l with
   |nil=>exact ⟨0,0,Top2.nil⟩
   |cons x r ih=>
    obtain ⟨f,s,t⟩:=ih;rw [List.reverse_cons]
    by_cases h1:f<x
    ·exact ⟨_,_,t.up h1⟩
    ·by_cases h2:s<=x
     ·exact ⟨_,_,t.mid (by omega) h2⟩
     ·exact ⟨_,_,t.low (by omega)⟩
  obtain ⟨f,s,t⟩:=this (u.map (·.2.2)).reverse;rw [List.reverse_reverse] at t;exact ⟨_,f,s,t,rfl⟩
 exact ⟨d,hd.pos,.inr ⟨p,m,q,x,u,rfl,hp,hq,l1,l2,ht,rfl,hd,am⟩⟩
def Pile.recipe {H:Hp}{cs:List Int}{j k:Nat}{c d:Int}{r u:List Pt}{v:V}(h:Pile H cs j (r++u.reverse))(hj:cs.length=k+1+j)(hc:cs[k]?=some c)(c0:c≠0)(hl:(u.length:Int)=c)(d1:1<=d)(t:Tr H (nzc (cs.drop (cs.length-j))+1+1) v (1+szs u) d):Pile H cs (j+1) (r++[(v,1+szs u,d)]):=by
 have e1:cs.length-(j+1)=k:=by omega
 have e2:cs.length-j=k+1:=by omega
 refine ⟨λc' hc'=>?_,?_,?_,λ_=>⟨r,_,rfl,λc hc' h1=>d1⟩⟩
 ·rw [e1,eM hc,rS _ c0]
  rcases Av.mp hc' with h'|h'
  ·have:=h.tr c' (AW _ h')
   rw [e2] at this;exact this.up (by omega)
  ·rw [Al.mp h']
   rw [e2] at t;exact t
 ·have:=h.sz
  rw [cY,pD] at this;rw [cY,iF];show szs r+(1+szs u+0)=j+1;omega
 ·have:=h.ln
  rw [e2,Aq,List.length_reverse] at this;rw [e1,eM hc,Aq];show ((r.length+1:Nat):Int)=av (cs.drop (k+1))-c+1;omega
theorem jM {n:Nat}:∀ {l:List Pt},(∀ c∈l,Tr H n c.1 c.2.1 c.2.2)->l.length<=szs l
 |[],_=>Bi _
 |q::r,h=>by
  rw [iF,AI];have:=(h q (Az ..)).size;have:=jM (l:=r) λc hc=>h c (Au _ hc);omega
def AtP (H:Hp):V->List Nat->V->Prop
 |v,[],u=>v=u
 |v,k::r,u=>∃ (p m q:Addr) (x:Str) (vs:List V) (c:V),v=.ref p/\H p=some (.tup [.str "recipe",.str x,.ref m,.ref q])/\H q=some (.tup vs)/\vs[k]?=some c/\AtP H c r u
theorem AtP.keep (t:Tk H H'):∀ {v:V} {ks:List Nat} {u:V},AtP H v ks u->AtP H' v ks u
 |_,[],_,h=>h
 |_,_::_,_,⟨p,m,q,x,vs,c,e,hp,hq,hc,h⟩=>⟨p,m,q,x,vs,c,e,t _ _ hp,t _ _ hq,hc,AtP.keep t h⟩
abbrev pth (ks:List Nat):List V:=ks.map λ(k:Nat)=>V.int (k:Int)
def Ent (H:Hp)(root:V)(N:Nat)(e:Addr)(s:Nat):Prop:=∃ (pa:Addr) (ks:List Nat) (v:V) (n:Nat) (d:Int),H e=some (.tup [.ref pa,v])/\H pa=some (.tup (pth ks))/\AtP H root ks v/\Tr H n v s d/\ks.length+n<=N
end TR
namespace K45
open PySem PySem.Spec PyProof.Rows L2 GM TM TR
def cK (n:Nat):Sp:=λvs H Q _=>∃ v s d,vs=[v]/\Tr H n v s d/\∀ H',Same H H'->Q (.int d) H'
def vA (n:Nat):Sp:=λvs H Q _=>∃ (p m q:Addr) (x:Str) (cs:List Pt),vs=[.ref p]/\H p=some (.tup [.str "recipe",.str x,.ref m,.ref q])/\H q=some (.tup (cs.map (·.1)))/\cs.length<64/\(∀ c∈cs,Tr H n c.1 c.2.1 c.2.2) /\
 ∀ l H',Same H H'->H l=none->H' l=some (.lst ((cs.map (·.2.2)).map V.int))->Q (.ref l) H'
section
variable {P:AF}{w:World}{K:Ab}{mg:Str->Option Value}{base:Heap}
def aD0 {k:Nat}{f:Addr}{fd:AM}:FnOk P w K mg base CX0 k f fd ["tree"] (cK 0):=⟨λvs H Q E ⟨_,_,_,_,h,_⟩=>h.elim,λA outer s H args us vs Q E _ _ _ _ ⟨_,_,_,_,h,_⟩=>h.elim⟩
def aF0:(["part"]:List Str).Nodup:=by decide +kernel
def aC1:FnScope ["tree"] ["tree"] (aJ sNeeds):=fnScOk (by decide +kernel)
def aAm {k n:Nat}{f:Addr}{fd:AM}(F:Fun K "needs_of_children" "needs_of_children" sNeeds f fd)(cN:Cal P w K mg base CX0 k "need_of" ["tree"] (cK n)):FnOk P w K mg base CX0 (k+1) f fd ["tree"] (vA n):=by
 refine F.ok aC1 (λvs H Q E h=>?_) (λcdv A outer s H vs Q E hr h=>?_)
 ·obtain ⟨_,_,_,_,_,rfl,_⟩:=h
  rfl
 ·obtain ⟨p,m,q,x,cs,rfl,hp,hq,l,hc,kk⟩:=h
  refine ⟨_,(aH (aU (lV (N':=["part"]) (cl:=[]) (λ_=>[none]) rfl rfl (by decide +kernel) (by decide +kernel) (fF (by decide +kernel)) (λ_ _=>gE)
      (gY (pit 0 3)) (λ_ _ _ _ _=>aR (i:=0) aF0 rfl (Or.inl rfl)) (λ_ _ _ _ _=>fA)
      (λ_ _ _ _ _=>aL cN hr rfl aS (aA (pv 0) aC))))),?_⟩
  refine ⟨p,_,_,rfl,SqT.of hp,rfl,q,rfl,⟨_,SqT.of hq⟩,λD hD=>?_⟩;refine mJ (Ys.tup (SqT.of hq)) (λi _ y _=>∀ c:Pt,cs[i]?=some c->y=.int c.2.2) (λ_ _ _ _ _ h _=>h) hD (by rw [Ac];omega) (λi v H' R hv sm hR=>?_) (λys H' sm hD' yl hy=>?_)
  ·rw [Aj] at hv
   cases e:cs[i]? with
   |none=>rw [e] at hv;cases hv
   |some c=>
    rw [e] at hv;cases hv;have ht:=hc c (AJ e);exact ⟨(Keep.refl _).set rfl,_,rfl,_,_,_,rfl,ht.keep sm.tk,λH2 s2=>hR _ _ s2 λc' e'=>by rw [e] at e';cases e';rfl⟩
  ·rw [Ac] at yl
   have ey:ys=(cs.map (·.2.2)).map V.int:=by
    refine list_eq (by rw [Ac,Ac];exact yl) λi a b ha hb=>?_;rw [Bw,Aj] at ha;cases e:cs[i]? with
    |none=>rw [e] at ha;cases ha
    |some c=>
     rw [e] at ha;cases ha;exact hy i c.1 b (by rw [Aj,e];rfl) hb c e
   subst ey;exact kk D H' sm hD hD'
def lQ:FnScope ["tree","needs","second"] ["tree"] (aJ sNeedOf):=fnScOk (by decide +kernel)
def wH {k n:Nat}{f:Addr}{fd:AM}(F:Fun K "need_of" "need_of" sNeedOf f fd)(T:Txt mg)(cS:Cal P w K mg base CX0 k "needs_of_children" ["tree"] (vA n)):FnOk P w K mg base CX0 (k+1) f fd ["tree"] (cK (n+1)):=by
 refine F.ok lQ (λvs H Q E h=>?_) (λcdv A outer s H vs Q E hr h=>?_)
 ·obtain ⟨_,_,_,rfl,_⟩:=h
  rfl
 ·obtain ⟨v,s,d,rfl,h,kk⟩:=h
  refine ⟨_,(aD (bK (aM cV (pit 0 0) bD (aV _))
    (aH (aU aG))
    aY)
   (aD (aK (i:=1) lQ.nd rfl (Or.inl rfl) (zR rfl T.sorted' (aL cS hr rfl aS (aA (pv 0) aC))))
   (aD (aK (i:=2) lQ.nd rfl (Or.inl rfl) (rL (aM qB (aQ bA rfl T.len BA (aA (pv 1) aC)) aG (aV _)) (bE aW (pv 1) aG (λ_ _=>rfl)) aG))
   (aH (aU (aQ (oS rfl) rfl T.max' boot_max (aA (bE aW (pv 1) aG (λ_ _=>rfl)) (aA (aN bF (pv 2) aG) aC)))))))),?_⟩
  refine cut4 ?_
  intros
  rcases h with ⟨p,m,x,rfl,hp,am,_,rfl⟩|⟨p,m,q,x,cs,rfl,hp,hq,l1,l2,hc,hs,hd,am⟩
  ·exact ⟨p,_,_,rfl,SqT.of hp,rfl,rfl,_,rfl,iteT (kk _ (Same.refl _))⟩
  ·refine ⟨p,_,_,rfl,SqT.of hp,rfl,rfl,_,rfl,iteF ?_⟩
   refine ⟨_,rfl,p,m,q,x,cs,rfl,hp,hq,l2,hc,λl H1 s1 hl hl1=>?_⟩;refine ⟨l,_,rfl,SqL.of hl1,by rw [Ac];exact l2,λr ns pm pw hr1=>?_⟩;have nl:ns.length=cs.length:=by rw [pm.length_eq,Ac]
   have nn:∀ y∈ns,0<=y:=λy hy=>by
    obtain ⟨c,hc',rfl⟩:=AY.mp (pm.mem_iff.mp hy);exact (hc c hc').need
   have sR:Same H (upd H1 r (.lst (ns.map V.int))):=s1.trans (Same.upd hr1)
   match ns,nl,pm,pw,nn with
   |[],nl,_,_,_=>rw [<- nl] at l1;exact absurd l1 (by decide)
   |[a],nl,pm,pw,nn=>
    refine ⟨_,rfl,r,_,rfl,.inl (SqL.of aB),_,_,rfl,rfl,_,rfl,iteF ?_⟩;refine ⟨_,rfl,r,_,0,.int a,rfl,rfl,SqL.of aB,aZ (j:=0) rfl,_,rfl,_,_,rfl,rfl,_,_,rfl,?_⟩;have a0:=nn a (Az ..);have e:=hd.is (Top2.one pm a0);have e':(if (0:Int)+1 > a then (0:Int)+1 else a)=d:=by rw [e];split<;>omega
    rw [e'];exact kk _ sR
   |a::b::t,nl,pm,pw,nn=>
    refine ⟨_,rfl,r,_,rfl,.inl (SqL.of aB),_,_,rfl,rfl,_,rfl,?_⟩;have hg:decide (((((a::b::t).map V.int).length:Nat):Int) > 1)=true:=decide_eq_true (by simp;omega);rw [hg];refine iteT ⟨_,rfl,r,_,1,.int b,rfl,rfl,SqL.of aB,aZ (j:=1) rfl,?_⟩;refine ⟨_,rfl,r,_,0,.int a,rfl,rfl,SqL.of aB,aZ (j:=0) rfl,_,rfl,_,_,rfl,rfl,_,_,rfl,?_⟩;have b0:=nn b (by simp);have e:=hd.is (Top2.two pm pw b0);have e':(if b+1 > a then b+1 else a)=d:=by rw [e];split<;>omega
    rw [e'];exact kk _ sR
def aAv {k:Nat}{f:Addr}{fd:AM}:FnOk P w K mg base CX0 k f fd ["_law_part"] (cK 0):=⟨λvs H Q E ⟨_,_,_,_,h,_⟩=>h.elim,λA outer s H args us vs Q E _ _ _ _ ⟨_,_,_,_,h,_⟩=>h.elim⟩
def gW:FnScope ["_law_part","_law_first","_law_second","_law_inner","_law_need_here"] ["_law_part"] (aJ sNeed):=fnScOk (by decide +kernel)
def aDt {k n:Nat}{f:Addr}{fd:AM}(F:Fun K "_law_need" "_law_need" sNeed f fd)(T:Txt mg)(cN:Cal P w K mg base CX0 k "_law_need" ["_law_part"] (cK n)):FnOk P w K mg base CX0 (k+1) f fd ["_law_part"] (cK (n+1)):=by
 refine F.ok gW (λvs H Q E h=>?_) (λcdv A outer s H vs Q E hr h=>?_)
 ·obtain ⟨_,_,_,rfl,_⟩:=h
  rfl
 ·obtain ⟨v,s,d,rfl,h,kk⟩:=h
  refine ⟨_,(aD (bK (aM cV (pit 0 0) bD (aV _))
    (aH (aU aG))
    aY)
   (aD (aK (i:=1) gW.nd rfl (Or.inl rfl) aG)
   (aD (aK (i:=2) gW.nd rfl (Or.inl rfl) aG)
   (aD (bP AQ rfl (gY (pit 0 3)) (aR (i:=3) gW.nd rfl (Or.inl rfl))
    (aD (aK (i:=4) gW.nd rfl (Or.inl rfl) (aL cN hr rfl aS (aA (pv 3) aC)))
   (aH (bK (aM qB (pv 4) (pv 1) (aV _))
    (aD (aK (i:=2) gW.nd rfl (Or.inl rfl) (pv 1))
   (aH (aK (i:=1) gW.nd rfl (Or.inl rfl) (pv 4))))
    (aH (bK (aM qB (pv 4) (pv 2) (aV _))
    (aH (aK (i:=2) gW.nd rfl (Or.inl rfl) (pv 4)))
    aY))))))
   (aD (bK (aM cV (pv 1) aG (aV _))
    (aH (aU aG))
    aY)
   (aD (bK (aM cV (pv 2) aG (aV _))
    (aH (aU (pv 1)))
    aY)
   (aH (aU (aQ (oS rfl) rfl T.max' boot_max (aA (pv 1) (aA (aN bF (pv 2) aG) aC))))))))))),?_⟩
  refine cut7 ?_
  intros
  rcases h with ⟨p,m,x,rfl,hp,am,_,rfl⟩|⟨p,m,q,x,cs,rfl,hp,hq,l1,l2,hc,hs,hd,am⟩
  ·exact ⟨p,_,_,rfl,SqT.of hp,rfl,rfl,_,rfl,iteT (kk _ (Same.refl _))⟩
  ·refine ⟨p,_,_,rfl,SqT.of hp,rfl,rfl,_,rfl,iteF ?_⟩
   refine ⟨p,_,_,rfl,SqT.of hp,rfl,q,rfl,⟨_,SqT.of hq⟩,?_⟩;refine gN (λi σ H'=>∃ (f0 s0:Int) (v3 v4:Option V),σ=[some (.ref p),some (.int f0),some (.int s0),v3,v4]/\Same H H'/\Top2 ((cs.map (·.2.2)).take i) f0 s0) ⟨0,0,none,none,rfl,Same.refl _,Top2.nil⟩ (λi σ H' _ ⟨_,_,_,_,_,sm,_⟩=>SqT.of (sm _ _ hq)) ?_ ?_
   ·rintro i v σ H1 hv ⟨f0,s0,v3,v4,rfl,sm,tp⟩
    rw [Aj] at hv;cases e:cs[i]? with
    |none=>rw [e] at hv;cases hv
    |some c=>
     rw [e] at hv;cases hv;have ht:=hc c (AJ e);refine ⟨_,rfl,_,_,_,rfl,ht.keep sm.tk,λH2 s2=>?_⟩;have et:(cs.map (·.2.2)).take (i+1)=(cs.map (·.2.2)).take i++[c.2.2]:=by
      rw [Dd,Aj,e];rfl
     refine ⟨_,rfl,_,rfl,_,_,rfl,rfl,_,rfl,ite2 (λh1=>?_) (λh1=>?_)⟩
     ·have h1':c.2.2 > f0:=of_decide_eq_true h1
      exact ⟨_,rfl,_,rfl,_,_,_,_,rfl,sm.trans s2,by rw [et];exact tp.up h1'⟩
     ·have h1':¬ c.2.2 > f0:=λz=>h1 (decide_eq_true z)
      refine ⟨_,rfl,_,rfl,_,_,rfl,rfl,_,rfl,ite2 (λh2=>?_) (λh2=>?_)⟩
      ·have h2':c.2.2 > s0:=of_decide_eq_true h2
       exact ⟨_,rfl,_,_,_,_,rfl,sm.trans s2,by rw [et];exact tp.mid (by omega) (by omega)⟩
      ·have h2':¬ c.2.2 > s0:=λz=>h2 (decide_eq_true z)
       exact ⟨_,_,_,_,rfl,sm.trans s2,by rw [et];exact tp.low (by omega)⟩
   ·rintro σ H1 ⟨f0,s0,v3,v4,rfl,sm,tp⟩
    rw [Ac,Dw (by rw [Ac];exact Ao _)] at tp;have e:=hd.is tp;have b0:=tp.base;have sf:s0<=f0:=tp.choose_spec.2.1;refine ⟨_,rfl,rfl,_,rfl,ite2 (λh1=>?_) (λh1=>?_)⟩
    ·have h1':f0=0:=by simpa [eqV] using h1
     have:d=1:=by omega
     rw [<- this];exact kk _ sm
    ·have h1':f0≠0:=by simpa [eqV] using h1
     refine ⟨_,rfl,rfl,_,rfl,ite2 (λh2=>?_) (λh2=>?_)⟩
     ·have h2':s0=0:=by simpa [eqV] using h2
      have:d=f0:=by omega
      refine ⟨_,rfl,?_⟩;rw [<- this];exact kk _ sm
     ·refine ⟨_,rfl,_,rfl,_,_,rfl,rfl,_,_,rfl,?_⟩
      have e':(if s0+1 > f0 then s0+1 else f0)=d:=by rw [e];split<;>omega
      rw [e'];exact kk _ sm
end
structure Cts (cs:List Int):Prop where
 ok:Okc cs
 hd:∃ c,cs[0]?=some c/\1<=c
 ln:cs.length<=100
 nz:nzc cs<=61
def pQ:Sp:=λvs H Q _=>∃ a:Addr,vs=[.ref a,.int 60]/\Lf H a/\∀ (cs:List Int) p H',Cts cs->SmB a H H'->H p=none->p≠a->H' p=some (.lst (cs.map V.int))->Q (.ref p) H'
section
variable {P:AF}{w:World}{K:Ab}{mg:Str->Option Value}{base:Heap}
def fM:FnScope ["_law_left","_law_most","_law_counts_here","_law_lacking","_law_total_here","_law_many"] ["_law_left","_law_most"] (aJ sFreeC):=fnScOk (by decide +kernel)
def aAr {f:Addr}{fd:AM}(F:Fun K "_law_free_counts" "_law_free_counts" sFreeC f fd)(T:Txt mg)(cD:Cal P w K mg base CX0 1 "_law_digit" ["_law_left","_law_many"] fJ):FnOk P w K mg base CX0 2 f fd ["_law_left","_law_most"] pQ:=by
 refine F.ok fM (λvs H Q E h=>?_) (λcdv A outer s H vs Q E hr h=>?_)
 ·obtain ⟨_,rfl,_⟩:=h
  rfl
 ·obtain ⟨a,rfl,lf,k⟩:=h
  refine ⟨_,(aD (aK (i:=2) fM.nd rfl (Or.inl rfl) (bC (aA (aN bF aG (aL cD hr rfl aS (aA (pv 0) (aA aG aC)))) aC)))
   (aD (aK (i:=3) fM.nd rfl (Or.inl rfl) (bC (aA (bE aW (pv 2) aG (λ_ _=>rfl)) aC)))
   (aD (aK (i:=4) fM.nd rfl (Or.inl rfl) (aN bF aG (bE aW (pv 2) aG (λ_ _=>rfl))))
   (aD (iK AQ (aM (wA hr.units) (pv 3) (bC aC) (aV _))
    (aH (bK (aM cV (bE aW (pv 3) (fY dO aG) (λ_ _=>rfl)) aG (aV _))
    (aH (bB (rP Ak CG CF nO (pv 3))))
    (aD (kL (aN vZ (bE aW (pv 3) (fY dO aG) (λ_ _=>rfl)) aG) (vT (pv 3) (fY dO aG) set_list))
   (aD (aK (i:=5) fM.nd rfl (Or.inl rfl) (aL cD hr rfl aS (aA (pv 0) (aA aG aC))))
   (aD (bK (PW.pt (nG (aM qB (aQ bA rfl T.len BA (aA (pv 3) aC)) aG (aV _)) (kK (aM qB (aN bF (pv 4) (pv 5)) (pv 1) (aV _)))))
    (aH (aK (i:=5) fM.nd rfl (Or.inl rfl) aG))
    aY)
   (aD (bK (aM qB (pv 5) aG (aV _))
    (aH (bB (cO Ak AB AA aX (pv 3) (aA (pv 5) aC))))
    aY)
   (aD (bB (cO Ak AB AA aX (pv 2) (aA (pv 5) aC)))
   (aH (aK (i:=4) fM.nd rfl (Or.inl rfl) (aN bF (pv 4) (pv 5))))))))))))
   (aH (aU (pv 2))))))),?_⟩
  refine cut5 ?_
  intros
  refine ⟨_,rfl,a,9,rfl,lf,by decide,b9,λd H1 d0 dl s1 lf1=>?_⟩;refine ⟨_,_,rfl,rfl,zLn1,λC hC=>?_⟩;have Ca:C≠a:=lf1.there hC;refine ⟨_,rfl,C,_,0,.int (1+d),rfl,rfl,SqL.of aB,aZ (j:=0) rfl,zLn1,λL hL=>?_⟩;have LC:L≠C:=λz=>by rw [z,aB] at hL;cases hL
  have hL1:H1 L=none:=by rw [aE LC] at hL;exact hL
  have La:L≠a:=lf1.there hL1;refine ⟨_,rfl,C,_,0,.int (1+d),rfl,rfl,SqL.of (by rw [aE LC.symm];exact aB),aZ (j:=0) rfl,_,_,rfl,rfl,?_⟩;have nC:H C=none:=s1.none hC Ca;have nL:H L=none:=s1.none hL1 La;refine ⟨λm σ H'=>∃ (cs ls:List Int) (t:Int) (v5:Option V),σ=[some (.ref a),some (.int 60),some (.ref C),some (.ref L),some (.int t),v5]/\Lf H' a/\SmB a H H'/\H' C=some (.lst (cs.map V.int))/\H' L=some (.lst (ls.map V.int)) /\
   Gd cs 1 ls.sum/\(∃ c,cs[0]?=some c/\1<=c)/\(∀ x∈ls,0<=x)/\(cs.length:Int)+ls.sum=t/\t<=60/\ls.length<=cs.length/\m=2*(61-cs.length)+ls.length,
   ⟨_,[1+d],[1+d],1+(1+d),none,rfl,(lf1.own Ca).own La,(s1.own nC).own nL,by rw [aE LC.symm];exact aB,aB,by have:=Gd.nil.root (c:=1+d) (by omega) (by omega);simpa using this,⟨_,rfl,by omega⟩,λx hx=>by rw [Al.mp hx];omega,by simp,by omega,Ao _,rfl⟩,?_⟩
  rintro m σ H' ⟨cs,ls,t,v5,rfl,lf',sb,hC',hL',gd,⟨c0,hc0,c1⟩,nn,tt,t60,lc,rfl⟩
  refine ⟨_,rfl,zLn0,λz hz=>?_⟩;have zC:C≠z:=λe=>by rw [<- e,hC'] at hz;cases hz
  have zL:L≠z:=λe=>by rw [<- e,hL'] at hz;cases hz
  have za:z≠a:=lf'.there hz;have nz:H z=none:=sb.none hz za;have hC2:upd H' z (.lst []) C=some (.lst (cs.map V.int)):=by rw [aE zC];exact hC'
  have hL2:upd H' z (.lst []) L=some (.lst (ls.map V.int)):=by rw [aE zL];exact hL'
  have lf2:Lf (upd H' z (.lst [])) a:=lf'.own za;have sb2:SmB a H (upd H' z (.lst [])):=sb.own nz;have hz2:upd H' z (.lst []) z=some (.lst []):=aB;generalize upd H' z (.lst [])=H2 at hz2 hC2 hL2 lf2 sb2 ⊢;refine ⟨L,z,_,rfl,rfl,SqL.of hL2,SqL.of hz2,_,rfl,?_⟩
  rcases jJ ls with rfl|⟨i,x,rfl⟩
  ·exact iteF ⟨_,rfl,k cs C H2 ⟨gd.done,⟨c0,hc0,c1⟩,by simp at tt;omega,Bh (aBy cs) (by simp at tt;omega)⟩ sb2 nC Ca hC2⟩
  have ene:(!((i++[x]).map V.int).isEmpty)=true:=by simp
  have x0:=nn x (by simp);have i0:0<=i.sum:=rB λy hy=>nn y (by simp [hy]);have nni:∀ y∈i,0<=y:=λy hy=>nn y (by simp [hy]);rw [lD] at tt gd;rw [ene];refine iteT ⟨_,λσ' H' h=>h,?_⟩;refine ⟨_,rfl,_,rfl,L,_,-1,.int x,rfl,rfl,SqL.of hL2,mB i x,rfl,_,rfl,ite2 (λh0=>?_) (λh0=>?_)⟩
  ·have ex:x=0:=by simpa [eqV] using h0
   subst ex;refine ⟨_,rfl,.inl ⟨rfl,_,SqL.of hL2⟩,L,_,.int 0,rfl,rfl,hL2,by simp,?_⟩;have ed:((i++[(0:Int)]).map V.int).dropLast=i.map V.int:=by simp
   rw [ed];refine ⟨_,?_,cs,i,t,v5,rfl,lf2.own La,sb2.own nL,by rw [aE LC.symm];exact hC2,aB,by simpa using gd,⟨c0,hc0,c1⟩,nni,by omega,t60,by simp at lc;omega,rfl⟩;simp
  ·have ex:x≠0:=by simpa [eqV] using h0
   refine ⟨_,rfl,_,rfl,L,_,-1,.int x,rfl,rfl,SqL.of hL2,mB i x,_,_,rfl,rfl,_,rfl,_,rfl,L,_,-1,i.length,rfl,rfl,hL2,xF i x,?_⟩;rw [rX];have lf3:Lf (upd H2 L (.lst ((i++[x-1]).map V.int))) a:=lf2.own La;have sb3:SmB a H (upd H2 L (.lst ((i++[x-1]).map V.int))):=sb2.own nL;have hC3:upd H2 L (.lst ((i++[x-1]).map V.int)) C=some (.lst (cs.map V.int)):=by rw [aE LC.symm];exact hC2
   have hL3:upd H2 L (.lst ((i++[x-1]).map V.int)) L=some (.lst ((i++[x-1]).map V.int)):=aB;generalize upd H2 L (.lst ((i++[x-1]).map V.int))=H3 at lf3 sb3 hC3 hL3 ⊢;refine ⟨_,rfl,a,10,rfl,lf3,by decide,b9,λe H4 e0 el s4 lf4=>?_⟩;have hC4:=s4 _ _ Ca hC3;have hL4:=s4 _ _ La hL3;have sb4:SmB a H H4:=sb3.trans s4;dsimp only [dW];refine fU (λσ' H'=>∃ y:Int,σ'=[some (.ref a),some (.int 60),some (.ref C),some (.ref L),some (.int t),some (.int y)]/\H'=H4/\0<=y/\y<=9/\t+y<=60) ?_ (λN hN=>?_)
   ·rintro σ' H' ⟨y,rfl,rfl,y0,y9,ty⟩
    have cl:cs.length<=59:=by omega
    have il:i.length+1<=cs.length:=by simpa using lc
    have fin:∀ (ls':List Int) (H5:Hp),Lf H5 a->SmB a H H5->H5 C=some (.lst (cs.map V.int))->H5 L=some (.lst (ls'.map V.int))->ls'.sum=i.sum+x-1+y->(∀ u∈ls',0<=u)->ls'.length<=i.length+2 ->
      ∃ m',m'<2*(61-cs.length)+(i++[x]).length/\∃ (cs' ls'':List Int) (t':Int) (v5:Option V),[some (.ref a),some (.int 60),some (.ref C),some (.ref L),some (.int (t+y)),some (.int y)]=[some (.ref a),some (.int 60),some (.ref C),some (.ref L),some (.int t'),v5]/\Lf (upd H5 C (.lst (cs.map V.int++[.int y]))) a/\SmB a H (upd H5 C (.lst (cs.map V.int++[.int y])))/\upd H5 C (.lst (cs.map V.int++[.int y])) C=some (.lst (cs'.map V.int))/\upd H5 C (.lst (cs.map V.int++[.int y])) L=some (.lst (ls''.map V.int)) /\
       Gd cs' 1 ls''.sum/\(∃ c,cs'[0]?=some c/\1<=c)/\(∀ x∈ls'',0<=x)/\(cs'.length:Int)+ls''.sum=t'/\t'<=60/\ls''.length<=cs'.length/\m'=2*(61-cs'.length)+ls''.length:=by
     intro ls' H5 lf5 sb5 hC5 hL5 es nn5 l5;refine ⟨_,?_,cs++[y],ls',t+y,_,rfl,lf5.own Ca,sb5.own nC,by rw [Ax];exact aB,by rw [aE LC];exact hL5,?_,⟨c0,?_,c1⟩,nn5,?_,ty,?_,rfl⟩
     ·simp
      omega
     ·have:=gd.part (c:=y) (by omega) y0 (by omega)
      rw [es];have e1:i.sum+x-1+y=i.sum+x-1+y:=rfl;exact this
     ·rw [CS (Ah.mp hc0).1]
      exact hc0
     ·rw [es]
      simp;omega
     ·simp
      omega
    refine ⟨_,rfl,_,_,rfl,rfl,_,rfl,ite2 (λh1=>?_) (λh1=>?_)⟩
    ·have h1':y > 0:=of_decide_eq_true h1
     refine ⟨_,rfl,.inl ⟨rfl,_,SqL.of hL4⟩,_,rfl,L,_,_,rfl,rfl,hL4,aP (by simp;omega),?_⟩;have eL:(i++[x-1]).map V.int++[V.int y]=(i++[x-1]++[y]).map V.int:=by simp
     rw [eL];refine ⟨_,rfl,.inl ⟨rfl,_,SqL.of (by rw [aE LC.symm];exact hC4)⟩,_,rfl,C,_,_,rfl,rfl,(by rw [aE LC.symm];exact hC4),aP (by simp;omega),?_⟩;refine ⟨_,rfl,_,rfl,_,_,rfl,rfl,?_⟩;refine fin (i++[x-1]++[y]) _ (lf4.own La) (sb4.own nL) (by rw [aE LC.symm];exact hC4) aB (by simp;omega) (λu hu=>?_) (by simp);simp at hu
     rcases hu with hu|hu|hu
     ·exact nni u hu
     ·omega
     ·omega
    ·have h1':y=0:=by
      have:¬ y > 0:=λz=>h1 (decide_eq_true z);omega
     subst h1';refine ⟨_,rfl,.inl ⟨rfl,_,SqL.of hC4⟩,_,rfl,C,_,_,rfl,rfl,hC4,aP (by simp;omega),?_⟩;refine ⟨_,rfl,_,rfl,_,_,rfl,rfl,?_⟩;refine fin (i++[x-1]) _ lf4 sb4 hC4 hL4 (by simp;omega) (λu hu=>?_) (by simp);simp at hu
     rcases hu with hu|hu
     ·exact nni u hu
     ·omega
   ·refine ⟨_,rfl,L,_,rfl,.inl (SqL.of hL4),_,_,rfl,rfl,_,rfl,ite2 (λh1=>?_) (λh1=>?_)⟩
    ·exact iteT (hN _ _ ⟨0,rfl,rfl,by decide,by decide,by omega⟩)
    ·refine ⟨_,rfl,_,rfl,_,_,rfl,rfl,_,rfl,_,_,rfl,rfl,_,rfl,ite2 (λh2=>?_) (λh2=>?_)⟩
     ·exact hN _ _ ⟨0,rfl,rfl,by decide,by decide,by omega⟩
     ·have h2':¬ t+e > 60:=λz=>h2 (decide_eq_true z)
      exact hN _ _ ⟨e,rfl,rfl,e0,by omega,by omega⟩
end
def sm_own {H H1:Hp}{p:Addr}{o:HO}(h:Same H H1)(n:H p=none):Same H (upd H1 p o):=λb u e=>by
 have ne:b≠p:=λz=>by rw [z,n] at e;cases e
 rw [aE ne];exact h b u e
def bQ {H H1:Hp}{p:Addr}(h:Same H H1)(n:H1 p=none):H p=none:=by
 cases e:H p with
 |none=>rfl
 |some o=>rw [h _ _ e] at n;cases n
def at4 (a b c d:Int){l:Int}(h0:0<=l)(h1:l<4):∃ v,(v=a\/v=b\/v=c\/v=d)/\atI [V.int a,.int b,.int c,.int d] l=some (.int v):=by
 have:l=0\/l=1\/l=2\/l=3:=by omega
 rcases this with rfl|rfl|rfl|rfl
 ·exact ⟨a,by simp,rfl⟩
 ·exact ⟨b,by simp,rfl⟩
 ·exact ⟨c,by simp,rfl⟩
 ·exact ⟨d,by simp,rfl⟩
theorem sH (n:Nat):(AR n [V.int 0]).flatten=(AR n (0:Int)).map V.int:=by
 induction n with
 |zero=>rfl
 |succ n ih=>rw [BZ,Ey,ih,BZ];rfl
def lM (K:Ab):Sp:=λvs H Q _=>∃ (a:Addr) (ns:List Int),vs=[.ref a,.int 3,.int 63]/\SqL K H a (ns.map V.int)/\∀ (cs:List Int) p H',Cts cs->Same H H'->H p=none->H' p=some (.lst (cs.map V.int))->Q (.ref p) H'
section
variable {P:AF}{w:World}{K:Ab}{mg:Str->Option Value}{base:Heap}
def dG:FnScope ["_law_script","_law_start","_law_last","_law_lean","_law_counts_here","_law_lacking","_law_mine","_law_k","_law_number","_law_many"] ["_law_script","_law_start","_law_last"] (aJ sCounts):=fnScOk (by decide +kernel)
def wL {f:Addr}{fd:AM}(F:Fun K "_law_counts" "_law_counts" sCounts f fd)(T:Txt mg)(cC:Cal P w K mg base CX0 2 "_law_cell_at" ["_law_script","_law_k"] (gU K))(cM:Cal P w K mg base CX0 2 "_law_mixed" ["_law_cell","_law_k"] gG)
  (cF:Cal P w K mg base CX0 2 "_law_free_counts" ["_law_left","_law_most"] pQ):FnOk P w K mg base CX0 3 f fd ["_law_script","_law_start","_law_last"] (lM K):=by
 refine F.ok dG (λvs H Q E h=>?_) (λcdv A outer s H vs Q E hr h=>?_)
 ·obtain ⟨_,_,rfl,_⟩:=h
  rfl
 ·obtain ⟨a,ns,rfl,ha,k⟩:=h
  refine ⟨_,(aD (bK (aM cV (aN bM (aL cC hr rfl aS (aA (pv 0) (aA aG aC))) aG) aG (aV _))
    (aH (aU (aL cF hr rfl aS (aA (bC (aA (aQ gD rfl T.abs' oU (aA (aL cC hr rfl aS (aA (pv 0) (aA (pv 1) aC))) aC)) aC)) (aA aG aC)))))
    aY)
   (aD (aK (i:=3) dG.nd rfl (Or.inl rfl) (aN bM (aL cC hr rfl aS (aA (pv 0) (aA aG aC))) aG))
   (aD (aK (i:=4) dG.nd rfl (Or.inl rfl) (bC aC))
   (aD (aK (i:=5) dG.nd rfl (Or.inl rfl) (bC aC))
   (aD (aK (i:=6) dG.nd rfl (Or.inl rfl) aG)
   (aD (bP AQ rfl (iZ rfl T.range (aA (pv 1) (aA (aQ (yJ rfl) rfl T.min' boot_min (aA (aQ bA rfl T.len BA (aA (pv 0) aC)) (aA (pv 2) aC))) aC))) (aR (i:=7) dG.nd rfl (Or.inl rfl))
    (aD (iK AQ (PW.pt (gX (aM (wA hr.units) (pv 5) (bC aC) (aV _)) (eS (aM cV (bE aW (pv 5) (fY dO aG) (λ_ _=>rfl)) aG (aV _)))))
    (aH (bB (rP Ak CG CF nO (pv 5)))))
   (aD (bK (aM (aBw hr.units) (pv 5) (bC aC) (aV _))
    (aH (aK (i:=6) dG.nd rfl (Or.inl rfl) (aN bF (pv 6) aG)))
    (aH (kL (aN vZ (bE aW (pv 5) (fY dO aG) (λ_ _=>rfl)) aG) (vT (pv 5) (fY dO aG) set_list))))
   (aD (aK (i:=8) dG.nd rfl (Or.inl rfl) (aL cM hr rfl aS (aA (bE aW (pv 0) (pv 7) (λ_ _=>rfl)) (aA (pv 7) aC))))
   (aD (aK (i:=9) dG.nd rfl (Or.inl rfl) aG)
   (aD (bK (PW.pt (gX (aM qA (aQ bA rfl T.len BA (aA (pv 5) aC)) aG (aV _)) (eS (aM qA (aN bM (pv 8) aG) (bE aW (bC (aA aG (aA aG (aA aG (aA aG aC))))) (pv 3) (λ_ _=>rfl)) (aV _)))))
    (aD (aK (i:=9) dG.nd rfl (Or.inl rfl) (aN bF aG (aN bM (aN bN (pv 8) aG) (bE aW (bC (aA aG (aA aG (aA aG (aA aG aC))))) (pv 3) (λ_ _=>rfl)))))
   (aH (bB (cO Ak AB AA aX (pv 5) (aA (pv 9) aC)))))
    aY)
   (aH (bB (cO Ak AB AA aX (pv 4) (aA (pv 9) aC))))))))))
   (aD (bK (aM cV (pv 6) aG (aV _))
    (aH (aU (bC (aA aG (aA aG aC)))))
    aY)
   (aH (aU (aN aBx (aN aBx (bC (aA (pv 6) aC)) (pv 4)) (aN aFs (bC (aA aG aC)) (aQ (aBh rfl) rfl T.sum' boot_sum (aA (pv 5) aC))))))))))))),?_⟩
  refine cut8 ?_
  intros
  refine ⟨_,rfl,a,ns,0,rfl,ha,by decide,λc0=>⟨_,_,rfl,rfl,(by show (0:Int)<2;decide),rfl,_,rfl,ite2 (λ_=>?_) (λ_=>?_)⟩⟩
  ·refine ⟨_,rfl,_,rfl,a,ns,3,rfl,ha,by decide,λc3=>⟨c3,rfl,zLn1,λz hz=>⟨z,rfl,⟨_,aB,by split<;>omega⟩,λcs p H' ct sb hp pz hp'=>?_⟩⟩⟩
   refine k cs p H' ct (λb o e=>sb b o (aI e hz) (by rw [aE (aI e hz)];exact e)) ?_ hp';rw [aE pz] at hp;exact hp
  refine ⟨_,rfl,a,ns,2,rfl,ha,by decide,λc2=>⟨_,_,rfl,rfl,(by show (0:Int)<4;decide),?_⟩⟩;have le:=bV c2 (m:=4) (by decide);obtain ⟨lean,el⟩:∃ l,l=c2%4:=⟨_,rfl⟩;rw [<- el] at le;refine ⟨zLn0,λC hC=>⟨zLn0,λL hL=>?_⟩⟩;have LC:L≠C:=λz=>by rw [z,aB] at hL;cases hL
  have nL:H L=none:=by rw [aE LC] at hL;exact hL
  have sm0:Same H (upd (upd H C (.lst [])) L (.lst [])):=(Same.upd hC).trans (Same.upd hL);refine ⟨_,rfl,_,rfl,a,_,rfl,.inl (sm0.seq ha),_,rfl,_,_,rfl,3,_,rfl,⟨by decide,by decide,by split<;>omega,by split<;>omega⟩,?_⟩;have hn:((if (63:Int)<((ns.map V.int).length:Nat) then (63:Int) else ((ns.map V.int).length:Nat))-3).toNat<=60/\∀ i,i<((if (63:Int)<((ns.map V.int).length:Nat) then (63:Int) else ((ns.map V.int).length:Nat))-3).toNat->3+i<ns.length:=by
   rw [Ac];split
   ·exact ⟨by omega,λi hi=>by omega⟩
   ·exact ⟨by omega,λi hi=>by omega⟩
  generalize ((if (63:Int)<((ns.map V.int).length:Nat) then (63:Int) else ((ns.map V.int).length:Nat))-3).toNat=n at hn ⊢;refine eB (λi σ H'=>∃ (cs ls:List Int) (mi:Int) (v7 v8 v9:Option V),σ=[some (.ref a),some (.int 3),some (.int 63),some (.int lean),some (.ref C),some (.ref L),some (.int mi),v7,v8,v9]/\Same H H'/\H' C=some (.lst (cs.map V.int))/\H' L=some (.lst (ls.map V.int)) /\
   Gd cs mi ls.sum/\(∀ x∈ls,0<=x/\x<=4)/\ls.length<=8/\cs.length=i/\0<=mi/\mi<=i) ⟨[],[],0,none,none,none,by rw [el];rfl,sm0,by rw [aE LC.symm];exact aB,aB,Gd.nil,(λ_ h=>nomatch h),by decide,rfl,by decide,by decide⟩ ?_ ?_
  ·rintro i σ H1 hi ⟨cs,ls,mi,v7,v8,v9,rfl,sm,hC1,hL1,gd,nn,l8,cl,m0,mi1⟩
   dsimp only [dW];refine fU (λσ' H'=>∃ ls':List Int,σ'=[some (.ref a),some (.int 3),some (.int 63),some (.int lean),some (.ref C),some (.ref L),some (.int mi),some (.int (3+i)),v8,v9]/\Same H H'/\H' C=some (.lst (cs.map V.int))/\H' L=some (.lst (ls'.map V.int))/\ls'.sum=ls.sum/\(∀ x∈ls',0<=x/\x<=4)/\ls'.length<=8/\(ls'=[]\/∃ j x,ls'=j++[x]/\1<=x)) ?_ (λN hN=>?_)
   ·rintro σ' H2 ⟨ls',rfl,sm2,hC2,hL2,es,nn2,l82,alt⟩
    refine fU (λσ' H'=>∃ (ls2:List Int) (m2:Int),σ'=[some (.ref a),some (.int 3),some (.int 63),some (.int lean),some (.ref C),some (.ref L),some (.int m2),some (.int (3+i)),v8,v9]/\Same H H'/\H' C=some (.lst (cs.map V.int))/\H' L=some (.lst (ls2.map V.int))/\(∀ c:Int,0<=c->c<64->Gd (cs++[c]) m2 (ls2.sum+c))/\(∀ x∈ls2,0<=x/\x<=4)/\ls2.length<=8/\0<=m2/\m2<=i+1) ?_ (λN hN=>?_)
    ·rintro σ' H3 ⟨ls2,m2,rfl,sm3,hC3,hL3,gd3,nn3,l83,m20,m21⟩
     obtain ⟨ck,hck⟩:∃ c,ns[3+i]?=some c:=⟨_,Af (hn.2 i hi)⟩;refine ⟨_,rfl,_,rfl,a,_,_,.int ck,rfl,rfl,sm3.seq ha,(by rw [show (3:Int)+(i:Nat)=((3+i:Nat):Int) by omega];exact aZ (by rw [Aj,hck];rfl)),_,rfl,ck,_,rfl,by omega,by omega,λu u0 ul=>?_⟩
     have bu:Bt 64 u:=cG 64 u0 ul;dsimp only [dW];refine aCx (λσ' H'=>∃ (ls4:List Int) (y:Int),σ'=[some (.ref a),some (.int 3),some (.int 63),some (.int lean),some (.ref C),some (.ref L),some (.int m2),some (.int (3+i)),some (.int u),some (.int y)]/\Same H H'/\H' C=some (.lst (cs.map V.int))/\H' L=some (.lst (ls4.map V.int))/\ls4.sum=ls2.sum+y/\(∀ x∈ls4,0<=x/\x<=4)/\ls4.length<=8/\0<=y/\y<=4) ?_ (λN hN=>?_)
     ·rintro σ' H4 ⟨ls4,y,rfl,sm4,hC4,hL4,es4,nn4,l84,y0,y4⟩
      refine ⟨_,rfl,.inl ⟨rfl,_,SqL.of hC4⟩,_,rfl,C,_,_,rfl,rfl,hC4,aP (by simp;omega),?_⟩;have eC:cs.map V.int++[V.int y]=(cs++[y]).map V.int:=by simp
      rw [eC];refine ⟨cs++[y],ls4,m2,_,_,_,rfl,sm_own sm4 hC,aB,by rw [aE LC];exact hL4,?_,nn4,l84,by simp [cl],m20,by omega⟩;rw [es4];exact gd3 y y0 (by omega)
     ·have no:∀ H5,Same H H5->H5 C=some (.lst (cs.map V.int))->H5 L=some (.lst (ls2.map V.int))->N [some (.ref a),some (.int 3),some (.int 63),some (.int lean),some (.ref C),some (.ref L),some (.int m2),some (.int (3+i)),some (.int u),some (.int 0)] H5:=
       λH5 a1 a2 a3=>hN _ _ ⟨ls2,0,rfl,a1,a2,a3,by omega,nn3,l83,by decide,by decide⟩
      obtain ⟨g1,_,hg1⟩:=at4 5 6 4 7 le.1 le.2;obtain ⟨g2,hg2',hg2⟩:=at4 2 4 3 2 le.1 le.2;refine ⟨_,rfl,L,_,rfl,.inl (SqL.of hL3),_,_,rfl,rfl,_,rfl,ite2 (λh1=>?_) (λh1=>iteF (no _ sm3 hC3 hL3))⟩;have h1':((ls2.map V.int).length:Int)<8:=of_decide_eq_true h1;rw [Ac] at h1';refine ⟨_,rfl,_,_,rfl,rfl,(by show (0:Int)<8;decide),zLn4,λz hz=>⟨_,rfl,z,_,lean,.int g1,rfl,rfl,SqL.of aB,hg1,_,_,rfl,rfl,_,rfl,?_⟩⟩;have nz:H z=none:=bQ sm3 hz;have zC:C≠z:=λe=>by rw [<- e,hC3] at hz;cases hz
      have zL:L≠z:=λe=>by rw [<- e,hL3] at hz;cases hz
      have sm4:=sm_own (o:=HO.lst [.int 5,.int 6,.int 4,.int 7]) sm3 nz;have hC4:upd H3 z (.lst [.int 5,.int 6,.int 4,.int 7]) C=some (.lst (cs.map V.int)):=by rw [aE zC];exact hC3
      have hL4:upd H3 z (.lst [.int 5,.int 6,.int 4,.int 7]) L=some (.lst (ls2.map V.int)):=by rw [aE zL];exact hL3
      refine ite2 (λh2=>?_) (λh2=>no _ sm4 hC4 hL4);generalize upd H3 z (.lst [.int 5,.int 6,.int 4,.int 7])=H4 at sm4 hC4 hL4 ⊢;refine ⟨_,rfl,_,_,rfl,rfl,⟨by decide,b9⟩,zLn4,λz2 hz2=>⟨_,rfl,z2,_,lean,.int g2,rfl,rfl,SqL.of aB,hg2,_,_,rfl,rfl,(by show 0<g2;omega),_,_,rfl,rfl,?_⟩⟩;have nz2:H z2=none:=bQ sm4 hz2;have zC2:C≠z2:=λe=>by rw [<- e,hC4] at hz2;cases hz2
      have zL2:L≠z2:=λe=>by rw [<- e,hL4] at hz2;cases hz2
      have eg:=bV (u/8) (show 0<g2 by omega);refine ⟨_,rfl,.inl ⟨rfl,_,SqL.of (by rw [aE zL2];exact hL4)⟩,_,rfl,L,_,_,rfl,rfl,(by rw [aE zL2];exact hL4),aP (by simp;omega),?_⟩;have eL:ls2.map V.int++[V.int (1+u/8%g2)]=(ls2++[1+u/8%g2]).map V.int:=by simp
      rw [eL];refine hN _ _ ⟨ls2++[1+u/8%g2],1+u/8%g2,rfl,sm_own (sm_own sm4 nz2) nL,by rw [aE LC.symm,aE zC2];exact hC4,aB,by simp,λx hx=>?_,by simp;omega,by omega,by omega⟩
      rcases Av.mp hx with h|h
      ·exact nn3 x h
      ·have:=Al.mp h
       omega
    ·refine ⟨_,rfl,zLn0,λz hz=>?_⟩
     have nz:H z=none:=bQ sm2 hz;have zC:C≠z:=λe=>by rw [<- e,hC2] at hz;cases hz
     have zL:L≠z:=λe=>by rw [<- e,hL2] at hz;cases hz
     have sm3:=sm_own (o:=HO.lst []) sm2 nz;have hC3:upd H2 z (.lst []) C=some (.lst (cs.map V.int)):=by rw [aE zC];exact hC2
     have hL3:upd H2 z (.lst []) L=some (.lst (ls'.map V.int)):=by rw [aE zL];exact hL2
     refine ⟨L,z,_,rfl,rfl,SqL.of hL3,SqL.of aB,_,rfl,?_⟩;generalize upd H2 z (.lst [])=H3 at sm3 hC3 hL3 ⊢
     rcases alt with rfl|⟨j,x,rfl,x1⟩
     ·refine iteT ⟨_,rfl,_,_,rfl,rfl,?_⟩
      refine hN _ _ ⟨[],mi+1,rfl,sm3,hC3,hL3,λc c0 c1=>?_,(λ_ h=>nomatch h),by decide,by omega,by omega⟩;have e0:ls.sum=0:=es.symm;rw [e0] at gd;have:=gd.root c0 c1
      simpa using this
     ·have ene:((j++[x]).map V.int).isEmpty=false:=by simp
      rw [ene];refine iteF ⟨_,rfl,_,rfl,L,_,-1,.int x,rfl,rfl,SqL.of hL3,mB j x,_,_,rfl,rfl,_,rfl,_,rfl,L,_,-1,j.length,rfl,rfl,hL3,xF j x,?_⟩;rw [rX];have nnj:∀ y∈j,0<=y:=λy hy=>(nn2 y (by simp [hy])).1;have j0:=rB nnj;rw [lD] at es;refine hN _ _ ⟨j++[x-1],mi,rfl,sm_own sm3 nL,by rw [aE LC.symm];exact hC3,aB,λc c0 c1=>?_,λy hy=>?_,by simpa using l82,m0,by omega⟩
      ·have:=gd.part (c:=c) (by omega) c0 c1
       have e:(j++[x-1]).sum+c=ls.sum-1+c:=by rw [lD];omega
       rw [e];exact this
      ·rcases Av.mp hy with h|h
       ·exact nn2 y (by simp [h])
       ·have:=Al.mp h
        have:=nn2 x (by simp);omega
   ·refine ⟨λm σ' H'=>∃ ls':List Int,σ'=[some (.ref a),some (.int 3),some (.int 63),some (.int lean),some (.ref C),some (.ref L),some (.int mi),some (.int (3+i)),v8,v9]/\Same H H'/\H' C=some (.lst (cs.map V.int))/\H' L=some (.lst (ls'.map V.int))/\ls'.sum=ls.sum/\(∀ x∈ls',0<=x/\x<=4)/\ls'.length<=8/\m=ls'.length,
     ⟨_,ls,rfl,sm,hC1,hL1,rfl,nn,l8,rfl⟩,?_⟩
    rintro m σ' H2 ⟨ls',rfl,sm2,hC2,hL2,es,nn2,l82,rfl⟩
    refine ⟨_,rfl,zLn0,λz hz=>?_⟩;have nz:H z=none:=bQ sm2 hz;have zC:C≠z:=λe=>by rw [<- e,hC2] at hz;cases hz
    have zL:L≠z:=λe=>by rw [<- e,hL2] at hz;cases hz
    have sm3:=sm_own (o:=HO.lst []) sm2 nz;have hC3:upd H2 z (.lst []) C=some (.lst (cs.map V.int)):=by rw [aE zC];exact hC2
    have hL3:upd H2 z (.lst []) L=some (.lst (ls'.map V.int)):=by rw [aE zL];exact hL2
    refine ⟨L,z,_,rfl,rfl,SqL.of hL3,SqL.of aB,_,rfl,?_⟩;generalize upd H2 z (.lst [])=H3 at sm3 hC3 hL3 ⊢
    rcases jJ ls' with rfl|⟨j,x,rfl⟩
    ·exact iteF (iteF (hN _ _ ⟨[],rfl,sm3,hC3,hL3,es,nn2,l82,.inl rfl⟩))
    ·have ene:(!((j++[x]).map V.int).isEmpty)=true:=by simp
     rw [ene];refine iteT ⟨_,rfl,_,rfl,L,_,-1,.int x,rfl,rfl,SqL.of hL3,mB j x,rfl,_,rfl,ite2 (λh0=>?_) (λh0=>?_)⟩
     ·have ex:x=0:=by simpa [eqV] using h0
      subst ex;refine ⟨_,λσ' H' h=>h,_,rfl,.inl ⟨rfl,_,SqL.of hL3⟩,L,_,.int 0,rfl,rfl,hL3,by simp,?_⟩;have ed:((j++[(0:Int)]).map V.int).dropLast=j.map V.int:=by simp
      rw [ed];exact ⟨j.length,by simp,j,rfl,sm_own sm3 nL,by rw [aE LC.symm];exact hC3,aB,by rw [<- es];simp,λy hy=>nn2 y (by simp [hy]),by simp at l82;omega,rfl⟩
     ·have ex:x≠0:=by simpa [eqV] using h0
      have:=(nn2 x (by simp)).1;exact hN _ _ ⟨j++[x],rfl,sm3,hC3,hL3,es,nn2,l82,.inr ⟨j,x,rfl,by omega⟩⟩
  ·rintro σ H1 ⟨cs,ls,mi,v7,v8,v9,rfl,sm,hC1,hL1,gd,nn,l8,cl,m0,mi1⟩
   refine ⟨_,rfl,rfl,_,rfl,ite2 (λh0=>?_) (λh0=>?_)⟩
   ·refine ⟨zLn2,λz hz=>?_⟩
    exact k [1,0] z _ ⟨⟨⟨trivial,by decide,by decide,by decide⟩,by decide,by decide,by decide⟩,⟨1,rfl,by decide⟩,by decide,by decide⟩ (sm_own sm (bQ sm hz)) (bQ sm hz) aB
   ·have m1:mi≠0:=by simpa [eqV] using h0
    have s0:=rB λx hx=>(nn x hx).1;have s4:=aBo λx hx=>(nn x hx).2;refine ⟨_,rfl,zLn1,λz hz=>?_⟩;have zC:C≠z:=λe=>by rw [<- e,hC1] at hz;cases hz
    have zL:L≠z:=λe=>by rw [<- e,hL1] at hz;cases hz
    refine ⟨_,rfl,z,C,_,_,rfl,rfl,aB,(by rw [aE zC];exact hC1),bL (by simp;omega),λp hp=>?_⟩;have pz:p≠z:=λe=>by rw [e,aB] at hp;cases hp
    have hp1:H1 p=none:=by rw [aE pz] at hp;exact hp
    have pL:L≠p:=λe=>by rw [<- e,hL1] at hp1;cases hp1
    refine ⟨zLn1,λz2 hz2=>?_⟩;have z2p:p≠z2:=λe=>by rw [<- e,aB] at hz2;cases hz2
    have hz2':upd H1 z (.lst [.int mi]) z2=none:=by rw [aE z2p.symm] at hz2;exact hz2
    have z2z:z2≠z:=λe=>by rw [e,aB] at hz2';cases hz2'
    have hz21:H1 z2=none:=by rw [aE z2z] at hz2';exact hz2'
    have z2L:L≠z2:=λe=>by rw [<- e,hL1] at hz21;cases hz21
    refine ⟨_,rfl,L,ls,rfl,SqL.of (by rw [aE z2L,aE pL,aE zL];exact hL1),?_⟩;refine ⟨z2,_,_,rfl,rfl,aB,by omega,by omega,(by show 1*ls.sum.toNat<=AE;exact bL (by omega)),λp2 hp2=>?_⟩;have p2z2:p2≠z2:=λe=>by rw [e,aB] at hp2;cases hp2
    have hp2':=hp2;rw [aE p2z2] at hp2';have p2p:p2≠p:=λe=>by rw [e,aB] at hp2';cases hp2'
    rw [aE p2p] at hp2';have p2z:p2≠z:=λe=>by rw [e,aB] at hp2';cases hp2'
    rw [aE p2z] at hp2';refine ⟨p,p2,_,_,rfl,rfl,(by rw [aE p2p.symm,aE z2p];exact aB),aB,?_,λr hr'=>?_⟩
    ·rw [sH]
     simp;exact bL (by omega)
    ·rw [sH] at hr' ⊢
     have e:[V.int mi]++cs.map V.int++(AR ls.sum.toNat (0:Int)).map V.int=(mi::(cs++AR ls.sum.toNat 0)).map V.int:=by simp
     rw [e];have smA:Same H (upd (upd (upd (upd H1 z (.lst [.int mi])) p (.lst ([V.int mi]++cs.map V.int))) z2 (.lst [.int 0])) p2 (.lst ((AR ls.sum.toNat (0:Int)).map V.int))):=
      sm_own (sm_own (sm_own (sm_own sm (bQ sm hz)) (bQ sm hp1)) (bQ sm hz21)) (bQ sm hp2')
     have es:((ls.sum.toNat:Nat):Int)=ls.sum:=by omega
     refine k _ r _ ⟨Gd.whole (l:=ls.sum.toNat) (by rw [es];exact gd) m0 (by omega),⟨mi,rfl,by omega⟩,?_,?_⟩ (sm_own smA (bQ smA hr')) (bQ smA hr') aB
     ·simp
      omega
     ·have h1:nzc (mi::(cs++AR ls.sum.toNat 0))<=1+nzc (cs++AR ls.sum.toNat 0):=by
       rw [rS _ m1];omega
      rw [aDz,wN] at h1;have:=aBy cs;omega
end
def vD:Sp:=λvs H Q _=>∃ (m1 m2:Addr) (n1 n2:Nat),vs=[.ref m1,.ref m2]/\Am H m1 n1/\Am H m2 n2/\1<=n1/\1<=n2/\n1+n2<=140/\∀ p H',Same H H'->H p=none->Am H' p (n1+n2)->Q (.ref p) H'
def lH:Sp:=λvs H Q _=>∃ (q:Addr) (cs:List Pt),vs=[.ref q]/\H q=some (.tup (cs.map (·.1)))/\(∃ n:Nat,∀ c∈cs,Tr H n c.1 c.2.1 c.2.2)/\1+szs cs<=140/\∀ p H',Same H H'->H p=none->Am H' p (1+szs cs)->Q (.ref p) H'
section
variable {P:AF}{w:World}{K:Ab}{mg:Str->Option Value}{base:Heap}
def aG0:FnScope ["_law_one","_law_other"] ["_law_one","_law_other"] (aJ sAdd):=fnScOk (by decide +kernel)
def aFy {f:Addr}{fd:AM}(F:Fun K "_law_add" "_law_add" sAdd f fd)(cL:Cal P w K mg base CX0 1 "_law_lowest" ["_law_top","_law_bottom"] eD):FnOk P w K mg base CX0 2 f fd ["_law_one","_law_other"] vD:=by
 refine F.ok aG0 (λvs H Q E h=>?_) (λcdv A outer s H vs Q E hr h=>?_)
 ·obtain ⟨_,_,_,_,rfl,_⟩:=h
  rfl
 ·obtain ⟨m1,m2,n1,n2,rfl,⟨t1,b1,h1,t10,b11,st1,sb1⟩,⟨t2,b2,h2,t20,b21,st2,sb2⟩,l1,l2,l,k⟩:=h
  refine ⟨_,(aH (aU (aL cL hr rfl aS (aA (aN bF (aN cQ (pit 0 0) (pit 1 1)) (aN cQ (pit 1 0) (pit 0 1))) (aA (aN cQ (pit 0 1) (pit 1 1)) aC))))),?_⟩;have w1:∀ {x:Int},Bt (64*n1-1) x->Bt 1000000 x:=λh=>h.mono (by omega);have w2:∀ {x:Int},Bt (64*n2-1) x->Bt 1000000 x:=λh=>h.mono (by omega);have S1:=SqT.of (K:=K) h1;have S2:=SqT.of (K:=K) h2;refine ⟨m1,_,_,rfl,S1,rfl,m2,_,_,rfl,S2,rfl,_,_,rfl,rfl,⟨w1 st1,w2 sb2⟩,m2,_,_,rfl,S2,rfl,m1,_,_,rfl,S1,rfl,_,_,rfl,rfl,⟨w2 st2,w1 sb1⟩,_,_,rfl,rfl,m1,_,_,rfl,S1,rfl,m2,_,_,rfl,S2,rfl,_,_,rfl,rfl,⟨w1 sb1,w2 sb2⟩,?_⟩;have p1:0<=t1*b2:=Int.mul_nonneg t10 (by omega);have p2:0<=t2*b1:=Int.mul_nonneg t20 (by omega);have pb:1<=b1*b2:=Int.mul_pos (by omega) (by omega);have sb:Bt (64*(n1+n2)-1) (b1*b2):=(sb1.mul sb2).mono (by omega);have e1:Bt (64*(n1+n2)-2) (t1*b2):=(st1.mul sb2).mono (by omega);have e2:Bt (64*(n1+n2)-2) (t2*b1):=(st2.mul sb1).mono (by omega);have st:Bt (64*(n1+n2)-1) (t1*b2+t2*b1):=(e1.add e2).mono (by omega);refine ⟨_,_,rfl,by omega,pb,sb.mono (by omega),λp H' sm np hp=>k p H' sm np ⟨_,_,hp,?_,?_,?_,?_⟩⟩
  ·exact DI (by omega) (Int.le_of_lt (qW (by omega)))
  ·have g:=qW (a:=t1*b2+t2*b1) (b:=b1*b2) (by omega)
   exact (EA g).mpr (by have:=sT (a:=t1*b2+t2*b1) (b:=b1*b2) (by omega);omega)
  ·exact st.div (by omega)
  ·exact sb.div (by omega)
def lO:FnScope ["_law_parts","_law_found","_law_part"] ["_law_parts"] (aJ sTotal):=fnScOk (by decide +kernel)
def aAg {f:Addr}{fd:AM}(F:Fun K "_law_total" "_law_total" sTotal f fd)(cA:Cal P w K mg base CX0 2 "_law_add" ["_law_one","_law_other"] vD):FnOk P w K mg base CX0 3 f fd ["_law_parts"] lH:=by
 refine F.ok lO (λvs H Q E h=>?_) (λcdv A outer s H vs Q E hr h=>?_)
 ·obtain ⟨_,_,rfl,_⟩:=h
  rfl
 ·obtain ⟨q,cs,rfl,hq,⟨nn,hc⟩,l,k⟩:=h
  refine ⟨_,(aD (aK (i:=1) lO.nd rfl (Or.inl rfl) (aT (aA aG (aA aG aC))))
   (aD (bP AQ rfl (gY (pv 0)) (aR (i:=2) lO.nd rfl (Or.inl rfl))
    (aH (aK (i:=1) lO.nd rfl (Or.inl rfl) (aL cA hr rfl aS (aA (pv 1) (aA (pit 2 2) aC))))))
   (aH (aU (pv 1))))),?_⟩
  refine cut3 ?_
  intros
  refine ⟨zLn2,λz hz=>?_⟩;have sm0:Same H (upd H z (.tup [.int 0,.int 1])):=Same.upd hz;refine ⟨_,rfl,q,rfl,⟨_,SqT.of (sm0 _ _ hq)⟩,?_⟩;have sl:∀ i,szs (cs.take i)<=szs cs:=λi=>by
   have:=cY (cs.take i) (cs.drop i);rw [EE] at this;omega
  refine gN (λi σ H'=>∃ (m:Addr) (v2:Option V),σ=[some (.ref q),some (.ref m),v2]/\Same H H'/\H m=none/\Am H' m (1+szs (cs.take i))) ⟨z,none,rfl,sm0,hz,⟨0,1,aB,by decide,by decide,?_,?_⟩⟩ (λi σ H' _ ⟨_,_,_,sm,_⟩=>SqT.of (sm _ _ hq)) ?_ ?_
  ·exact cG 63 (c:=1) (by decide) (by decide)
  ·exact cG 63 (c:=2) (by decide) (by decide)
  ·rintro i v σ H1 hv ⟨m,v2,rfl,sm,hm,am⟩
   rw [Aj] at hv;cases e:cs[i]? with
   |none=>rw [e] at hv;cases hv
   |some c=>
    rw [e] at hv;cases hv;have ht:=(hc c (AJ e)).keep sm.tk;have es:szs (cs.take (i+1))=szs (cs.take i)+c.2.1:=by
     rw [Dd,e,cY];show _+szs [c]=_;rw [iF];rfl
    have s1:=ht.size;have:=sl (i+1);obtain ⟨p,a,y,x,xs,ev,hp,amc⟩:=ht.shows;refine ⟨_,rfl,p,_,_,(by show some (some c.1)=_;rw [ev]),SqT.of hp,rfl,m,a,_,_,rfl,am,amc,by omega,s1,by omega,λr H2 s2 hr2 am2=>?_⟩;refine ⟨r,_,rfl,sm.trans s2,bQ sm hr2,?_⟩;rw [es];have e3:1+szs (cs.take i)+c.2.1=1+(szs (cs.take i)+c.2.1):=by omega
    rw [<- e3];exact am2
  ·rintro σ H1 ⟨m,v2,rfl,sm,hm,am⟩
   rw [Ac,Ef] at am;exact ⟨_,rfl,k m H1 sm hm am⟩
end
end K45
namespace PySem.SeqAt
open PySem MeetsSeq
end PySem.SeqAt
namespace HT
open PySem PySem.Spec PyProof.Rows
section
variable {prog:AF}{w:World}{A:Around}{E:Value->Shared->Prop}{s:Shared}
def getItem_tuple_whole {t sl:Addr}{items:Array Value}{vl vu:Value}{lo hi:Option Int}{Q:Value->Shared->Prop}(ht:IsTup s.heap t items)(hs:s.heap.IsSliceOf sl vl vu .none)(pl:IsPart vl lo)(pu:IsPart vu hi)
  (hw:sIx items.size 0 lo=0/\sIx items.size items.size hi=items.size) (h:Q (.ref t) s):wpAny (model prog w) A (getItem (.ref t) (.ref sl)) Q E s:=by
 obtain ⟨os,hos,hcs,hds⟩:=id hs;have hTs:s.TypeIs (.ref sl) "slice":=⟨os,hos,hcs⟩;unfold getItem
 try with_reducible refine BE ?_
 first|refine Aa (Ag ?_)|skip
 refine Aa (wpAny_sequenceKey ht.typeIs (by decide) ?_);refine Aa (BR (name:=DF "__getitem__") ht.typeIs BJ
  (BG BJ ht.typeIs entry_tuple_getitem ?_ (args_tuple_getitem _ _)))
 show wpAny _ _ (AU.Tuple.tupleItemsOf (.ref t) >>= _) _ _ s;refine Aa (tupleItemsOf_ ht ?_);refine Aa (wpAny_typeOf hTs ?_);rw [if_pos (by decide)];refine Aa (eO hs pl pu ?_);rw [hw.1,hw.2];have hyes:(((0:Nat):Int)==0&&(1:Int)==1&&(items.size-0)==items.size)=true:=by simp
 show wpAny _ _ (if (((0:Nat):Int)==0&&(1:Int)==1&&(items.size-0)==items.size)=true then _ else _) _ _ s;rw [if_pos hyes];refine Aa (m:=AU.Tuple.tupleIsExact (.ref t)) ?_;unfold AU.Tuple.tupleIsExact;refine Aa (wpAny_typeOf ht.typeIs (Ag ?_));rw [if_pos (by decide)];exact Aa (Dp (Ag ⟨_,rfl,Ag h⟩))
end
end HT
namespace L2
open PySem PySem.Spec PyProof.Rows
def rIndexF:V->List V->Hp->VK->Prop:=λx vs H Q=>∃ l xs y,∃ i j:Nat,∃ z,x=.ref l/\vs=[y,.int (i:Int)]/\H l=some (.lst xs)/\dX y=true/\xs.all dX=true/\i<=j/\xs[j]?=some z/\eqV z y=true /\
 (∀ m z,i<=m->m<j->xs[m]?=some z->eqV z y=false)/\Q (.int (j:Int)) H
section
variable {X:Cx}
def aG2 (K:Ab):V->Option Int->Option Int->Hp->VK->Prop:=λx lo hi H Q=>∃ a xs,x=.ref a/\H a=some (.tup xs)/\∀ p H',Same H H'->H' p=some (.tup (cutV xs lo hi))->Q (.ref p) H'
def aCv:SlR X (aG2 X.K):=by
 intro pins s σ H x v vl vu lo hi sl Q I rx hs pl pu h;obtain ⟨a,xs,rfl,hx,q⟩:=h
 by_cases hw:HT.sIx xs.length 0 lo=0/\HT.sIx xs.length xs.length hi=xs.length
 ·cases rx
  obtain ⟨its,r,ht,hz⟩:=I.tuple (SqT.of hx);have hlen:its.toArray.size=xs.length:=by rw [Ai];exact r.length.symm
  refine ⟨"tuple",_,BJ.lookup,ht.typeIs,?_⟩;refine HT.getItem_tuple_whole ht hs pl pu (by rw [hlen];exact hw) ⟨.ref a,H,I,rfl,q a H (Same.refl _) ?_⟩;unfold cutV;rw [hw.1,hw.2,List.drop_zero,Nat.sub_zero,Ef];exact hx
 ·exact aE2 pins s σ H _ v vl vu lo hi sl Q I rx hs pl pu ⟨a,xs,rfl,SqT.of hx,hw,λp hp=>q p _ (Same.upd hp) aB⟩
end
end L2
namespace TR
open PySem PySem.Spec PyProof.Rows L2 GM
def Pp (H:Hp)(root:V):Nat->V->List Nat->Prop
 |0,_,_=>False
 |h+1,w,un=>∃ (p pa q m r:Addr) (y:Str) (ks:List Nat) (x:V),w=.ref p/\H p=some (.tup [.ref pa,x])/\H pa=some (.tup (pth ks))/\(∃ t,ks=un++t)/\AtP H root ks (.ref q)/\H q=some (.tup [.str "recipe",.str y,.ref m,.ref r])/\ks.length<=100 /\
  ((h=0/\x=.non)\/(1<=h/\∃ (t:Addr) (w1 w2:V) (i j:Nat),x=.ref t/\H t=some (.tup [w1,w2])/\i≠j/\Pp H root h w1 (ks++[i])/\Pp H root h w2 (ks++[j])))
abbrev ksI (ks:List Nat):List Int:=ks.map λ(k:Nat)=>(k:Int)
theorem rJ (ks:List Nat)(k:Nat):pth (ks++[k])=pth ks++[V.int (k:Int)]:=Ax
theorem kP {α:Type}[DecidableEq α]:∀ {a b:List α},a.Nodup->(∀ x∈a,x∈b)->a.length<=b.length
 |[],_,_,_=>Bi _
 |x::a,b,h,s=>by
  rw [CC] at h;have m:=s x (Az ..);have:=kP (a:=a) (b:=b.erase x) h.2 λy hy=>by
   have ne:y≠x:=λe=>h.1 (e▸hy);exact (List.mem_erase_of_ne ne).mpr (s y (Au _ hy))
  have l:=List.length_erase_of_mem m;have p:=List.length_pos_of_mem m;rw [AI];omega
def Vp (ch:List Nat->Nat):List Nat->Prop
 |[]=>True
 |k::r=>k<ch []/\Vp (λq=>ch (k::q)) r
theorem Vp.app {k:Nat}:∀ {ch:List Nat->Nat} {p:List Nat},Vp ch (p++[k])↔Vp ch p/\k<ch p
 |ch,[]=>by simp [Vp]
 |ch,j::r=>by
  show (j<ch []/\Vp (λq=>ch (j::q)) (r++[k]))↔(j<ch []/\Vp (λq=>ch (j::q)) r)/\k<ch (j::r);rw [Vp.app];exact ⟨λ⟨a,b,c⟩=>⟨⟨a,b⟩,c⟩,λ⟨⟨a,b⟩,c⟩=>⟨a,b,c⟩⟩
def pre (ch:List Nat->Nat):Nat->List Nat->List (List Nat)
 |0,_=>[]
 |n+1,p=>p::(Ay (ch p)).flatMap λk=>pre ch n (p++[k])
theorem vO :∀ {t:List Nat} {n:Nat} {p:List Nat},Vp ch (p++t)->t.length<n->p++t∈pre ch n p
 |[],0,_,_,h=>absurd h (by decide)
 |[],n+1,p,_,_=>by rw [AL];exact Az ..
 |_::_,0,_,_,h=>absurd h (by simp)
 |k::t,n+1,p,v,h=>by
  have e:p++k::t=(p++[k])++t:=by simp
  rw [e] at v ⊢;have vk:Vp ch (p++[k]):=by
   have:∀ {t:List Nat} {q:List Nat},Vp ch (q++t)->Vp ch q:=λ{t}=>by
    induction t with
    |nil=>intro q h;simpa using h
    |cons a t ih=>
     intro q h;have e:q++a::t=(q++[a])++t:=by simp
     rw [e] at h;exact (Vp.app.mp (ih h)).1
   exact this v
  refine Au _ (List.mem_flatMap.mpr ⟨k,Bv.mpr (Vp.app.mp vk).2,vO v ?_⟩);rw [AI] at h;omega
def zQ {i j:Nat}(h1:p++[i] <+: q)(h2:p++[j] <+: q):i=j:=by
 obtain ⟨a,ha⟩:=h1;obtain ⟨b,hb⟩:=h2;rw [<- hb,Bo,Bo] at ha;have:=List.append_cancel_left ha;simp at this;exact this.1
def vU {i:Nat}(h:p++[i] <+: p):False:=by
 have:=h.length_le;simp at this;omega
structure TT (ch:List Nat->Nat)(nd:List Nat->Int)(N:Nat):Prop where
 deep:∀ p,Vp ch p->p.length<N
 zero:∀ p,Vp ch p->ch p=0->nd p=0
 need:∀ p,Vp ch p->1<=ch p->Nd ((Ay (ch p)).map λk=>nd (p++[k])) (nd p)
abbrev pk (ks:List Nat):List Key:=ks.map λ(k:Nat)=>Sum.inl (k:Int)
theorem kM {a b:List Nat}(h:pk a=pk b):a=b:=by
 have e:∀ {a b:List Nat},pk a=pk b->a=b:=λ{a}=>by
  induction a with
  |nil=>intro b h;cases b with
   |nil=>rfl
   |cons _ _=>simp [pk] at h
  |cons x a ih=>
   intro b h;cases b with
   |nil=>simp [pk] at h
   |cons y b=>
    have h':(Sum.inl (x:Int):Key)::pk a=Sum.inl (y:Int)::pk b:=h;injection h' with h1 h2;injection h1 with h1;rw [ih h2]
    congr 1
    omega
 exact e h
theorem aG6 (ks:List Nat):(pk ks).map kV=pth ks:=by
 rw [Bw];rfl
def hvS (ch:List Nat->Nat)(kvs:List (List Key×V))(p:List Nat):List (List Key×V):=putK (if ch p=0 then kvs else bS kvs (pk p)) (pk p.dropLast) (.bl true)
def hv (ch:List Nat->Nat)(g:List (List Nat)):List (List Key×V):=g.foldl (hvS ch) []
theorem qJ :hv ch (g++[p])=hvS ch (hv ch g) p:=by simp [hv]
def wdS (ch:List Nat->Nat)(s:List (List Key×V)×Int)(p:List Nat):List (List Key×V)×Int:=(hvS ch s.1 p,max s.2 ((hvS ch s.1 p).length:Int))
def wd (ch:List Nat->Nat)(g:List (List Nat)):Int:=(g.foldl (wdS ch) ([],0)).2
def Lg (ch:List Nat->Nat)(g:List (List Nat)):Prop:=∀ a p b,g=a++p::b->Vp ch p/\p≠[]/\p∉a/\∀ k,k<ch p->p++[k]∈a
def Lg.nil :Lg ch []:=λa p b h=>by simp at h
def Lg.snoc (h:Lg ch g)(v:Vp ch p)(ne:p≠[])(n:p∉g)(c:∀ k,k<ch p->p++[k]∈g):Lg ch (g++[p]):=λa q b e=>by
 rcases List.append_eq_append_iff.mp e with ⟨as,e1,e2⟩|⟨bs,e1,e2⟩
 ·cases as with
  |nil=>
   simp at e1 e2;obtain ⟨rfl,rfl⟩:=e2;subst e1;exact ⟨v,ne,n,c⟩
  |cons x xs=>simp at e2
 ·cases bs with
  |nil=>
   simp at e1 e2;obtain ⟨rfl,rfl⟩:=e2;subst e1;exact ⟨v,ne,n,c⟩
  |cons x xs=>
   simp at e2;obtain ⟨rfl,e3⟩:=e2;exact h a q xs e1
theorem Lg.pre {g a:List (List Nat)}(h:Lg ch g)(p:a <+: g):Lg ch a:=λx q y e=>by
 obtain ⟨b,rfl⟩:=p;exact h x q (y++b) (by rw [e];simp)
def Lg.init (h:Lg ch (g++[p])):Lg ch g:=h.pre (Cv ..)
theorem Lg.mem (h:Lg ch g)(m:p∈g):Vp ch p/\p≠[]/\∀ k,k<ch p->p++[k]∈g:=by
 obtain ⟨a,b,rfl⟩:=List.append_of_mem m;have:=h a p b rfl;exact ⟨this.1,this.2.1,λk hk=>AW _ (this.2.2.2 k hk)⟩
def Lg.nodup :∀ {g:List (List Nat)},Lg ch g->g.Nodup:=λ{g}=>by
 have:∀ n (g:List (List Nat)),g.length=n->Lg ch g->g.Nodup:=λn=>by
  induction n with
  |zero=>intro g e h;have:g=[]:=Cc.mp e;subst this;exact Cp
  |succ n ih=>
   intro g e h;cases er:g.reverse with
   |nil=>have:g=[]:=BC.mp er;subst this;exact Cp
   |cons x i=>
    have eg:g=i.reverse++[x]:=by have:=congrArg DA er;simpa using this
    subst eg;have:=ih i.reverse (by simp at e;simpa using e) h.init;rw [DR];refine ⟨this,by simp,λa ha b hb eab=>?_⟩;have ex:b=x:=by simpa using hb
    rw [eab,ex] at ha;exact (h i.reverse x [] (by simp)).2.2.1 ha
 exact this _ g rfl
theorem uO {kvs:List (List Key×V)}{k j:List Key}:valV (bS kvs k) j=if j=k then none else valV kvs j:=by
 induction kvs with
 |nil=>unfold bS valV;simp
 |cons p r ih=>
  unfold bS at ih ⊢;rw [Bp]
  by_cases e:p.1=k
  ·rw [if_neg (by simp [e]),ih]
   by_cases f:j=k
   ·rw [if_pos f,if_pos f]
   ·rw [if_neg f,if_neg f,bX (λz=>f (z.symm.trans e))]
  ·rw [if_pos (by simp [e])]
   by_cases f:p.1=j
   ·rw [bZ f,bZ f,if_neg (λz=>e (f.trans z))]
   ·rw [bX f,bX f,ih]
def aHi {ch:List Nat->Nat}:∀ {n:Nat} {g:List (List Nat)},g.length=n->Lg ch g->∀ q,valV (hv ch g) (pk q)=@ite (Option V) ((∃ k,q++[k]∈g)/\q∉g) (Classical.propDecidable _) (some (.bl true)) none:=by
 intro n
 induction n with
 |zero=>
  intro g e h q;have:g=[]:=Cc.mp e;subst this;rw [if_neg (by rintro ⟨⟨k,hk⟩,_⟩;simp at hk)];rfl
 |succ n ih=>
  intro g e h q;cases er:g.reverse with
  |nil=>
   have:g=[]:=BC.mp er;subst this;simp at e
  |cons x i=>
   have eg:g=i.reverse++[x]:=by have:=congrArg DA er;simpa using this
   generalize i.reverse=g' at eg;subst eg;have ih':=ih (g:=g') (by simpa using e) h.init;obtain ⟨vx,nx,hx,cx⟩:=h g' x [] (by simp);rw [qJ];unfold hvS;rw [eY];obtain ⟨y,k,rfl⟩:∃ y k,x=y++[k]:=⟨x.dropLast,x.getLast nx,(EY nx).symm⟩;rw [CA];have yx:y∉g'++[y++[k]]:=λm=>by
    rcases Av.mp m with m|m
    ·exact hx ((h.init.mem m).2.2 k (Vp.app.mp vx).2)
    ·have:y=y++[k]:=by simpa using m
     simp at this
   by_cases f:q=y
   ·subst f
    rw [if_pos rfl,if_pos ⟨⟨k,by simp⟩,yx⟩]
   ·rw [if_neg (λz=>f (kM z))]
    have keep:valV (if ch (y++[k])=0 then hv ch g' else bS (hv ch g') (pk (y++[k]))) (pk q)=if q=y++[k] then none else valV (hv ch g') (pk q):=by
     by_cases c0:ch (y++[k])=0
     ·rw [if_pos c0]
      by_cases fq:q=y++[k]
      ·rw [if_pos fq,ih' q,if_neg]
       rintro ⟨⟨j,hj⟩,_⟩
       have:=(Vp.app.mp (h.init.mem hj).1).2;rw [fq,c0] at this;exact absurd this (by omega)
      ·rw [if_neg fq]
     ·rw [if_neg c0,uO]
      by_cases fq:q=y++[k]
      ·rw [if_pos fq,if_pos (by rw [fq])]
      ·rw [if_neg fq,if_neg (λz=>fq (kM z))]
    rw [keep]
    by_cases fq:q=y++[k]
    ·rw [if_pos fq,if_neg]
     rintro ⟨_,hn⟩
     exact hn (by rw [fq];simp)
    ·rw [if_neg fq,ih' q]
     have e1:(∃ j,q++[j]∈g'++[y++[k]])↔∃ j,q++[j]∈g':=by
      constructor
      ·rintro ⟨j,hj⟩
       rcases Av.mp hj with hj|hj
       ·exact ⟨j,hj⟩
       ·have e:q++[j]=y++[k]:=by simpa using hj
        have:=DC e rfl;exact absurd this f
      ·rintro ⟨j,hj⟩
       exact ⟨j,AW _ hj⟩
     have e2:q∉g'++[y++[k]]↔q∉g':=by
      constructor
      ·intro h m;exact h (AW _ m)
      ·intro h m
       rcases Av.mp m with m|m
       ·exact h m
       ·exact fq (by simpa using m)
     by_cases c:(∃ j,q++[j]∈g')/\q∉g'
     ·rw [if_pos c,if_pos ⟨e1.mpr c.1,e2.mpr c.2⟩]
     ·rw [if_neg c,if_neg (λz=>c ⟨e1.mp z.1,e2.mp z.2⟩)]
def qX {kvs:List (List Key×V)}{k:List Key}{v:V}(h:valV kvs k=some v):∃ kv∈kvs,kv.1=k:=by
 unfold valV at h;cases e:kvs.find? λkv=>decide (kv.1=k) with
 |none=>rw [e] at h;cases h
 |some kv=>exact ⟨kv,Fk e,by simpa using List.find?_some e⟩
def rV {kv:List Key×V}(h:kv∈kvs):(valV kvs kv.1).isSome:=by
 rw [<- eZ];exact List.any_eq_true.mpr ⟨kv,h,by simp⟩
def xS :∀ {n:Nat} {g:List (List Nat)},g.length=n->∀ kv∈hv ch g,∃ q,kv.1=pk q:=by
 intro n
 induction n with
 |zero=>
  intro g e kv h;have:g=[]:=Cc.mp e;subst this;exact nomatch h
 |succ n ih=>
  intro g e kv h;cases er:g.reverse with
  |nil=>
   have:g=[]:=BC.mp er;subst this;simp at e
  |cons x i=>
   have eg:g=i.reverse++[x]:=by have:=congrArg DA er;simpa using this
   generalize i.reverse=g' at eg;subst eg;rw [qJ] at h;have ih':=ih (g:=g') (by simpa using e);have d:∀ kv∈(if ch x=0 then hv ch g' else bS (hv ch g') (pk x)),∃ q,kv.1=pk q:=λkv hk=>by
    split at hk
    ·exact ih' kv hk
    ·exact ih' kv (Ba.mp hk).1
   unfold hvS at h;generalize (if ch x=0 then hv ch g' else bS (hv ch g') (pk x))=L at h d;unfold putK at h;split at h
   ·obtain ⟨kv',m,rfl⟩:=AY.mp h
    split
    ·exact d kv' m
    ·exact d kv' m
   ·rcases Av.mp h with h|h
    ·exact d kv h
    ·have:kv=(pk x.dropLast,.bl true):=by simpa using h
     exact ⟨_,by rw [this]⟩
def und (q:List Nat)(kv:List Key×V):Bool:=decide (pk q <+: kv.1)
def Hd (H:Hp):Nat->V->(List Nat->Nat)->(List Nat->Int)->Prop
 |0,_,_,_=>False
 |n+1,v,ch,nd=>(∃ (p m:Addr) (x:Str),v=.ref p/\H p=some (.tup [.str "ware",.str x,.ref m])/\ch []=0/\nd []=0) \/
  (∃ (p m q:Addr) (x:Str) (vs:List V),v=.ref p/\H p=some (.tup [.str "recipe",.str x,.ref m,.ref q])/\H q=some (.tup vs)/\1<=vs.length/\vs.length<64/\ch []=vs.length /\
   Nd ((Ay vs.length).map λk=>nd [k]) (nd [])/\∀ (k:Nat) c,vs[k]?=some c->Hd H n c (λr=>ch (k::r)) (λr=>nd (k::r)))
theorem eT {k:Nat}:∀ {n:Nat} {p:List Nat},pre ch n (k::p)=(pre (λr=>ch (k::r)) n p).map (k::·)
 |0,_=>rfl
 |n+1,p=>by
  show (k::p)::(Ay (ch (k::p))).flatMap (λj=>pre ch n (k::(p++[j])))=(k::p)::List.map (k::·) ((Ay (ch (k::p))).flatMap λj=>pre (λr=>ch (k::r)) n (p++[j]));rw [List.map_flatMap]
  congr 2
  funext j
  exact eT
theorem iN {α β:Type}{f:α->List β}:∀ {l:List α},(l.flatMap f).length=(l.map λx=>(f x).length).sum
 |[]=>rfl
 |x::l=>by rw [List.flatMap_cons,Aq,Bb,List.sum_cons,iN]
abbrev shf {α:Type}(ks:List Nat)(f:List Nat->α):List Nat->α:=λr=>f (ks++r)
theorem iH {α:Type}{k:Nat}{f:List Nat->α}:(λr=>shf ks f (k::r))=shf (ks++[k]) f:=by
 funext r
 show f (ks++k::r)=f ((ks++[k])++r);rw [Bo];rfl
theorem Hd.at :∀ {p:List Nat} {n:Nat} {v:V} {ch:List Nat->Nat} {nd:List Nat->Int},Hd H n v ch nd->Vp ch p->∃ m u,n=p.length+m/\AtP H v p u/\Hd H m u (shf p ch) (shf p nd)
 |[],n,v,ch,nd,h,_=>⟨n,v,by simp,rfl,h⟩
 |k::r,0,v,ch,nd,h,_=>h.elim
 |k::r,n+1,v,ch,nd,h,⟨kl,vr⟩=>by
  rcases h with ⟨p,m,x,e,hp,c0,_⟩|⟨p,m,q,x,vs,e,hp,hq,l1,l2,c,hn,hc⟩
  ·omega
  ·obtain ⟨c',hk⟩:∃ c',vs[k]?=some c':=⟨_,Af (by omega)⟩
   obtain ⟨m',u,en,ap,hu⟩:=(hc k c' hk).at vr;exact ⟨m',u,by rw [AI];omega,⟨p,m,q,x,vs,c',e,hp,hq,hk,ap⟩,hu⟩
def Hd.tt {n:Nat}(h:Hd H n v ch nd):TT ch nd n:=by
 refine ⟨λp vp=>?_,λp vp c0=>?_,λp vp c1=>?_⟩
 ·obtain ⟨m,u,e,_,hu⟩:=h.at vp
  cases m with
  |zero=>exact hu.elim
  |succ m=>omega
 ·obtain ⟨m,u,e,_,hu⟩:=h.at vp
  cases m with
  |zero=>exact hu.elim
  |succ m=>
   rcases hu with ⟨_,_,_,_,_,_,d⟩|⟨_,_,_,_,vs,_,_,_,l1,_,c,_⟩
   ·have d':nd (p++[])=0:=d
    rwa [AL] at d'
   ·have:ch (p++[])=vs.length:=c
    rw [AL] at this;omega
 ·obtain ⟨m,u,e,_,hu⟩:=h.at vp
  cases m with
  |zero=>exact hu.elim
  |succ m=>
   rcases hu with ⟨_,_,_,_,_,c,d⟩|⟨_,_,_,_,vs,_,_,_,l1,_,c,hn,_⟩
   ·have:ch (p++[])=0:=c
    rw [AL] at this;omega
   ·have c':ch (p++[])=vs.length:=c
    rw [AL] at c';rw [c'];have:Nd ((Ay vs.length).map λk=>nd (p++[k])) (nd (p++[])):=hn;rwa [AL] at this
def En (H:Hp)(ch:List Nat->Nat)(nd:List Nat->Int)(N:Nat)(e:Addr)(ks:List Nat):Prop:=∃ (pa:Addr) (v:V) (n:Nat),H e=some (.tup [.ref pa,v])/\H pa=some (.tup (pth ks))/\Hd H n v (shf ks ch) (shf ks nd)/\ks.length+n=N
def bri (ch:List Nat->Nat)(N:Nat)(es:List (Addr×List Nat)):List (List Nat):=es.reverse.flatMap λe=>pre ch (N-e.2.length) e.2
theorem sQ {N:Nat}:bri ch N (es++[(e,ks)])=pre ch (N-ks.length) ks++bri ch N es:=by simp [bri]
theorem yL {N:Nat}{es fs:List (Addr×List Nat)}:bri ch N (es++fs)=bri ch N fs++bri ch N es:=by simp [bri]
def aBi {N n m:Nat}:∀ {fs:List (Addr×List Nat)} {j:Nat},ks.length+(n+1)=N->j+fs.length=m->fs.reverse.map (·.2)=(List.range' j fs.length).map (λk=>ks++[k])->bri ch N fs=(List.range' j fs.length).flatMap λk=>pre ch n (ks++[k]):=λ{fs j} hN hm h=>by
 unfold bri;have e1:(fs.reverse.flatMap λe=>pre ch (N-e.2.length) e.2)=(fs.reverse.map (·.2)).flatMap λq=>pre ch (N-q.length) q:=by rw [List.flatMap_map]
 rw [e1,h,List.flatMap_map]
 congr 1
 funext k
 have:N-(ks++[k]).length=n:=by simp;omega
 rw [this]
def cnt (g:List (List Nat))(q:List Nat):Nat:=(g.filter λp=>decide (p≠[]/\p.dropLast=q)).length
theorem iP {k:Nat}:cnt (g++[y++[k]]) q=cnt g q+if q=y then 1 else 0:=by
 unfold cnt;rw [CP,Aq,Bp]
 by_cases e:q=y
 ·rw [if_pos e,if_pos (by simp [e])]
  rfl
 ·rw [if_neg e,if_neg (by simp;exact λz=>e z.symm)]
  rfl
structure Rdy (ch:List Nat->Nat)(g:List (List Nat))(p:List Nat):Prop where
 ne:p≠[]
 no:p∉g
 kd:∀ k,k<ch p->p++[k]∈g
theorem TT.mem {N:Nat}(t:TT ch nd N)(v:Vp ch p):p∈pre ch N []:=by
 have:=vO (ch:=ch) (t:=p) (n:=N) (p:=[]) (by simpa using v) (t.deep p v)
 simpa using this
def aF8 :(hv ch g).length<=g.length:=by
 have:∀ (g:List (List Nat)) (k:List (List Key×V)),(g.foldl (hvS ch) k).length<=k.length+g.length:=λg=>by
  induction g with
  |nil=>intro k;simp
  |cons p g ih=>
   intro k;have h1:=ih (hvS ch k p);have h2:(hvS ch k p).length<=k.length+1:=by
    unfold hvS;refine Bh (eK ..) ?_;split
    ·omega
    ·have:=sI k (pk p)
     omega
   show (g.foldl (hvS ch) (hvS ch k p)).length<=k.length+(g.length+1);omega
 have:=this g []
 simpa [hv] using this
theorem aBf :cutV (pth ks) none (some (-1))=pth ks.dropLast:=by
 unfold cutV;rw [HT.sIx_none,List.drop_zero];have e:HT.sIx (pth ks).length (pth ks).length (some (-1))=ks.length-1:=by
  unfold HT.sIx;simp
  try omega
 rw [e,Nat.sub_zero,pth,pth,<- List.map_take,List.dropLast_eq_take]
def Hf (H:Hp):Nat->V->(List Nat->Nat)->(List Nat->Int)->Prop
 |0,_,_,_=>False
 |n+1,v,ch,nd=>(∃ s,Tr H (n+1) v s (nd []))/\((∃ (p m:Addr) (x:Str),v=.ref p/\H p=some (.tup [.str "ware",.str x,.ref m])/\ch []=0/\nd []=0) \/
  (∃ (p m q:Addr) (x:Str) (vs:List V),v=.ref p/\H p=some (.tup [.str "recipe",.str x,.ref m,.ref q])/\H q=some (.tup vs)/\1<=vs.length/\vs.length<64/\ch []=vs.length /\
   Nd ((Ay vs.length).map λk=>nd [k]) (nd [])/\∀ (k:Nat) c,vs[k]?=some c->Hf H n c (λr=>ch (k::r)) (λr=>nd (k::r))))
theorem Hf.hd :∀ {n:Nat} {v:V} {ch:List Nat->Nat} {nd:List Nat->Int},Hf H n v ch nd->Hd H n v ch nd
 |0,_,_,_,h=>h
 |n+1,v,ch,nd,h=>by
  rcases h.2 with h|⟨p,m,q,x,vs,e,hp,hq,l1,l2,c,hn,hc⟩
  ·exact .inl h
  ·exact .inr ⟨p,m,q,x,vs,e,hp,hq,l1,l2,c,hn,λk c hk=>(hc k c hk).hd⟩
theorem Hf.keep (t:Tk H H'):∀ {n:Nat} {v:V} {ch:List Nat->Nat} {nd:List Nat->Int},Hf H n v ch nd->Hf H' n v ch nd
 |0,_,_,_,h=>h
 |n+1,v,ch,nd,⟨⟨s,tr⟩,h⟩=>by
  refine ⟨⟨s,tr.keep t⟩,?_⟩
  rcases h with ⟨p,m,x,e,hp,r⟩|⟨p,m,q,x,vs,e,hp,hq,l1,l2,c,hn,hc⟩
  ·exact .inl ⟨p,m,x,e,t _ _ hp,r⟩
  ·exact .inr ⟨p,m,q,x,vs,e,t _ _ hp,t _ _ hq,l1,l2,c,hn,λk c hk=>(hc k c hk).keep t⟩
theorem Tr.hf :∀ {n:Nat} {v:V} {s:Nat} {d:Int},Tr H n v s d->∃ ch nd,Hf H n v ch nd/\nd []=d/\(pre ch n []).length=s
 |0,_,_,_,h=>h.elim
 |n+1,v,s,d,h=>by
  have h':=h
  rcases h with ⟨p,m,x,e,hp,am,rfl,rfl⟩|⟨p,m,q,x,cs,e,hp,hq,l1,l2,hc,rfl,hd,am⟩
  ·exact ⟨λ_=>0,λ_=>0,⟨⟨_,h'⟩,.inl ⟨p,m,x,e,hp,rfl,rfl⟩⟩,rfl,rfl⟩
  ·have ih:∀ k:Nat,∃ (chk:List Nat->Nat) (ndk:List Nat->Int),∀ c,cs[k]?=some c->Hf H n c.1 chk ndk/\ndk []=c.2.2/\(pre chk n []).length=c.2.1:=λk=>by
    cases ek:cs[k]? with
    |none=>exact ⟨λ_=>0,λ_=>0,λc h=>nomatch h⟩
    |some c=>
     obtain ⟨a,b,h1,h2,h3⟩:=Tr.hf (hc c (AJ ek));exact ⟨a,b,λc' h=>by cases h;exact ⟨h1,h2,h3⟩⟩
   have ih2:=λk=>Classical.choose_spec (ih k);have ih3:=λk=>Classical.choose_spec (ih2 k);generalize hf:(λk=>Classical.choose (ih k))=chf at ih2 ih3;generalize hg:(λk=>Classical.choose (ih2 k))=ndf at ih3;have ih4:∀ (k:Nat) c,cs[k]?=some c->Hf H n c.1 (chf k) (ndf k)/\ndf k []=c.2.2/\(pre (chf k) n []).length=c.2.1:=λk=>by
    have:=ih3 k;rw [<- hg];rw [<- hf];exact this
   refine ⟨λr=>match r with|[]=>cs.length|k::r=>chf k r,λr=>match r with|[]=>d|k::r=>ndf k r,⟨⟨_,h'⟩,.inr ⟨p,m,q,x,cs.map (·.1),e,hp,hq,by simpa using l1,by simpa using l2,by simp,?_,?_⟩⟩,rfl,?_⟩
   ·have e:((Ay (cs.map (·.1)).length).map λk=>ndf k [])=cs.map (·.2.2):=by
     apply Dh
     intro i;rw [Aj,Aj,Ac];cases ek:cs[i]? with
     |none=>
      rw [Bu (by simpa using DY.mp ek)];rfl
     |some c=>
      have hl:=(Ah.mp ek).1;rw [Af (by simpa using hl)];simp;exact (ih4 i c ek).2.1
    show Nd ((Ay (cs.map (·.1)).length).map λk=>ndf k []) d;rw [e];exact hd
   ·intro k c hk
    rw [Aj] at hk;cases ek:cs[k]? with
    |none=>rw [ek] at hk;cases hk
    |some c'=>
     rw [ek] at hk;cases hk;exact (ih4 k c' ek).1
   ·generalize ec:(λr:List Nat=>match r with|[]=>cs.length|k::r=>chf k r)=ch
    have e0:ch []=cs.length:=by rw [<- ec]
    have e1:∀ k,(λr=>ch (k::r))=chf k:=λk=>by rw [<- ec]
    show ([]::(Ay (ch [])).flatMap λk=>pre ch n [k]).length=_;rw [AI,iN,e0];have e:((Ay cs.length).map λk=>(pre ch n [k]).length)=cs.map (·.2.1):=by
     apply Dh
     intro i;rw [Aj,Aj];cases ek:cs[i]? with
     |none=>
      rw [Bu (by simpa using DY.mp ek)];rfl
     |some c=>
      have hl:=(Ah.mp ek).1;rw [Af (by simpa using hl)];simp;rw [eT,Ac,e1];exact (ih4 i c ek).2.2
    rw [e];unfold szs;omega
theorem Hf.at :∀ {p:List Nat} {n:Nat} {v:V} {ch:List Nat->Nat} {nd:List Nat->Int},Hf H n v ch nd->Vp ch p->∃ m u,n=p.length+m/\AtP H v p u/\Hf H m u (shf p ch) (shf p nd)
 |[],n,v,ch,nd,h,_=>⟨n,v,by simp,rfl,h⟩
 |k::r,0,v,ch,nd,h,_=>h.elim
 |k::r,n+1,v,ch,nd,h,⟨kl,vr⟩=>by
  rcases h.2 with ⟨p,m,x,e,hp,c0,_⟩|⟨p,m,q,x,vs,e,hp,hq,l1,l2,c,hn,hc⟩
  ·omega
  ·obtain ⟨c',hk⟩:∃ c',vs[k]?=some c':=⟨_,Af (by omega)⟩
   obtain ⟨m',u,en,ap,hu⟩:=(hc k c' hk).at vr;exact ⟨m',u,by rw [AI];omega,⟨p,m,q,x,vs,c',e,hp,hq,hk,ap⟩,hu⟩
def Nd.fst {d x:Int}(h:Nd ds d)(m:x∈ds):x<=d:=by
 obtain ⟨f,s,⟨r,p,sf,hr⟩,rfl⟩:=h;have:x∈f::s::r:=p.mem_iff.mp (AW _ m)
 rcases Aw.mp this with h|h
 ·omega
 ·rcases Aw.mp h with h|h
  ·omega
  ·have:=hr x h
   omega
theorem yG :∀ {l:List Int} {i j:Nat} {x y:Int},i<j->l[i]?=some x->l[j]?=some y->P x=true->P y=true->2<=l.countP P
 |[],_,_,_,_,_,h,_,_,_=>by simp at h
 |a::l,0,j+1,x,y,_,h1,h2,p1,p2=>by
  simp at h1;subst h1;rw [Eh,if_pos p1];have:y∈l:=AJ (by simpa using h2);have:=List.countP_pos_iff.mpr ⟨y,this,p2⟩;omega
 |a::l,i+1,j+1,x,y,hij,h1,h2,p1,p2=>by
  have:=yG (l:=l) (i:=i) (j:=j) (by omega) (by simpa using h1) (by simpa using h2) p1 p2;rw [Eh];omega
 |_,_,0,_,_,hij,_,_,_,_=>absurd hij (by omega)
def Nd.snd {d x y:Int}{i j:Nat}(h:Nd ds d)(ij:i≠j)(hi:ds[i]?=some x)(hj:ds[j]?=some y)(xy:y<=x):y+1<=d:=by
 obtain ⟨f,s,⟨r,p,sf,hr⟩,rfl⟩:=h
 by_cases c:s<y
 ·exfalso
  have h2:2<=ds.countP λz=>decide (s<z):=by
   rcases Nat.lt_or_ge i j with h|h
   ·exact yG h hi hj (by simp;omega) (by simp;omega)
   ·exact yG (show j<i by omega) hj hi (by simp;omega) (by simp;omega)
  have h3:(ds++[0,0]).countP (λz=>decide (s<z))<=1:=by
   rw [p.countP_eq,Eh,Eh];have z:r.countP (λz=>decide (s<z))=0:=by
    rw [List.countP_eq_zero];intro x hx;have:=hr x hx;simp;omega
   rw [z];have:decide (s<s)=false:=by simp
   rw [this]
   by_cases sf':s<f<;>simp [sf']
  rw [List.countP_append] at h3;omega
 ·omega
inductive Rp (R:Nat->List (Str×List Nat)->Prop)(p:List Nat):List Nat->List (Str×List Nat)->Prop where
 |nil:Rp R p [] []
 |snoc {os:List Nat} {g:List (Str×List Nat)} {k:Nat} {g':List (Str×List Nat)}:Rp R p os g->R k g'->Rp R p (os++[k]) (g++g'++[((if os=[] then "keep" else "join":Str),p++[k])])
def recs (ch:List Nat->Nat)(p:List Nat):List Nat:=(Ay (ch p)).filter λk=>decide (ch (p++[k])≠0)
def wars (ch:List Nat->Nat)(p:List Nat):List Nat:=(Ay (ch p)).filter λk=>decide (ch (p++[k])=0)
def ndO (nd:List Nat->Int)(p:List Nat)(i j:Nat):Prop:=nd (p++[j])<=nd (p++[i])/\i≠j
def Pl (ch:List Nat->Nat)(nd:List Nat->Int):Nat->List Nat->List (Str×List Nat)->Prop
 |0,_,_=>False
 |n+1,p,g=>∃ os r,os.Perm (recs ch p)/\os.Pairwise (ndO nd p)/\Rp (λk g'=>Pl ch nd n (p++[k]) g') p os r/\g=r++(wars ch p).map λk=>(("put":Str),p++[k])
def aF7 (g:List (List Nat)):((hv ch g).map (·.1)).Nodup:=by
 have put:∀ {kvs:List (List Key×V)} {k:List Key} {v:V},(kvs.map (·.1)).Nodup->((putK kvs k v).map (·.1)).Nodup:=λ{kvs k v} h=>by
  unfold putK;split
  ·have e:(kvs.map λkv=>if kv.1=k then (kv.1,v) else kv).map (·.1)=kvs.map (·.1):=by
    rw [Bw]
    apply Dk
    intro kv _;show (if kv.1=k then (kv.1,v) else kv).1=kv.1;split<;>rfl
   rw [e];exact h
  ·rename_i hn
   rw [Ax,DR];refine ⟨h,by simp,λa ha b hb e=>?_⟩;have:b=k:=by simpa using hb
   subst this e;obtain ⟨kv,hkv,rfl⟩:=AY.mp ha;exact hn (List.any_eq_true.mpr ⟨kv,hkv,by simp⟩)
 have all:∀ (g:List (List Nat)) (k:List (List Key×V)),(k.map (·.1)).Nodup->((g.foldl (hvS ch) k).map (·.1)).Nodup:=λg=>by
  induction g with
  |nil=>intro k h;exact h
  |cons p g ih=>
   intro k h;refine ih _ ?_;unfold hvS;refine put ?_;split
   ·exact h
   ·exact h.sublist (List.Sublist.map _ Ei)
 exact all g [] Cp
def xR (g:List (List Nat)):∃ qs:List (List Nat),(hv ch g).map (·.1)=qs.map pk:=by
 have:∀ l:List (List Key×V),(∀ kv∈l,∃ q,kv.1=pk q)->∃ qs:List (List Nat),l.map (·.1)=qs.map pk:=λl=>by
  induction l with
  |nil=>intro _;exact ⟨[],rfl⟩
  |cons a l ih=>
   intro h;obtain ⟨qs,e⟩:=ih λkv hk=>h kv (Au _ hk);obtain ⟨q,e2⟩:=h a (Az ..);exact ⟨q::qs,by rw [Bb,Bb,e,e2]⟩
 exact this _ (xS rfl)
theorem kT {ch:List Nat->Nat}{g:List (List Nat)}(l:Lg ch g){q:List Nat}:pk q∈(hv ch g).map (·.1)↔(∃ k,q++[k]∈g)/\q∉g:=by
 have at':=aHi rfl l q;constructor
 ·intro h
  obtain ⟨kv,hk,e⟩:=AY.mp h;have:=rV hk;rw [e,at'] at this
  by_cases z:(∃ k,q++[k]∈g)/\q∉g
  ·exact z
  ·rw [if_neg z] at this;cases this
 ·intro h
  rw [if_pos h] at at';obtain ⟨kv,hk,e⟩:=qX at';exact AY.mpr ⟨kv,hk,e⟩
def fE {ch:List Nat->Nat}{g:List (List Nat)}(l:Lg ch g){ks:List (List Nat)}(h:∀ q,(∃ k,q++[k]∈g)->q∉g->q∈ks):(hv ch g).length<=ks.length:=by
 have:=kP (aF7 (ch:=ch) g) (b:=ks.map pk) λx hx=>by
  obtain ⟨kv,hk,rfl⟩:=AY.mp hx;obtain ⟨q,e⟩:=xS rfl kv hk;have hm:pk q∈(hv ch g).map (·.1):=e▸hx;have:=(kT l).mp hm;rw [e];exact List.mem_map_of_mem (h q this.1 this.2)
 rw [Ac,Ac] at this;exact this
def WOk (ch:List Nat->Nat)(a:List (List Nat))(w:Str)(q:List Nat):Prop:=(ch q=0->w = "put")/\(ch q≠0->((∃ k,q.dropLast++[k]∈a)->w = "join")/\((¬ ∃ k,q.dropLast++[k]∈a)->w = "keep"))
theorem Lg.app :∀ {n:Nat} {a b:List (List Nat)},b.length=n->Lg ch a->Lg ch b->(∀ q∈b,q∉a)->Lg ch (a++b):=by
 intro n
 induction n with
 |zero=>
  intro a b e la _ _;have:b=[]:=Cc.mp e;subst this;rwa [AL]
 |succ n ih=>
  intro a b e la lb h;cases er:b.reverse with
  |nil=>
   have:b=[]:=BC.mp er;subst this;simp at e
  |cons x i=>
   have eb:b=i.reverse++[x]:=by have:=congrArg DA er;simpa using this
   generalize i.reverse=b' at eb;subst eb;obtain ⟨v,ne,no,kd⟩:=lb b' x [] rfl;rw [<- Bo];refine (ih (by simpa using e) la lb.init λq hq=>h q (AW _ hq)).snoc v ne (λm=>?_) λk hk=>AH _ (kd k hk)
   rcases Av.mp m with m|m
   ·exact h x (by simp) m
   ·exact no m
structure PlOk (ch:List Nat->Nat)(d:Int)(g:List (Str×List Nat))(Mm:List Nat->Prop):Prop where
 mem:∀ q,q∈g.map (·.2)↔Mm q
 lg:Lg ch (g.map (·.2))
 nar:∀ x,x <+: g.map (·.2)->((hv ch x).length:Int)<=d
 wo:∀ a w q b,g=a++(w,q)::b->WOk ch (a.map (·.2)) w q
def kI {α:Type}{g a b:List α}{x y:α}(e:g++[x]=a++y::b):(a=g/\y=x/\b=[])\/∃ b',b=b'++[x]/\g=a++y::b':=by
 cases er:b.reverse with
 |nil=>
  have:b=[]:=BC.mp er;subst this;have e1:=DC e rfl;have e2:=List.append_inj_right' e rfl;exact .inl ⟨e1.symm,by simpa using e2.symm,rfl⟩
 |cons z i=>
  have eb:b=i.reverse++[z]:=by have:=congrArg DA er;simpa using this
  subst eb;have e':g++[x]=(a++y::i.reverse)++[z]:=by rw [e];simp
  have e1:=DC e' rfl;have e2:x=z:=by simpa using List.append_inj_right' e' rfl
  exact .inr ⟨i.reverse,by rw [e2],e1⟩
def pre_app {α:Type}{x a b:List α}(h:x <+: a++b):x <+: a\/∃ y,x=a++y/\y <+: b:=by
 rcases Nat.le_total x.length a.length with l|l
 ·exact .inl (List.prefix_of_prefix_length_le h (Cv a b) l)
 ·obtain ⟨y,rfl⟩:=List.prefix_of_prefix_length_le (Cv a b) h l
  exact .inr ⟨y,rfl,(List.prefix_append_right_inj a).mp h⟩
def Vp.pfx :∀ {t:List Nat},Vp ch (p++t)->Vp ch p:=by
 intro t
 induction t generalizing p with
 |nil=>intro h;simpa using h
 |cons a t ih=>
  intro h;have e:p++a::t=(p++[a])++t:=by simp
  rw [e] at h;exact (Vp.app.mp (ih h)).1
def eJ {k j:Nat}(h:p++[k] <+: q++[j]):(q=p/\j=k)\/p++[k] <+: q:=by
 obtain ⟨t,ht⟩:=h;cases er:t.reverse with
 |nil=>
  have:t=[]:=BC.mp er;subst this;rw [AL] at ht;have e1:=DC ht rfl;have e2:k=j:=by simpa using List.append_inj_right' ht rfl
  exact .inl ⟨e1.symm,e2.symm⟩
 |cons z i=>
  have et:t=i.reverse++[z]:=by have:=congrArg DA er;simpa using this
  rw [et,<- Bo] at ht;exact .inr ⟨i.reverse,DC ht rfl⟩
def qO (h:q≠[]):q=q.dropLast++[q.getLast h]:=(EY h).symm
section
variable {ch:List Nat->Nat}{nd:List Nat->Int}{N:Nat}
def aD4 {k:Nat}(h:k<ch p):((Ay (ch p)).map λk=>nd (p++[k]))[k]?=some (nd (p++[k])):=by
 rw [Aj,Af (by simpa using h)];simp
def aFb (t:TT ch nd N){n:Nat}{p:List Nat}(vp:Vp ch p)(c1:1<=ch p)(ih:∀ k g,k<ch p->ch (p++[k])≠0->Pl ch nd n (p++[k]) g->PlOk ch (nd (p++[k])) g λq=>Vp ch q/\p++[k] <+: q/\q≠p++[k])
  {os:List Nat} {g:List (Str×List Nat)} (h:Rp (λk g'=>Pl ch nd n (p++[k]) g') p os g):(∀ k∈os,k<ch p/\ch (p++[k])≠0)->os.Pairwise (ndO nd p)->PlOk ch (nd p) g λq=>Vp ch q/\∃ k∈os,p++[k] <+: q:=by
 have need:=t.need p vp c1;have d1:=need.pos
 induction h with
 |nil=>
  intro _ _;refine ⟨λq=>by simp,Lg.nil,λx hx=>?_,λa w q b e=>by simp at e⟩;have:x=[]:=by simpa using hx
  subst this;show ((0:Nat):Int)<=_;omega
 |@snoc os g k g' hrp hk ihr=>
  intro hin hpw;rw [List.pairwise_append] at hpw;obtain ⟨pw1,_,pw2⟩:=hpw;have ok:=ihr (λj hj=>hin j (AW _ hj)) pw1;obtain ⟨kl,kc⟩:=hin k (by simp);have ok':=ih k g' kl kc hk;have vk:Vp ch (p++[k]):=Vp.app.mpr ⟨vp,kl⟩;have kos:k∉os:=λm=>by
   have:=pw2 k m k (by simp);unfold ndO at this;omega
  have apart:∀ q,p++[k] <+: q->q∉g.map (·.2):=λq hq m=>by
   obtain ⟨_,j,hj,hjq⟩:=(ok.mem q).mp m;exact kos (zQ hjq hq▸hj)
  have lg1:Lg ch (g.map (·.2)++g'.map (·.2)):=Lg.app rfl ok.lg ok'.lg λq hq=>apart q ((ok'.mem q).mp hq).2.1;have kids:∀ j,j<ch (p++[k])->p++[k]++[j]∈g'.map (·.2):=λj hj=>(ok'.mem _).mpr ⟨Vp.app.mpr ⟨vk,hj⟩,Cv ..,by simp⟩;have knot:p++[k]∉g.map (·.2)++g'.map (·.2):=λm=>by
   rcases Av.mp m with m|m
   ·exact apart _ Em m
   ·exact ((ok'.mem _).mp m).2.2 rfl
  have lg2:Lg ch (g.map (·.2)++g'.map (·.2)++[p++[k]]):=lg1.snoc vk (by simp) knot λj hj=>AH _ (kids j hj);have em:(g++g'++[((if os=[] then "keep" else "join":Str),p++[k])]).map (·.2)=g.map (·.2)++g'.map (·.2)++[p++[k]]:=by simp
  have mem:∀ q,q∈g.map (·.2)++g'.map (·.2)++[p++[k]]↔Vp ch q/\∃ j∈os++[k],p++[j] <+: q:=λq=>by
   rw [Av,Av,ok.mem,ok'.mem,Al];constructor
   ·rintro ((⟨v,j,hj,hq⟩|⟨v,hq,_⟩)|rfl)
    ·exact ⟨v,j,AW _ hj,hq⟩
    ·exact ⟨v,k,by simp,hq⟩
    ·exact ⟨vk,k,by simp,Em⟩
   ·rintro ⟨v,j,hj,hq⟩
    rcases Av.mp hj with hj|hj
    ·exact .inl (.inl ⟨v,j,hj,hq⟩)
    ·rw [Al.mp hj] at hq
     by_cases e:q=p++[k]
     ·exact .inr e
     ·exact .inl (.inr ⟨v,hq,e⟩)
  have up:∀ {y q},(∃ j,q++[j]∈g.map (·.2))->q∉g.map (·.2)++y->q=p/\os≠[]:=λ{y q} h hn=>by
   obtain ⟨j,hj⟩:=h;obtain ⟨v,i,hi,hq⟩:=(ok.mem _).mp hj
   rcases eJ hq with ⟨e,_⟩|hq'
   ·exact ⟨e,λz=>by rw [z] at hi;exact nomatch hi⟩
   ·exact absurd (AW _ ((ok.mem q).mpr ⟨(Vp.app.mp v).1,i,hi,hq'⟩)) hn
  have nk:(if os=[] then nd (p++[k]) else nd (p++[k])+1)<=nd p:=by
   split
   ·exact need.fst (AJ (aD4 kl))
   ·rename_i ne
    obtain ⟨i,hi⟩:=List.exists_mem_of_ne_nil os ne;have o:=pw2 i hi k (by simp);have il:=(hin i (AW _ hi)).1;refine need.snd (i:=i) (j:=k) (λe=>kos (e▸hi)) (aD4 il) (aD4 kl) ?_;unfold ndO at o;omega
  refine ⟨λq=>by rw [em];exact mem q,by rw [em];exact lg2,λx hx=>?_,λa w q b e=>?_⟩
  ·rw [em] at hx
   rcases pre_app hx with hx|⟨z,rfl,hz⟩
   ·rcases pre_app hx with hx|⟨y,rfl,hy⟩
    ·exact ok.nar x hx
    ·obtain ⟨qs,eqs⟩:=xR (ch:=ch) y
     have ly:Lg ch y:=ok'.lg.pre hy;have lgy:Lg ch (g.map (·.2)++y):=lg1.pre ((List.prefix_append_right_inj _).mpr hy);have b1:=ok'.nar y hy;have ql:qs.length=(hv ch y).length:=by have:=congrArg DB eqs;simpa using this.symm
     have inq:∀ q,(∃ j,q++[j]∈y)->q∉g.map (·.2)++y->q∈qs:=λq h1 h2=>by
      have:=(kT ly).mpr ⟨h1,λm=>h2 (AH _ m)⟩;rw [eqs] at this;obtain ⟨q',hq',e⟩:=AY.mp this;exact kM e▸hq'
     by_cases ne:os=[]
     ·rw [if_pos ne] at nk
      have:=fE lgy (ks:=qs) λq h1 h2=>by
       obtain ⟨j,hj⟩:=h1
       rcases Av.mp hj with hj|hj
       ·exact absurd ne (up ⟨j,hj⟩ h2).2
       ·exact inq q ⟨j,hj⟩ h2
      omega
     ·rw [if_neg ne] at nk
      have:=fE lgy (ks:=p::qs) λq h1 h2=>by
       obtain ⟨j,hj⟩:=h1
       rcases Av.mp hj with hj|hj
       ·rw [(up ⟨j,hj⟩ h2).1]
        exact Az ..
       ·exact Au _ (inq q ⟨j,hj⟩ h2)
      rw [AI] at this;omega
   ·have lgz:=lg2.pre hx
    have ez:z=[]\/z=[p++[k]]:=by
     cases z with
     |nil=>exact .inl rfl
     |cons u z=>
      have:=List.cons_prefix_cons.mp hz;have:z=[]:=by simpa using this.2
      exact .inr (by rw [this,‹u=p++[k]/\_›.1])
    have one:∀ {z},z=[p++[k]]->((hv ch (g.map (·.2)++g'.map (·.2)++z)).length:Int)<=nd p:=λ{z} e=>by
     subst e;have:=fE lg2 (ks:=[p]) λq h1 h2=>by
      obtain ⟨j,hj⟩:=h1;obtain ⟨v,i,hi,hq⟩:=(mem _).mp hj
      rcases eJ hq with ⟨e,_⟩|hq'
      ·rw [e];simp
      ·exact absurd ((mem q).mpr ⟨(Vp.app.mp v).1,i,hi,hq'⟩) h2
     have e1:[p].length=1:=rfl;omega
    rcases ez with rfl|rfl
    ·rw [AL] at lgz ⊢
     obtain ⟨qs,eqs⟩:=xR (ch:=ch) (g'.map (·.2));have b1:=ok'.nar _ Em;have ql:qs.length=(hv ch (g'.map (·.2))).length:=by have:=congrArg DB eqs;simpa using this.symm
     have inq:∀ q,(∃ j,q++[j]∈g'.map (·.2))->q∉g.map (·.2)++g'.map (·.2)->q∈qs:=λq h1 h2=>by
      have:=(kT ok'.lg).mpr ⟨h1,λm=>h2 (AH _ m)⟩;rw [eqs] at this;obtain ⟨q',hq',e⟩:=AY.mp this;exact kM e▸hq'
     by_cases ne:os=[]
     ·rw [if_pos ne] at nk
      have:=fE lgz (ks:=qs) λq h1 h2=>by
       obtain ⟨j,hj⟩:=h1
       rcases Av.mp hj with hj|hj
       ·exact absurd ne (up ⟨j,hj⟩ h2).2
       ·exact inq q ⟨j,hj⟩ h2
      omega
     ·rw [if_neg ne] at nk
      have:=fE lgz (ks:=p::qs) λq h1 h2=>by
       obtain ⟨j,hj⟩:=h1
       rcases Av.mp hj with hj|hj
       ·rw [(up ⟨j,hj⟩ h2).1]
        exact Az ..
       ·exact Au _ (inq q ⟨j,hj⟩ h2)
      rw [AI] at this;omega
    ·exact one rfl
  ·rcases kI e with ⟨rfl,e2,rfl⟩|⟨b',rfl,e2⟩
   ·cases e2
    refine ⟨λz=>absurd z kc,λ_=>⟨λ⟨j,hj⟩=>?_,λhn=>?_⟩⟩
    ·rw [CA,Ax] at hj
     rcases Av.mp hj with hj|hj
     ·obtain ⟨_,i,hi,_⟩:=(ok.mem _).mp hj
      rw [if_neg (λz=>by rw [z] at hi;exact nomatch hi)]
     ·have:=((ok'.mem _).mp hj).2.1
      have e3:=((ok'.mem _).mp hj).2.2
      rcases eJ this with ⟨_,e4⟩|h
      ·exact absurd (by rw [e4]) e3
      ·exact (vU h).elim
    ·rw [if_pos]
     by_cases z:os=[]
     ·exact z
     ·exfalso
      obtain ⟨i,hi⟩:=List.exists_mem_of_ne_nil os z;refine hn ⟨i,?_⟩;rw [CA,Ax];have il:=(hin i (AW _ hi)).1;exact AW _ ((ok.mem _).mpr ⟨Vp.app.mpr ⟨vp,il⟩,i,hi,Em⟩)
   ·rcases List.append_eq_append_iff.mp e2 with ⟨as,e3,e4⟩|⟨bs,e3,e4⟩
    ·-- within g'
     subst e3;have w:=ok'.wo as w q b' e4;have qm:q∈g'.map (·.2):=by rw [e4];simp
     have hq:=(ok'.mem q).mp qm;have qne:q≠[]:=ok'.lg.mem qm |>.2.1;have sib:(∃ j,q.dropLast++[j]∈(g++as).map (·.2))↔∃ j,q.dropLast++[j]∈as.map (·.2):=by
      constructor
      ·rintro ⟨j,hj⟩
       rw [Ax] at hj
       rcases Av.mp hj with hj|hj
       ·exfalso
        refine apart _ ?_ hj;have e5:=qO qne;have:=hq.2.1;rw [e5] at this
        rcases eJ this with ⟨e6,e7⟩|h
        ·exact absurd (by rw [e5,e6,e7]) hq.2.2
        ·exact h.trans (Cv ..)
       ·exact ⟨j,hj⟩
      ·rintro ⟨j,hj⟩
       exact ⟨j,by rw [Ax];exact AH _ hj⟩
     unfold WOk at w ⊢;rw [sib];exact w
    ·cases bs with
     |nil=>
      rw [AL] at e3;subst e3;have e4':g'=[]++(w,q)::b':=by simpa using e4.symm
      have w':=ok'.wo [] w q b' e4';have qm:q∈g'.map (·.2):=by rw [e4'];simp
      have hq:=(ok'.mem q).mp qm;have qne:q≠[]:=ok'.lg.mem qm |>.2.1;have sib:(∃ j,q.dropLast++[j]∈g.map (·.2))↔∃ j,q.dropLast++[j]∈([]:List (Str×List Nat)).map (·.2):=by
       constructor
       ·rintro ⟨j,hj⟩
        exfalso;refine apart _ ?_ hj;have e5:=qO qne;have:=hq.2.1;rw [e5] at this
        rcases eJ this with ⟨e6,e7⟩|h
        ·exact absurd (by rw [e5,e6,e7]) hq.2.2
        ·exact h.trans (Cv ..)
       ·rintro ⟨j,hj⟩
        simp at hj
      unfold WOk at w' ⊢;rw [sib];exact w'
     |cons y ys=>
      rw [List.cons_append] at e4;injection e4 with e5 e6;subst e5;exact ok.wo a w q ys e3
theorem aDd (t:TT ch nd N):∀ {n:Nat} {p:List Nat} {g:List (Str×List Nat)},Pl ch nd n p g->Vp ch p->1<=ch p->PlOk ch (nd p) g λq=>Vp ch q/\p <+: q/\q≠p
 |0,_,_,h,_,_=>h.elim
 |n+1,p,g,⟨os,r,pm,pw,rp,e⟩,vp,c1=>by
  have d1:=(t.need p vp c1).pos;have hin:∀ k∈os,k<ch p/\ch (p++[k])≠0:=λk hk=>by
   have:=Ba.mp (pm.mem_iff.mp hk);exact ⟨Bv.mp this.1,of_decide_eq_true this.2⟩
  have ok:=aFb t vp c1 (λk g hk hc h=>aDd t h (Vp.app.mpr ⟨vp,hk⟩) (by omega)) rp hin pw;have step:∀ ws:List Nat,ws.Nodup->(∀ k∈ws,k<ch p/\ch (p++[k])=0)->PlOk ch (nd p) (r++ws.map λk=>(("put":Str),p++[k])) λq=>Vp ch q/\∃ k,(k∈os\/k∈ws)/\p++[k] <+: q:=by
   intro ws;have:∀ n (ws:List Nat),ws.length=n->ws.Nodup->(∀ k∈ws,k<ch p/\ch (p++[k])=0)->PlOk ch (nd p) (r++ws.map λk=>(("put":Str),p++[k])) λq=>Vp ch q/\∃ k,(k∈os\/k∈ws)/\p++[k] <+: q:=by
    intro n
    induction n with
    |zero=>
     intro ws e _ _;have:ws=[]:=Cc.mp e;subst this;rw [List.map_nil,AL];refine ⟨λq=>?_,ok.lg,ok.nar,ok.wo⟩;rw [ok.mem];constructor
     ·rintro ⟨v,k,hk,hq⟩
      exact ⟨v,k,.inl hk,hq⟩
     ·rintro ⟨v,k,hk|hk,hq⟩
      ·exact ⟨v,k,hk,hq⟩
      ·exact nomatch hk
    |succ n ih=>
     intro ws e nd' hw;cases er:ws.reverse with
     |nil=>
      have:ws=[]:=BC.mp er;subst this;simp at e
     |cons k i=>
      have ew:ws=i.reverse++[k]:=by have:=congrArg DA er;simpa using this
      generalize i.reverse=ws' at ew;subst ew;rw [DR] at nd';have o:=ih ws' (by simpa using e) nd'.1 λj hj=>hw j (AW _ hj);obtain ⟨kl,kc⟩:=hw k (by simp);have kn:k∉ws':=λm=>nd'.2.2 k m k (by simp) rfl;have ko:k∉os:=λm=>(hin k m).2 kc;have vk:Vp ch (p++[k]):=Vp.app.mpr ⟨vp,kl⟩;have eg:r++(ws'++[k]).map (λk=>(("put":Str),p++[k]))=(r++ws'.map λk=>(("put":Str),p++[k]))++[(("put":Str),p++[k])]:=by simp
      rw [eg];generalize (r++ws'.map λk=>(("put":Str),p++[k]))=g1 at o;have em:(g1++[(("put":Str),p++[k])]).map (·.2)=g1.map (·.2)++[p++[k]]:=by simp
      have no:p++[k]∉g1.map (·.2):=λm=>by
       obtain ⟨_,j,hj,hq⟩:=(o.mem _).mp m
       rcases eJ hq with ⟨_,e⟩|h
       ·subst e
        exact hj.elim ko kn
       ·exact vU h
      have lg:Lg ch (g1.map (·.2)++[p++[k]]):=o.lg.snoc vk (by simp) no λj hj=>by omega
      have mem:∀ q,q∈g1.map (·.2)++[p++[k]]↔Vp ch q/\∃ j,(j∈os\/j∈ws'++[k])/\p++[j] <+: q:=λq=>by
       rw [Av,o.mem,Al];constructor
       ·rintro (⟨v,j,hj,hq⟩|rfl)
        ·exact ⟨v,j,hj.imp id λh=>AW _ h,hq⟩
        ·exact ⟨vk,k,.inr (by simp),Em⟩
       ·rintro ⟨v,j,hj,hq⟩
        rcases hj with hj|hj
        ·exact .inl ⟨v,j,.inl hj,hq⟩
        ·rcases Av.mp hj with hj|hj
         ·exact .inl ⟨v,j,.inr hj,hq⟩
         ·rw [Al.mp hj] at hq
          obtain ⟨t',rfl⟩:=hq;cases t' with
          |nil=>exact .inr (by simp)
          |cons a t'=>
           exfalso;have e1:p++[k]++a::t'=(p++[k]++[a])++t':=by simp
           rw [e1] at v;have:=(Vp.app.mp v.pfx).2;omega
      refine ⟨λq=>by rw [em];exact mem q,by rw [em];exact lg,λx hx=>?_,λa w q b e=>?_⟩
      ·rw [em] at hx
       rcases pre_app hx with hx|⟨z,rfl,hz⟩
       ·exact o.nar x hx
       ·cases z with
        |nil=>
         rw [AL];exact o.nar _ Em
        |cons u z=>
         have h1:=List.cons_prefix_cons.mp hz;have:z=[]:=by simpa using h1.2
         subst this;rw [h1.1];have:=fE lg (ks:=[p]) λq h1 h2=>by
          obtain ⟨j,hj⟩:=h1;obtain ⟨v,i,hi,hq⟩:=(mem _).mp hj
          rcases eJ hq with ⟨e,_⟩|hq'
          ·rw [e];simp
          ·exact absurd ((mem q).mpr ⟨(Vp.app.mp v).1,i,hi,hq'⟩) h2
         have e1:[p].length=1:=rfl;omega
      ·rcases kI e with ⟨rfl,e2,rfl⟩|⟨b',rfl,e2⟩
       ·cases e2
        exact ⟨λ_=>rfl,λz=>absurd kc z⟩
       ·exact o.wo a w q b' e2
   exact this _ ws rfl
  have fin:=step (wars ch p) (List.nodup_range.sublist Ei) λk hk=>by
   have:=Ba.mp hk;exact ⟨Bv.mp this.1,of_decide_eq_true this.2⟩
  rw [<- e] at fin;refine ⟨λq=>(fin.mem q).trans ?_,fin.lg,fin.nar,fin.wo⟩;constructor
  ·rintro ⟨v,k,_,hq⟩
   exact ⟨v,(Cv ..).trans hq,λe=>by subst e;exact vU hq⟩
  ·rintro ⟨v,⟨t',rfl⟩,hne⟩
   cases t' with
   |nil=>simp at hne
   |cons a t'=>
    have e1:p++a::t'=(p++[a])++t':=by simp
    refine ⟨v,a,?_,by rw [e1];exact Cv ..⟩;rw [e1] at v;have al:=(Vp.app.mp v.pfx).2
    by_cases c:ch (p++[a])=0
    ·exact .inr (Ba.mpr ⟨Bv.mpr al,decide_eq_true c⟩)
    ·exact .inl (pm.mem_iff.mpr (Ba.mpr ⟨Bv.mpr al,decide_eq_true c⟩))
end
def Rn (H:Hp)(W:List Str):Nat->V->Nat->Prop
 |0,_,_=>False
 |n+1,v,r=>(∃ (p m:Addr) (x:Str),v=.ref p/\H p=some (.tup [.str "ware",.str x,.ref m])/\r=0/\x∈W) \/
  (∃ (p m q:Addr) (x:Str) (cs:List (V×Nat)),v=.ref p/\H p=some (.tup [.str "recipe",.str x,.ref m,.ref q])/\H q=some (.tup (cs.map (·.1)))/\(∀ c∈cs,Rn H W n c.1 c.2)/\r=1+(cs.map (·.2)).sum)
theorem Rn.keep {H H':Hp}{W:List Str}(t:Tk H H'):∀ {n:Nat} {v:V} {r:Nat},Rn H W n v r->Rn H' W n v r
 |0,_,_,h=>h
 |n+1,v,r,h=>by
  rcases h with ⟨p,m,x,e,hp,z⟩|⟨p,m,q,x,cs,e,hp,hq,hc,z⟩
  ·exact .inl ⟨p,m,x,e,t _ _ hp,z⟩
  ·exact .inr ⟨p,m,q,x,cs,e,t _ _ hp,t _ _ hq,λc h=>Rn.keep t (hc c h),z⟩
theorem Rn.up {H:Hp}{W:List Str}:∀ {n m:Nat} {v:V} {r:Nat},n<=m->Rn H W n v r->Rn H W m v r
 |0,_,_,_,_,h=>h.elim
 |n+1,0,_,_,l,_=>absurd l (by omega)
 |n+1,m+1,v,r,l,h=>by
  rcases h with h|⟨p,a,q,x,cs,e,hp,hq,hc,z⟩
  ·exact .inl h
  ·exact .inr ⟨p,a,q,x,cs,e,hp,hq,λc h=>Rn.up (by omega) (hc c h),z⟩
def PileR (H:Hp)(W:List Str)(cs:List Int)(j:Nat)(pl:List Pt):Prop:=∃ rs:List (V×Nat),rs.map (·.1)=pl.map (·.1)/\(∀ c∈rs,Rn H W (nzc (cs.drop (cs.length-j))+1) c.1 c.2)/\(rs.map (·.2)).sum=nzc (cs.drop (cs.length-j))
theorem PileR.keep {H H':Hp}{W:List Str}{cs:List Int}{j:Nat}{pl:List Pt}(h:PileR H W cs j pl)(k:Tk H H'):PileR H' W cs j pl:=by
 obtain ⟨rs,e,h1,h2⟩:=h;exact ⟨rs,e,λc hc=>(h1 c hc).keep k,h2⟩
def PileR.nil {H:Hp}{W:List Str}{cs:List Int}:PileR H W cs 0 []:=⟨[],rfl,(λ_ h=>nomatch h),by rw [Nat.sub_zero,Eg];rfl⟩
def PileR.ware {H:Hp}{W:List Str}{cs:List Int}{j k s:Nat}{d:Int}{pl:List Pt}{z m:Addr}{x:Str}(h:PileR H W cs j pl)(hj:cs.length=k+1+j)(hc:cs[k]?=some 0)(hz:H z=some (.tup [.str "ware",.str x,.ref m]))(hx:x∈W):PileR H W cs (j+1) (pl++[(.ref z,s,d)]):=by
 have e1:cs.length-(j+1)=k:=by omega
 have e2:cs.length-j=k+1:=by omega
 obtain ⟨rs,e,h1,h2⟩:=h;refine ⟨rs++[(.ref z,0)],by rw [Ax,Ax,e];rfl,λc hc'=>?_,?_⟩
 ·rw [e1,eM hc,iM]
  rw [e2] at h1
  rcases Av.mp hc' with h|h
  ·exact h1 c h
  ·rw [Al.mp h]
   exact .inl ⟨z,m,x,rfl,hz,rfl,hx⟩
 ·rw [e1,eM hc,iM,Ax,List.sum_append,h2,e2]
  simp
def PileR.recipe {H:Hp}{W:List Str}{cs:List Int}{j k s:Nat}{c d:Int}{r u:List Pt}{z m q:Addr}{x:Str}(h:PileR H W cs j (r++u.reverse))(hj:cs.length=k+1+j)(hc:cs[k]?=some c)(c0:c≠0)(hz:H z=some (.tup [.str "recipe",.str x,.ref m,.ref q]))(hq:H q=some (.tup (u.map (·.1)))):PileR H W cs (j+1) (r++[(.ref z,s,d)]):=by
 have e1:cs.length-(j+1)=k:=by omega
 have e2:cs.length-j=k+1:=by omega
 obtain ⟨rs,e,h1,h2⟩:=h;rw [Ax] at e;obtain ⟨ra,rb,rfl,ea,eb⟩:=List.map_eq_append_iff.mp e;have eu:(rb.reverse.map (·.1))=u.map (·.1):=by rw [EI,eb,EI,List.reverse_reverse]
 rw [Ax,List.sum_append] at h2;refine ⟨ra++[(.ref z,1+(rb.map (·.2)).sum)],by rw [Ax,Ax,ea];rfl,λc' hc'=>?_,?_⟩
 ·rw [e1,eM hc,rS _ c0]
  rw [e2] at h1
  rcases Av.mp hc' with h|h
  ·exact (h1 c' (AW _ h)).up (by omega)
  ·rw [Al.mp h]
   exact .inr ⟨z,m,q,x,rb.reverse,rfl,hz,by rw [eu];exact hq,λb hb=>h1 b (AH _ (List.mem_reverse.mp hb)),by rw [EI,List.sum_reverse]⟩
 ·rw [e1,eM hc,rS _ c0,Ax,List.sum_append]
  rw [e2] at h2;simp;omega
def PileR.last {H:Hp}{W:List Str}{cs:List Int}{pl:List Pt}{q:Pt}(h:PileR H W cs cs.length (pl++[q]))(nz:nzc cs<=61):∃ r,Rn H W 62 q.1 r/\r<=61:=by
 obtain ⟨rs,e,h1,h2⟩:=h;rw [Nat.sub_self,List.drop_zero] at h1 h2;rw [Ax] at e;obtain ⟨ra,rb,rfl,ea,eb⟩:=List.map_eq_append_iff.mp e
 match rb,eb with
 |[b],eb=>
  have eb':b.1=q.1:=by simpa using eb
  refine ⟨b.2,eb'▸(h1 b (by simp)).up (by omega),?_⟩;rw [Ax,List.sum_append] at h2;simp at h2;omega
 |[],eb=>simp at eb
 |_::_::_,eb=>simp at eb
def rps (ch:List Nat->Nat)(n:Nat):List (List Nat):=(pre ch n []).filter λp=>decide (ch p≠0)
theorem zG {ch:List Nat->Nat}{n:Nat}:(rps ch (n+1)).length=(if ch []≠0 then 1 else 0)+((Ay (ch [])).map λk=>(rps (λr=>ch (k::r)) n).length).sum:=by
 show _=_+((Ay (ch [])).map λk=>((pre (λr=>ch (k::r)) n []).filter λp=>decide (ch (k::p)≠0)).length).sum;unfold rps;show (([]::(Ay (ch [])).flatMap λk=>pre ch n [k]).filter _).length=_;rw [Bp,List.filter_flatMap];have e:∀ l:List Nat,(l.flatMap λk=>(pre ch n [k]).filter λp=>decide (ch p≠0)).length=(l.map λk=>((pre (λr=>ch (k::r)) n []).filter λp=>decide (ch (k::p)≠0)).length).sum:=λl=>by
  rw [iN]
  congr 1
  apply Dk
  intro k _;rw [eT,List.filter_map,Ac];rfl
 split
 ·rename_i h
  rw [if_pos (by simpa using h),AI,e];omega
 ·rename_i h
  rw [if_neg (by simpa using h),e];omega
theorem Rn.count {H:Hp}{W:List Str}:∀ {n:Nat} {v:V} {ch:List Nat->Nat} {nd:List Nat->Int} {r:Nat},Hd H n v ch nd->Rn H W n v r->(rps ch n).length=r
 |0,_,_,_,_,h,_=>h.elim
 |n+1,v,ch,nd,r,h,hr=>by
  rw [zG]
  rcases h with ⟨p,m,x,e,hp,c0,_⟩|⟨p,m,q,x,vs,e,hp,hq,l1,l2,cl,hn,hc⟩
  ·rcases hr with ⟨p',m',x',e',hp',rfl,_⟩|⟨p',m',q',x',cs,e',hp',hq',hc',rfl⟩
   ·rw [c0];rfl
   ·rw [e] at e';cases e'
    rw [hp] at hp';cases hp'
  ·rcases hr with ⟨p',m',x',e',hp',rfl,_⟩|⟨p',m',q',x',cs,e',hp',hq',hc',rfl⟩
   ·rw [e] at e';cases e'
    rw [hp] at hp';cases hp'
   ·rw [e] at e';cases e'
    rw [hp] at hp';cases hp';rw [hq] at hq';have ev:vs=cs.map (·.1):=by injection hq' with z;injection z
    subst ev;rw [Ac] at cl l1;rw [if_pos (by omega),cl]
    congr 2
    apply Dh
    intro i;rw [Aj,Aj];cases ek:cs[i]? with
    |none=>
     rw [Bu (by simpa using DY.mp ek)];rfl
    |some c=>
     have hl:=(Ah.mp ek).1;rw [Af (by simpa using hl)];simp;exact Rn.count (hc i c.1 (by rw [Aj,ek];rfl)) (hc' c (AJ ek))
def aC4 {ch:List Nat->Nat}{nd:List Nat->Int}{N:Nat}(t:TT ch nd N){ps:List (List Nat)}(n:ps.Nodup)(h:∀ p∈ps,Vp ch p/\ch p≠0):ps.length<=(rps ch N).length:=kP n λp hp=>Ba.mpr ⟨t.mem (h p hp).1,by simpa using (h p hp).2⟩
def Hn (H:Hp):Nat->V->(List Nat->Nat)->(List Nat->Str)->Prop
 |0,_,_,_=>False
 |n+1,v,ch,nm=>(∃ (p m:Addr) (x:Str),v=.ref p/\H p=some (.tup [.str "ware",.str x,.ref m])/\ch []=0/\nm []=x) \/
  (∃ (p m q:Addr) (x:Str) (vs:List V),v=.ref p/\H p=some (.tup [.str "recipe",.str x,.ref m,.ref q])/\H q=some (.tup vs)/\1<=vs.length/\vs.length<64/\ch []=vs.length /\
   True/\∀ (k:Nat) c,vs[k]?=some c->Hn H n c (λr=>ch (k::r)) (λr=>nm (k::r)))
theorem Hn.keep {H H':Hp}(t:Tk H H'):∀ {n:Nat} {v:V} {ch:List Nat->Nat} {nm:List Nat->Str},Hn H n v ch nm->Hn H' n v ch nm
 |0,_,_,_,h=>h
 |n+1,v,ch,nm,h=>by
  rcases h with ⟨p,m,x,e,hp,r⟩|⟨p,m,q,x,vs,e,hp,hq,l1,l2,c,hn,hc⟩
  ·exact .inl ⟨p,m,x,e,t _ _ hp,r⟩
  ·exact .inr ⟨p,m,q,x,vs,e,t _ _ hp,t _ _ hq,l1,l2,c,hn,λk c hk=>(hc k c hk).keep t⟩
theorem Hd.hn {H:Hp}:∀ {n:Nat} {v:V} {ch:List Nat->Nat} {nd:List Nat->Int},Hd H n v ch nd->∃ nm,Hn H n v ch nm
 |0,_,_,_,h=>h.elim
 |n+1,v,ch,nd,h=>by
  rcases h with ⟨p,m,x,e,hp,c0,_⟩|⟨p,m,q,x,vs,e,hp,hq,l1,l2,c,hn,hc⟩
  ·exact ⟨λ_=>x,.inl ⟨p,m,x,e,hp,c0,rfl⟩⟩
  ·have ih:∀ k:Nat,∃ nm:List Nat->Str,∀ c,vs[k]?=some c->Hn H n c (λr=>ch (k::r)) nm:=λk=>by
    cases ek:vs[k]? with
    |none=>exact ⟨λ_=>"",λc h=>nomatch h⟩
    |some c=>
     obtain ⟨nm,h⟩:=Hd.hn (hc k c ek);exact ⟨nm,λc' h'=>by cases h';exact h⟩
   obtain ⟨f,ih2⟩:=Classical.axiomOfChoice ih;exact ⟨λr=>match r with|[]=>"" | k::r=>f k r,.inr ⟨p,m,q,x,vs,e,hp,hq,l1,l2,c,trivial,λk c hk=>ih2 k c hk⟩⟩
def lvs:Nat->(List Nat->Nat)->(List Nat->Str)->List Str
 |0,_,_=>[]
 |n+1,ch,nm=>if ch []=0 then [nm []] else (Ay (ch [])).flatMap λk=>lvs n (λr=>ch (k::r)) (λr=>nm (k::r))
theorem qG:∀ {n:Nat} {ch:List Nat->Nat} {nm:List Nat->Str},lvs n ch nm=((pre ch n []).filter λp=>decide (ch p=0)).map nm
 |0,_,_=>rfl
 |n+1,ch,nm=>by
  show (if ch []=0 then _ else _)=(([]::(Ay (ch [])).flatMap λk=>pre ch n [k]).filter _).map nm
  by_cases c0:ch []=0
  ·rw [if_pos c0,c0,Bp,if_pos (by simpa using c0)]
   rfl
  ·rw [if_neg c0,Bp,if_neg (by simpa using c0),List.filter_flatMap,List.map_flatMap]
   congr 1
   funext k
   rw [qG,eT,List.filter_map,Bw];rfl
def qH {n:Nat}{ch:List Nat->Nat}{nm:List Nat->Str}:(lvs n ch nm).length<=(pre ch n []).length:=by
 rw [qG,Ac];exact BM _ _
theorem Rn.names {H:Hp}{W:List Str}:∀ {n:Nat} {v:V} {ch:List Nat->Nat} {nm:List Nat->Str} {r:Nat},Hn H n v ch nm->Rn H W n v r->∀ x∈lvs n ch nm,x∈W
 |0,_,_,_,_,h,_=>h.elim
 |n+1,v,ch,nm,r,h,hr=>by
  intro y hy
  rcases h with ⟨p,m,x,e,hp,c0,ex⟩|⟨p,m,q,x,vs,e,hp,hq,l1,l2,cl,hn,hc⟩
  ·rcases hr with ⟨p',m',x',e',hp',_,hx⟩|⟨p',m',q',x',cs,e',hp',hq',hc',_⟩
   ·rw [e] at e';cases e'
    rw [hp] at hp';cases hp';have e:lvs (n+1) ch nm=[x]:=by
     show (if ch []=0 then _ else _)=_;rw [if_pos c0,ex]
    rw [e] at hy;rw [Al.mp hy];exact hx
   ·rw [e] at e';cases e'
    rw [hp] at hp';cases hp'
  ·rcases hr with ⟨p',m',x',e',hp',_,hx⟩|⟨p',m',q',x',cs,e',hp',hq',hc',_⟩
   ·rw [e] at e';cases e'
    rw [hp] at hp';cases hp'
   ·rw [e] at e';cases e'
    rw [hp] at hp';cases hp';rw [hq] at hq';have ev:vs=cs.map (·.1):=by injection hq' with z;injection z
    subst ev;have e:lvs (n+1) ch nm=(Ay (ch [])).flatMap λk=>lvs n (λr=>ch (k::r)) (λr=>nm (k::r)):=by
     show (if ch []=0 then _ else _)=_;rw [if_neg (by omega)]
    rw [e] at hy;obtain ⟨k,hk,hy⟩:=List.mem_flatMap.mp hy;have kl:k<cs.length:=by
     have:=Bv.mp hk;rw [cl,Ac] at this;exact this
    have g:cs[k]?=some cs[k]:=Af kl;exact Rn.names (hc k cs[k].1 (by rw [Aj,g];rfl)) (hc' _ (EJ kl)) y hy
def EnN (H:Hp)(ch:List Nat->Nat)(nm:List Nat->Str)(N:Nat)(e:Addr)(ks:List Nat):Prop:=∃ (pa:Addr) (v:V) (n:Nat),H e=some (.tup [.ref pa,v])/\H pa=some (.tup (pth ks))/\Hn H n v (shf ks ch) (shf ks nm)/\ks.length+n=N
theorem EnN.keep {H H':Hp}{ch:List Nat->Nat}{nm:List Nat->Str}{N:Nat}{e:Addr}{ks:List Nat}(h:EnN H ch nm N e ks)(t:Tk H H'):EnN H' ch nm N e ks:=by
 obtain ⟨pa,v,n,h1,h2,h3,h4⟩:=h;exact ⟨pa,v,n,t _ _ h1,t _ _ h2,h3.keep t,h4⟩
end TR
namespace K45
open PySem PySem.Spec PyProof.Rows L2 GM TM TR
def iC {a:Addr}{H H':Hp}(s:SmB a H H')(l:Lf H a):Tk H H':=by
 obtain ⟨n,e,_⟩:=l;exact Bx.tk s e
def pO:Sp:=λvs H Q _=>∃ (a ws c:Addr) (wr:List Str) (cs:List Int),vs=[.ref a,.ref ws,.ref c]/\Lf H a/\H ws=some (.lst (wr.map V.str))/\wr.length=6/\H c=some (.lst (cs.map V.int))/\ws≠a/\c≠a/\Cts cs /\
 ∀ v n d H',SmB a H H'->Tr H' 62 v n d->n<=100->1<=d->(∃ r,Rn H' wr 62 v r/\r<=61)->Q v H'
def uY (K:Ab):Sp:=λvs H Q _=>∃ (a ws c:Addr) (ns:List Int) (wr:List Str) (cs:List Int),vs=[.ref a,.ref ws,.ref c]/\SqL K H a (ns.map V.int)/\H ws=some (.lst (wr.map V.str))/\wr.length=6/\H c=some (.lst (cs.map V.int))/\Cts cs /\
 ∀ v n d H',Same H H'->Tr H' 62 v n d->n<=100->1<=d->(∃ r,Rn H' wr 62 v r/\r<=61)->Q v H'
def rK {H:Hp}{wr:List Str}{cs:List Int}{pl:List Pt}(h:Pile H cs cs.length pl)(hr:PileR H wr cs cs.length pl)(ct:Cts cs):∃ (v:Pt) (d:Int),Tr H 62 v.1 v.2.1 d/\v.2.1<=100/\1<=d/\atI (pl.map (·.1)) (-1)=some v.1/\∃ r,Rn H wr 62 v.1 r/\r<=61:=by
 obtain ⟨c0,hc0,c1⟩:=ct.hd;have l1:1<=cs.length:=(Ah.mp hc0).1;obtain ⟨pl',q,rfl,hq⟩:=h.hd l1;have d1:=hq c0 (by rw [Nat.sub_self];exact hc0) c1;have sz:=h.sz;have:=aCr (cs:=pl'++[q]) (c:=q) (by simp);have:=ct.ln;have nz:=ct.nz;have tq:=h.tr q (by simp);rw [Nat.sub_self,List.drop_zero] at tq;exact ⟨q,q.2.2,tq.up (by omega),by omega,d1,by rw [Ax];exact mK _ _,hr.last (by omega)⟩
section
variable {P:AF}{w:World}{K:Ab}{mg:Str->Option Value}{base:Heap}
def ndKP:(["_law_k","_law_pile"]:List Str).Nodup:=by decide +kernel
def dJ:FnScope ["_law_left","_law_wares_here","_law_counts_here","_law_letters","_law_pile","_law_place","_law_ware","_law_top","_law_parts","_law_word","_law_j","_law_tail"] ["_law_left","_law_wares_here","_law_counts_here"] (aJ sFreeR):=fnScOk (by decide +kernel)
def aAp {f:Addr}{fd:AM}(F:Fun K "_law_free_root" "_law_free_root" sFreeR f fd)(T:Txt mg)(cD:Cal P w K mg base CX0 3 "_law_digit" ["_law_left","_law_many"] fJ)(cL:Cal P w K mg base CX0 3 "_law_lowest" ["_law_top","_law_bottom"] eD)
  (cT:Cal P w K mg base CX0 3 "_law_total" ["_law_parts"] lH):FnOk P w K mg base CX0 4 f fd ["_law_left","_law_wares_here","_law_counts_here"] pO:=by
 refine F.ok dJ (λvs H Q E h=>?_) (λcdv A outer s H vs Q E hr h=>?_)
 ·obtain ⟨_,_,_,_,_,rfl,_⟩:=h
  rfl
 ·obtain ⟨a,ws,c,wr,cs,rfl,lf,hws,w6,hcs,wa,ca,ct,k⟩:=h
  refine ⟨_,(aD (aK (i:=3) dJ.nd rfl (Or.inl rfl) bD)
   (aD (aK (i:=4) dJ.nd rfl (Or.inr rfl) (bC aC))
   (aD (bP AQ rfl (vS rfl T.rev' rfl T.range (aA (aQ bA rfl T.len BA (aA (pv 2) aC)) aC)) (aR (i:=5) dJ.nd rfl (Or.inl rfl))
    (aH (bK (aM cV (bE aW (pv 2) (pv 5) (λ_ _=>rfl)) aG (aV _))
    (aD (aK (i:=6) dJ.nd rfl (Or.inl rfl) (bE aW (pv 1) (aL cD hr rfl aS (aA (pv 0) (aA aG aC))) (λ_ _=>rfl)))
   (aD (aK (i:=7) dJ.nd rfl (Or.inl rfl) (aN bF aG (aL cD hr rfl aS (aA (pv 0) (aA aG aC)))))
   (aH (bB (cO Ak AB AA aX (pv 4) (aA (aT (aA bD (aA (pv 6) (aA (aL cL hr rfl aS (aA (pv 7) (aA (aN bF aG (aL cD hr rfl aS (aA (pv 0) (aA aG aC)))) aC))) aC)))) aC))))))
    (aD (aK (i:=8) dJ.nd rfl (Or.inl rfl) (bY cE rfl T.tup' eN (aA
     (fB (N':=["_law_k","_law_pile"]) (λσ=>[none,some 4].map λt=>t.bind λj=>(σ[j]?).join) rfl rfl (by decide +kernel) (by decide +kernel)
      (tZ (sc:=aJ sFreeR) rfl (by decide +kernel)) (λ_ _ _=>gR (sc:=aJ sFreeR) (N:=["_law_left","_law_wares_here","_law_counts_here","_law_letters","_law_pile","_law_place","_law_ware","_law_top","_law_parts","_law_word","_law_j","_law_tail"]) [none,some 4] rfl rfl rfl rfl (by decide +kernel))
      (bT rfl T.range (aA (bE aW (pv 2) (pv 5) (λ_ _=>rfl)) aC)) (λ_ _ _ _ _ _=>aR (i:=0) ndKP rfl (Or.inl rfl)) (λ_ _ _ _ _ _=>fA)
      (λ_ _ _ _ _ _=>vX (K:=K) rfl Ak CG CF nO (pv 1))) aC)))
   (aD (aK (i:=9) dJ.nd rfl (Or.inl rfl) bD)
   (aD (bP AQ rfl (bT rfl T.range (aA (aN bF aG (aL cD hr rfl aS (aA (pv 0) (aA aG aC)))) aC)) (aR (i:=10) dJ.nd rfl (Or.inl rfl))
    (aH (aK (i:=9) dJ.nd rfl (Or.inl rfl) (aN dA (pv 9) (bE oA (pv 3) (aL cD hr rfl aS (aA (pv 0) (aA aG aC))) (λ_ _=>rfl))))))
   (aD (bP AQ rfl (aBu bD) (aR (i:=11) dJ.nd rfl (Or.inl rfl))
    (aH (bK (aM dH (pv 9) (pv 1) rfl)
    (aH (aK (i:=9) dJ.nd rfl (Or.inl rfl) (aN dA bD (pv 11))))
    aY)))
   (aH (bB (cO Ak AB AA aX (pv 4) (aA (aT (aA bD (aA (pv 9) (aA (aL cT hr rfl aS (aA (pv 8) aC)) (aA (pv 8) aC))))) aC)))))))))))
   (aH (aU (bE aW (pv 4) (fY dO aG) (λ_ _=>rfl))))))),?_⟩
  refine cut4 ?_
  intros
  have zL:LET.length<=AE:=by decide +kernel
  refine ⟨zLn0,λPl nP=>?_⟩;have Pa:Pl≠a:=lf.there nP;have cP:c≠Pl:=λe=>by rw [e,nP] at hcs;cases hcs
  refine ⟨_,rfl,c,_,rfl,.inl (SqL.of (by rw [aE cP];exact hcs)),_,rfl,by omega,?_,?_⟩
  ·rw [Ac]
   have:=ct.ln;omega
  rw [Ac,Bz];have cl:=ct.ln;refine gO (λj σ H'=>∃ (pl:List Pt) (v5 v6 v7 v8 v9 v10 v11:Option V),σ=[some (.ref a),some (.ref ws),some (.ref c),some (.str LET),some (.ref Pl),v5,v6,v7,v8,v9,v10,v11]/\SmB a H H'/\Lf H' a/\H' Pl=some (.lst (pl.map (·.1)))/\Pile H' cs j pl/\PileR H' wr cs j pl)
   ⟨[],none,none,none,none,none,none,none,rfl,SmB.refl.own nP,lf.own Pa,aB,Pile.nil,PileR.nil⟩ ?_ ?_
  ·rintro j σ H1 hj ⟨pl,v5,v6,v7,v8,v9,v10,v11,rfl,sb,lf1,hP,pi,pr⟩
   obtain ⟨kk,hk⟩:∃ kk,cs.length=kk+1+j:=⟨cs.length-1-j,by omega⟩;have ek:(cs.length:Int)-1+(j:Nat) * -1=(kk:Int):=by omega
   rw [ek];obtain ⟨cnt,hcnt⟩:∃ x,cs[kk]?=some x:=⟨_,Af (by omega)⟩;have hat:atI (cs.map V.int) (kk:Int)=some (.int cnt):=aZ (by rw [Aj,hcnt];rfl);have hc1:=sb _ _ ca hcs;refine ⟨_,rfl,_,rfl,c,_,(kk:Int),.int cnt,rfl,rfl,SqL.of hc1,hat,rfl,_,rfl,ite2 (λh0=>?_) (λh0=>?_)⟩
   ·have ec:cnt=0:=by simpa [eqV] using h0
    subst ec;refine ⟨_,rfl,_,rfl,a,6,rfl,lf1,by decide,b9,λd H2 d0 dl s2 lf2=>?_⟩;obtain ⟨dn,rfl⟩:=Bc d0;obtain ⟨x,hx⟩:∃ x,wr[dn]?=some x:=⟨_,Af (by omega)⟩;have sb2:=sb.trans s2;refine ⟨ws,_,(dn:Int),.str x,rfl,rfl,SqL.of (sb2 _ _ wa hws),aZ (by rw [Aj,hx];rfl),?_⟩;refine ⟨_,rfl,a,1000,rfl,lf2,by decide,b9,λd2 H3 d20 d2l s3 lf3=>⟨_,_,rfl,rfl,?_⟩⟩;have sb3:=sb2.trans s3;have hP3:=s3 _ _ Pa (s2 _ _ Pa hP);refine ⟨_,rfl,.inl ⟨rfl,_,SqL.of hP3⟩,_,rfl,_,rfl,_,rfl,a,100,rfl,lf3,by decide,b9,λd3 H4 d30 d3l s4 lf4=>⟨_,_,rfl,rfl,?_⟩⟩;have sb4:=sb3.trans s4;have hP4:=s4 _ _ Pa hP3;refine ⟨_,_,rfl,by omega,by omega,b9 (by omega) (by omega),λm H5 s5 nm hm=>?_⟩;have lf5:=lf4.keep s5;have hP5:=s5 _ _ hP4;have rm:=rW (t:=1+d2) (b:=1+d3) (by omega) (by omega) (cG 63 (c:=2000) (by omega) (by omega)) (cG 63 (c:=2000) (by omega) (by omega));refine ⟨zLn3,λz hz=>?_⟩;have zP:Pl≠z:=λe=>by rw [<- e,hP5] at hz;cases hz
    have za:z≠a:=lf5.there hz;refine ⟨Pl,_,_,rfl,rfl,(by rw [aE zP];exact hP5),aP (by rw [Ac];have:=pi.sz;have:=jM pi.tr;omega),?_⟩;have nz:H z=none:=sb4.none (bQ s5 hz) za;have tk:Tk H1 (upd (upd H5 z (.tup [.str "ware",.str x,.ref m])) Pl (.lst (pl.map (·.1)++[.ref z]))):=
     (iC s2 lf1).trans ((iC s3 lf2).trans ((iC s4 lf3).trans (s5.tk.trans ((Same.upd hz).tk.trans (Tk.lst (by rw [aE zP];exact hP5))))))
    have hzz:upd (upd H5 z (.tup [.str "ware",.str x,.ref m])) Pl (.lst (pl.map (·.1)++[.ref z])) z=some (.tup [.str "ware",.str x,.ref m]):=by rw [aE zP.symm];exact aB
    have tr:Tr (upd (upd H5 z (.tup [.str "ware",.str x,.ref m])) Pl (.lst (pl.map (·.1)++[.ref z]))) 1 (.ref z) 1 0:=by
     refine .inl ⟨z,m,x,rfl,hzz,⟨_,_,?_,Int.le_trans (by decide) rm.t1,rm.b1,rm.st,rm.sb⟩,rfl,rfl⟩;have mP:m≠Pl:=λe=>by rw [e,hP5] at hm;cases hm
     have mz:m≠z:=λe=>by rw [e,hz] at hm;cases hm
     rw [aE mP,aE mz];exact hm
    refine ⟨pl++[(.ref z,1,0)],_,_,_,_,_,_,_,rfl,?_,?_,?_,(pi.keep tk).ware hk hcnt tr,(pr.keep tk).ware hk hcnt hzz (AJ hx)⟩
    ·exact ((sb4.trans (SmB.of s5)).own nz).own nP
    ·exact (lf5.own za).own Pa
    ·rw [Ax]
     exact aB
   ·have ec:cnt≠0:=by simpa [eqV] using h0
    obtain ⟨r,u,rfl,ul,u64⟩:=pi.split ct.ok hk hcnt;subst ul;have sz:=pi.sz;rw [cY,pD] at sz;refine ⟨_,rfl,_,rfl,c,_,(kk:Int),.int (u.length:Int),rfl,rfl,SqL.of hc1,hat,_,rfl,by omega,by omega,?_⟩;rw [Bz,<- Ac (f:=λx:Pt=>x.1) (as:=u)];refine λD hD=>?_;refine sN (K:=K) (Pl:=Pl) (r:=r.map (·.1)) (u:=u.map (·.1)) (by rw [hP,Ax,EI]) hD (by rw [Ac];omega) (λH2 b2 hP2 hD2=>?_);refine ⟨D,_,rfl,.inl ⟨SqL.of hD2,λq hq=>?_⟩⟩;have lf2:Lf H2 a:=by
     obtain ⟨m,e,h0⟩:=lf1;exact ⟨m,b2 _ _ Pa.symm e,h0⟩
    have sb2:SmB a H H2:=λb o n e=>b2 b o (λz=>by rw [z,nP] at e;cases e) (sb b o n e);have qP:Pl≠q:=λe=>by rw [<- e,hP2] at hq;cases hq
    have qa:q≠a:=lf2.there hq;have nq:H q=none:=sb2.none hq qa;have tk2:Tk H1 (upd H2 q (.tup (u.map (·.1)))):=(Bx.tk b2 hP).trans (Same.upd hq).tk;have hP3:upd H2 q (.tup (u.map (·.1))) Pl=some (.lst (r.map (·.1))):=by rw [aE qP];exact hP2
    have hq3:upd H2 q (.tup (u.map (·.1))) q=some (.tup (u.map (·.1))):=aB;have lf3:=lf2.own (o:=HO.tup (u.map (·.1))) qa;have sb3:=sb2.own (o:=HO.tup (u.map (·.1))) nq;generalize upd H2 q (.tup (u.map (·.1)))=H3 at tk2 hP3 hq3 lf3 sb3 ⊢;refine ⟨_,rfl,a,8,rfl,lf3,by decide,b9,λd H4 d0 dl s4 lf4=>⟨_,_,rfl,rfl,_,rfl,by omega,by omega,?_⟩⟩;have tk4:=tk2.trans (iC s4 lf3);have hP4:=s4 _ _ Pa hP3;have hq4:=s4 _ _ qa hq3;have sb4:=sb3.trans s4;refine eB (λi σ H'=>∃ (x:Str) (v10':Option V),σ=[some (.ref a),some (.ref ws),some (.ref c),some (.str LET),some (.ref Pl),some (.int kk),v6,v7,some (.ref q),some (.str x),v10',v11]/\x.length<=i/\SmB a H H'/\Lf H' a/\Tk H1 H'/\H' Pl=some (.lst (r.map (·.1)))/\H' q=some (.tup (u.map (·.1))))
     ⟨"",_,rfl,Ao _,sb4,lf4,tk4,hP4,hq4⟩ ?_ ?_
    ·rintro i σ H5 hi ⟨x,v10',rfl,xl,sb5,lf5,tk5,hP5,hq5⟩
     refine ⟨_,rfl,_,rfl,_,rfl,a,26,rfl,lf5,by decide,b9,λg H6 g0 gl s6 lf6=>?_⟩;obtain ⟨gn,rfl⟩:=Bc g0;refine ⟨LET,(gn:Int),97+gn,rfl,rfl,zL,aZ (pA (by omega)),_,_,rfl,rfl,bL (by show x.length+1<=1000;omega),?_⟩;refine ⟨_,_,rfl,?_,sb5.trans s6,lf6,tk5.trans (iC s6 lf5),s6 _ _ Pa hP5,s6 _ _ qa hq5⟩;rw [lenA];show x.length+1<=i+1;omega
    ·rintro σ H5 ⟨x,v10',rfl,xl,sb5,lf5,tk5,hP5,hq5⟩
     have xl':x.length<=8:=by omega
     refine ⟨"abcdefg",rfl,?_⟩;refine xW (λi σ H'=>∃ (y:Str) (v11':Option V),σ=[some (.ref a),some (.ref ws),some (.ref c),some (.str LET),some (.ref Pl),some (.int kk),v6,v7,some (.ref q),some (.str y),v10',v11']/\y.length<=8/\H'=H5) ⟨x,_,rfl,xl',rfl⟩ ?_ ?_
     ·rintro i g σ H6 hg ⟨y,v11',rfl,yl,rfl⟩
      refine ⟨_,rfl,_,rfl,ws,_,rfl,.inl (SqL.of (sb5 _ _ wa hws)),rfl,cI wr,_,rfl,ite2 (λ_=>?_) (λ_=>?_)⟩
      ·refine ⟨_,rfl,_,_,rfl,rfl,(by show 3+1<=AE;decide),⟨_,_,rfl,?_,rfl⟩⟩
       rw [lenA];show 3+1<=8
       decide
      ·exact ⟨y,_,rfl,yl,rfl⟩
     ·rintro σ H6 ⟨y,v11',rfl,yl,rfl⟩
      have pi5:=pi.keep tk5;have hu:∀ e∈u,Tr H6 _ e.1 e.2.1 e.2.2:=λe he=>pi5.tr e (by simp [he]);refine ⟨_,rfl,.inl ⟨rfl,_,SqL.of hP5⟩,_,rfl,_,rfl,q,u,rfl,hq5,⟨_,hu⟩,by omega,λm H7 s7 nm am=>?_⟩;have hP7:=s7 _ _ hP5;have hq7:=s7 _ _ hq5;have lf7:=lf5.keep s7;refine ⟨_,rfl,zLn4,λz hz=>?_⟩;have zP:Pl≠z:=λe=>by rw [<- e,hP7] at hz;cases hz
      have za:z≠a:=lf7.there hz;have nz:H z=none:=sb5.none (bQ s7 hz) za;have rl:r.length<=100:=by
       have:=jM (H:=H1) (l:=r) λc hc=>pi.tr c (by simp [hc]);omega
      refine ⟨Pl,_,_,rfl,rfl,(by rw [aE zP];exact hP7),aP (by rw [Ac];omega),?_⟩;have hPz:upd H7 z (.tup [.str "recipe",.str y,.ref m,.ref q]) Pl=some (.lst (r.map (·.1))):=by rw [aE zP];exact hP7
      have tk8:Tk H7 (upd (upd H7 z (.tup [.str "recipe",.str y,.ref m,.ref q])) Pl (.lst (r.map (·.1)++[.ref z]))):=(Same.upd hz).tk.trans (Tk.lst hPz);have tkA:=tk5.trans (s7.tk.trans tk8);have hzz:upd (upd H7 z (.tup [.str "recipe",.str y,.ref m,.ref q])) Pl (.lst (r.map (·.1)++[.ref z])) z=some (.tup [.str "recipe",.str y,.ref m,.ref q]):=by rw [aE zP.symm];exact aB
      obtain ⟨d',d1,tr⟩:=Tr.recipe hzz (tk8 _ _ hq7) (by omega) u64 (λe he=>(hu e he).keep (s7.tk.trans tk8)) (am.keep tk8);refine ⟨r++[(.ref z,1+szs u,d')],_,_,_,_,_,_,_,rfl,?_,?_,?_,(pi.keep tkA).recipe hk hcnt ec rfl d1 tr,(pr.keep tkA).recipe hk hcnt ec hzz (tk8 _ _ hq7)⟩
      ·exact ((sb5.trans (SmB.of s7)).own nz).own nP
      ·exact (lf7.own za).own Pa
      ·rw [Ax]
       exact aB
  ·rintro σ H1 ⟨pl,v5,v6,v7,v8,v9,v10,v11,rfl,sb,lf1,hP,pi,pr⟩
   obtain ⟨v,d,tr,s100,d1,hat,rq⟩:=rK pi pr ct;exact ⟨_,rfl,_,rfl,Pl,_,-1,v.1,rfl,rfl,SqL.of hP,hat,k v.1 v.2.1 d H1 sb tr s100 d1 rq⟩
end
def at8 {i:Int}(h0:0<=i)(h1:i<8):∃ g:Nat,atI (cps "abcdefgh") i=some g:=by
 obtain ⟨n,rfl⟩:=Bc h0;have l:(cps ("abcdefgh":Str)).length=8:=by decide +kernel
 exact ⟨_,aZ (Af (by omega))⟩
section
variable {P:AF}{w:World}{K:Ab}{mg:Str->Option Value}{base:Heap}
def mX:FnScope ["_law_script","_law_wares_here","_law_counts_here","_law_pile","_law_place","_law_number","_law_parts"] ["_law_script","_law_wares_here","_law_counts_here"] (aJ sRoot):=fnScOk (by decide +kernel)
def aDr {f:Addr}{fd:AM}(F:Fun K "_law_root" "_law_root" sRoot f fd)(T:Txt mg)(cC:Cal P w K mg base CX0 4 "_law_cell_at" ["_law_script","_law_k"] (gU K))(cM:Cal P w K mg base CX0 4 "_law_mixed" ["_law_cell","_law_k"] gG)(cU:Cal P w K mg base CX0 4 "_law_much" ["_law_number"] vB)
  (cF:Cal P w K mg base CX0 4 "_law_free_root" ["_law_left","_law_wares_here","_law_counts_here"] pO) (cT:Cal P w K mg base CX0 4 "_law_total" ["_law_parts"] lH):FnOk P w K mg base CX0 5 f fd ["_law_script","_law_wares_here","_law_counts_here"] (uY K):=by
 refine F.ok mX (λvs H Q E h=>?_) (λcdv A outer s H vs Q E hr h=>?_)
 ·obtain ⟨_,_,_,_,_,_,rfl,_⟩:=h
  rfl
 ·obtain ⟨a,ws,c,ns,wr,cs,rfl,ha,hws,w6,hcs,ct,k⟩:=h
  refine ⟨_,(aD (bK (aM cV (aN bM (aL cC hr rfl aS (aA (pv 0) (aA aG aC))) aG) aG (aV _))
    (aH (aU (aL cF hr rfl aS (aA (bC (aA (aQ gD rfl T.abs' oU (aA (aL cC hr rfl aS (aA (pv 0) (aA aG aC))) aC)) aC)) (aA (pv 1) (aA (pv 2) aC))))))
    aY)
   (aD (aK (i:=3) mX.nd rfl (Or.inr rfl) (bC aC))
   (aD (bP AQ rfl (vS rfl T.rev' rfl T.range (aA (aQ bA rfl T.len BA (aA (pv 2) aC)) aC)) (aR (i:=4) mX.nd rfl (Or.inl rfl))
    (aD (aK (i:=5) mX.nd rfl (Or.inl rfl) (aL cM hr rfl aS (aA (aL cC hr rfl aS (aA (pv 0) (aA (aN bM (pv 4) aG) aC))) (aA (pv 4) aC))))
   (aH (bK (aM cV (bE aW (pv 2) (pv 4) (λ_ _=>rfl)) aG (aV _))
    (aH (bB (cO Ak AB AA aX (pv 3) (aA (aT (aA bD (aA (bE aW (pv 1) (aN bM (pv 5) aG) (λ_ _=>rfl)) (aA (aL cU hr rfl aS (aA (aN bN (pv 5) aG) aC)) aC)))) aC))))
    (aD (aK (i:=6) mX.nd rfl (Or.inl rfl) (bY cE rfl T.tup' eN (aA
     (fB (N':=["_law_k","_law_pile"]) (λσ=>[none,some 3].map λt=>t.bind λj=>(σ[j]?).join) rfl rfl (by decide +kernel) (by decide +kernel)
      (tZ (sc:=aJ sRoot) rfl (by decide +kernel)) (λ_ _ _=>gR (sc:=aJ sRoot) (N:=["_law_script","_law_wares_here","_law_counts_here","_law_pile","_law_place","_law_number","_law_parts"]) [none,some 3] rfl rfl rfl rfl (by decide +kernel))
      (bT rfl T.range (aA (bE aW (pv 2) (pv 4) (λ_ _=>rfl)) aC)) (λ_ _ _ _ _ _=>aR (i:=0) ndKP rfl (Or.inl rfl)) (λ_ _ _ _ _ _=>fA)
      (λ_ _ _ _ _ _=>vX (K:=K) rfl Ak CG CF nO (pv 1))) aC)))
   (aH (bB (cO Ak AB AA aX (pv 3) (aA (aT (aA bD (aA (aN dA bD (bE oA bD (aN bM (pv 5) aG) (λ_ _=>rfl))) (aA (aL cT hr rfl aS (aA (pv 6) aC)) (aA (pv 6) aC))))) aC)))))))))
   (aH (aU (bE aW (pv 3) (fY dO aG) (λ_ _=>rfl))))))),?_⟩
  refine cut4 ?_
  intros
  refine ⟨_,rfl,a,ns,0,rfl,ha,by decide,λc0=>⟨_,_,rfl,rfl,(by show (0:Int)<2;decide),rfl,_,rfl,ite2 (λ_=>?_) (λ_=>?_)⟩⟩
  ·refine ⟨_,rfl,a,ns,4,rfl,ha,by decide,λc4=>⟨c4,rfl,zLn1,λz hz=>?_⟩⟩
   have wz:ws≠z:=λe=>by rw [e,hz] at hws;cases hws
   have cz:c≠z:=λe=>by rw [e,hz] at hcs;cases hcs
   refine ⟨_,rfl,_,rfl,z,ws,c,wr,cs,rfl,⟨_,aB,by split<;>omega⟩,by rw [aE wz];exact hws,w6,by rw [aE cz];exact hcs,wz,cz,ct,λv n d H' sb tr n100 d1=>?_⟩;exact k v n d H' (λb o e=>sb b o (aI e hz) (by rw [aE (aI e hz)];exact e)) tr n100 d1
  refine ⟨zLn0,λPl nP=>?_⟩;have cP:c≠Pl:=λe=>by rw [e,nP] at hcs;cases hcs
  refine ⟨_,rfl,c,_,rfl,.inl (SqL.of (by rw [aE cP];exact hcs)),_,rfl,by omega,?_,?_⟩
  ·rw [Ac]
   have:=ct.ln;omega
  rw [Ac,Bz];have cl:=ct.ln;refine gO (λj σ H'=>∃ (pl:List Pt) (v4 v5 v6:Option V),σ=[some (.ref a),some (.ref ws),some (.ref c),some (.ref Pl),v4,v5,v6]/\Same H H'/\H' Pl=some (.lst (pl.map (·.1)))/\Pile H' cs j pl/\PileR H' wr cs j pl)
   ⟨[],none,none,none,rfl,Same.upd nP,aB,Pile.nil,PileR.nil⟩ ?_ ?_
  ·rintro j σ H1 hj ⟨pl,v4,v5,v6,rfl,sm,hP,pi,pr⟩
   obtain ⟨kk,hk⟩:∃ kk,cs.length=kk+1+j:=⟨cs.length-1-j,by omega⟩;have ek:(cs.length:Int)-1+(j:Nat) * -1=(kk:Int):=by omega
   rw [ek];obtain ⟨cnt,hcnt⟩:∃ x,cs[kk]?=some x:=⟨_,Af (by omega)⟩;have hat:atI (cs.map V.int) (kk:Int)=some (.int cnt):=aZ (by rw [Aj,hcnt];rfl);have hc1:=sm _ _ hcs;have e61:=bV (kk:Int) (m:=61) (by decide);refine ⟨_,rfl,_,rfl,_,_,rfl,rfl,(by show (0:Int)<61;decide),a,ns,_,rfl,sm.seq ha,e61.1,λce=>⟨_,rfl,ce,_,rfl,by omega,by omega,λu u0 ul=>?_⟩⟩;refine ⟨_,rfl,_,rfl,c,_,(kk:Int),.int cnt,rfl,rfl,SqL.of hc1,hat,rfl,_,rfl,ite2 (λh0=>?_) (λh0=>?_)⟩
   ·have ec:cnt=0:=by simpa [eqV] using h0
    subst ec;have e6:=bV u (m:=6) (by decide);obtain ⟨dn,hdn⟩:=Bc e6.1;obtain ⟨x,hx⟩:∃ x,wr[dn]?=some x:=⟨_,Af (by omega)⟩;refine ⟨_,rfl,.inl ⟨rfl,_,SqL.of hP⟩,_,rfl,_,rfl,_,_,rfl,rfl,(by show (0:Int)<6;decide),ws,_,_,.str x,rfl,rfl,SqL.of (sm _ _ hws),(by rw [hdn];exact aZ (by rw [Aj,hx];rfl)),_,rfl,_,_,rfl,rfl,⟨by decide,b9⟩,?_⟩;refine ⟨_,rfl,DI u0 (by decide),Int.lt_of_le_of_lt (Int.ediv_le_self _ u0) ul,λt b m H5 rm s5 nm hm=>?_⟩;have hP5:=s5 _ _ hP;refine ⟨zLn3,λz hz=>?_⟩;have zP:Pl≠z:=λe=>by rw [<- e,hP5] at hz;cases hz
    refine ⟨Pl,_,_,rfl,rfl,(by rw [aE zP];exact hP5),aP (by rw [Ac];have:=pi.sz;have:=jM pi.tr;omega),?_⟩;have nz:H z=none:=bQ (sm.trans s5) hz;have tk:Tk H1 (upd (upd H5 z (.tup [.str "ware",.str x,.ref m])) Pl (.lst (pl.map (·.1)++[.ref z]))):=
     s5.tk.trans ((Same.upd hz).tk.trans (Tk.lst (by rw [aE zP];exact hP5)))
    have hzz:upd (upd H5 z (.tup [.str "ware",.str x,.ref m])) Pl (.lst (pl.map (·.1)++[.ref z])) z=some (.tup [.str "ware",.str x,.ref m]):=by rw [aE zP.symm];exact aB
    have tr:Tr (upd (upd H5 z (.tup [.str "ware",.str x,.ref m])) Pl (.lst (pl.map (·.1)++[.ref z]))) 1 (.ref z) 1 0:=by
     refine .inl ⟨z,m,x,rfl,hzz,⟨_,_,?_,Int.le_trans (by decide) rm.t1,rm.b1,rm.st,rm.sb⟩,rfl,rfl⟩;have mP:m≠Pl:=λe=>by rw [e,hP5] at hm;cases hm
     have mz:m≠z:=λe=>by rw [e,hz] at hm;cases hm
     rw [aE mP,aE mz];exact hm
    refine ⟨pl++[(.ref z,1,0)],_,_,_,rfl,sm_own (sm_own (sm.trans s5) nz) nP,?_,(pi.keep tk).ware hk hcnt tr,(pr.keep tk).ware hk hcnt hzz (AJ hx)⟩;rw [Ax];exact aB
   ·have ec:cnt≠0:=by simpa [eqV] using h0
    obtain ⟨r,t,rfl,tl,t64⟩:=pi.split ct.ok hk hcnt;subst tl;have sz:=pi.sz;rw [cY,pD] at sz;refine ⟨_,rfl,_,rfl,c,_,(kk:Int),.int (t.length:Int),rfl,rfl,SqL.of hc1,hat,_,rfl,by omega,by omega,?_⟩;rw [Bz,<- Ac (f:=λx:Pt=>x.1) (as:=t)];refine λD hD=>?_;refine sN (K:=K) (Pl:=Pl) (r:=r.map (·.1)) (u:=t.map (·.1)) (by rw [hP,Ax,EI]) hD (by rw [Ac];omega) (λH2 b2 hP2 hD2=>?_);refine ⟨D,_,rfl,.inl ⟨SqL.of hD2,λq hq=>?_⟩⟩;have sm2:Same H H2:=λb o e=>b2 b o (λz=>by rw [z,nP] at e;cases e) (sm b o e);have qP:Pl≠q:=λe=>by rw [<- e,hP2] at hq;cases hq
    have nq:H q=none:=bQ sm2 hq;have tk2:Tk H1 (upd H2 q (.tup (t.map (·.1)))):=(Bx.tk b2 hP).trans (Same.upd hq).tk;have hP3:upd H2 q (.tup (t.map (·.1))) Pl=some (.lst (r.map (·.1))):=by rw [aE qP];exact hP2
    have hq3:upd H2 q (.tup (t.map (·.1))) q=some (.tup (t.map (·.1))):=aB;have sm3:=sm_own (o:=HO.tup (t.map (·.1))) sm2 nq;generalize upd H2 q (.tup (t.map (·.1)))=H3 at tk2 hP3 hq3 sm3 ⊢;have e8:=bV u (m:=8) (by decide);obtain ⟨g,hg⟩:=at8 e8.1 e8.2;have pi3:=pi.keep tk2;have hu:∀ e∈t,Tr H3 _ e.1 e.2.1 e.2.2:=λe he=>pi3.tr e (by simp [he]);refine ⟨_,rfl,.inl ⟨rfl,_,SqL.of hP3⟩,_,rfl,_,_,rfl,rfl,(by show (0:Int)<8;decide),"abcdefgh",_,g,rfl,rfl,(by decide +kernel),hg,_,_,rfl,rfl,(by show 3+1<=AE;decide),_,rfl,q,t,rfl,hq3,⟨_,hu⟩,by omega,λm H7 s7 nm am=>?_⟩;have hP7:=s7 _ _ hP3;have hq7:=s7 _ _ hq3;refine ⟨_,rfl,zLn4,λz hz=>?_⟩;have zP:Pl≠z:=λe=>by rw [<- e,hP7] at hz;cases hz
    have nz:H z=none:=bQ (sm3.trans s7) hz;have rl:=jM (H:=H1) (l:=r) λc hc=>pi.tr c (by simp [hc]);refine ⟨Pl,_,_,rfl,rfl,(by rw [aE zP];exact hP7),aP (by rw [Ac];omega),?_⟩;generalize (("mix":Str)++(⟨#[g]⟩:Str))=y;have hPz:upd H7 z (.tup [.str "recipe",.str y,.ref m,.ref q]) Pl=some (.lst (r.map (·.1))):=by rw [aE zP];exact hP7
    have tk8:Tk H7 (upd (upd H7 z (.tup [.str "recipe",.str y,.ref m,.ref q])) Pl (.lst (r.map (·.1)++[.ref z]))):=(Same.upd hz).tk.trans (Tk.lst hPz);have tkA:=tk2.trans (s7.tk.trans tk8);have hzz:upd (upd H7 z (.tup [.str "recipe",.str y,.ref m,.ref q])) Pl (.lst (r.map (·.1)++[.ref z])) z=some (.tup [.str "recipe",.str y,.ref m,.ref q]):=by rw [aE zP.symm];exact aB
    obtain ⟨d',d1,tr⟩:=Tr.recipe hzz (tk8 _ _ hq7) (by omega) t64 (λe he=>(hu e he).keep (s7.tk.trans tk8)) (am.keep tk8);refine ⟨r++[(.ref z,1+szs t,d')],_,_,_,rfl,sm_own (sm_own (sm3.trans s7) nz) nP,?_,(pi.keep tkA).recipe hk hcnt ec rfl d1 tr,(pr.keep tkA).recipe hk hcnt ec hzz (tk8 _ _ hq7)⟩;rw [Ax];exact aB
  ·rintro σ H1 ⟨pl,v4,v5,v6,rfl,sm,hP,pi,pr⟩
   obtain ⟨v,d,tr,s100,d1,hat,rq⟩:=rK pi pr ct;exact ⟨_,rfl,_,rfl,Pl,_,-1,v.1,rfl,rfl,SqL.of hP,hat,k v.1 v.2.1 d H1 sm tr s100 d1 rq⟩
end
end K45
namespace HT
open PySem PySem.Spec PyProof.Rows
section
variable {prog:AF}{w:World}{A:Around}{E:Value->Shared->Prop}{s:Shared}
end
end HT
namespace L2
open PySem PySem.Spec PyProof.Rows
section
variable {X:Cx}
def rRepTA (K:Ab):R2:=λx y H Q=>∃ a k xs,x=.ref a/\y=.int k/\SqT K H a xs/\xs≠[]/\1<=k/\k<=1000/\xs.length<=1000/\(k=1->Q (.ref a) H)/\(2<=k->∀ p,H p=none->Q (.ref p) (upd H p (.tup (AR k.toNat xs).flatten)))
def aFi (K:Ab):R2:=λx y H Q=>∃ a b xs ys,x=.ref a/\y=.ref b/\SqT K H a xs/\H b=some (.tup ys)/\ys≠[]/\xs.length+ys.length<=AE/\∀ p H',Same H H'->H' p=some (.tup (xs++ys))->Q (.ref p) H'
def lX:OpR X (DM .Add) (aFi X.K):=by
 intro pins s σ H x y v u Q I rx ry h;obtain ⟨a,b,xs,ys,rfl,rfl,ha,hb,hy,hz,q⟩:=h;refine aAa pins s σ H _ _ v u Q I rx ry ?_
 by_cases e:xs=[]
 ·subst e
  exact .inl ⟨a,b,ys,rfl,rfl,ha,SqT.of hb,q b H (Same.refl _) (by rw [List.nil_append];exact hb)⟩
 ·exact .inr ⟨a,b,xs,ys,rfl,rfl,ha,SqT.of hb,e,hz,λz=>absurd z hy,λ_ p hp=>q p _ (Same.upd hp) aB⟩
end
end L2
namespace K45
open PySem PySem.Spec PyProof.Rows L2 GM TM TR
def pJ:Sp:=λvs H Q _=>∃ (v:V) (ch:List Nat->Nat) (nm:List Nat->Str),vs=[v]/\Hn H 62 v ch nm/\(pre ch 62 []).length<=100/\∀ (fs:List (Addr×List Nat)) l H',Same H H'->H l=none->H' l=some (.lst (fs.map λf=>.ref f.1))->fs.map (·.2)=pre ch 62 []->(∀ f∈fs,EnN H' ch nm 62 f.1 f.2)->Q (.ref l) H'
def aGa {H:Hp}{ch:List Nat->Nat}{nm:List Nat->Str}{es:List (Addr×List Nat)}(h:∀ e∈es,EnN H ch nm 62 e.1 e.2):es.length<=(bri ch 62 es).length:=by
 have:∀ {es:List (Addr×List Nat)},(∀ e∈es,EnN H ch nm 62 e.1 e.2)->es.length<=(es.flatMap λe=>pre ch (62-e.2.length) e.2).length:=λ{es}=>by
  induction es with
  |nil=>intro _;exact Bi _
  |cons e es ih=>
   intro h;rw [List.flatMap_cons,Aq,AI];have:=ih λx hx=>h x (Au _ hx);obtain ⟨pa,v,n,_,_,hd,en⟩:=h e (Az ..);cases n with
   |zero=>exact hd.elim
   |succ n=>
    have e1:62-e.2.length=n+1:=by omega
    rw [e1];show es.length+1<=((Ay (ch e.2)).flatMap _).length+1+_;omega
 have h2:=this (es:=es.reverse) λe he=>h e (List.mem_reverse.mp he);rw [List.length_reverse] at h2;exact h2
section
variable {P:AF}{w:World}{K:Ab}{mg:Str->Option Value}{base:Heap}
def gI:FnScope ["_law_root_here","_law_found","_law_pile","_law_path","_law_part","_law_k"] ["_law_root_here"] (aJ sPaths):=fnScOk (by decide +kernel)
def aAk {f:Addr}{fd:AM}(F:Fun K "_law_paths" "_law_paths" sPaths f fd)(T:Txt mg):FnOk P w K mg base CX0 1 f fd ["_law_root_here"] pJ:=by
 refine F.ok gI (λvs H Q E h=>?_) (λcdv A outer s H vs Q E hr h=>?_)
 ·obtain ⟨_,_,_,rfl,_⟩:=h
  rfl
 ·obtain ⟨root,ch,nm,rfl,hd0,n100,k⟩:=h
  refine ⟨_,(aD (aK (i:=1) gI.nd rfl (Or.inl rfl) (bC aC))
   (aD (aK (i:=2) gI.nd rfl (Or.inl rfl) (bC (aA (aT (aA (aT aC) (aA (pv 0) aC))) aC)))
   (aD (iK AQ (aM (wA hr.units) (pv 2) (bC aC) (aV _))
    (aD (kL (rP Ak CG CF nO (pv 2)) (fX rfl (bJ (aR (i:=3) gI.nd rfl (Or.inl rfl)) (bJ (aR (i:=4) gI.nd rfl (Or.inl rfl)) eI))))
   (aD (bB (cO Ak AB AA aX (pv 1) (aA (aT (aA (pv 3) (aA (pv 4) aC))) aC)))
   (aH (bK (aM cV (pit 4 0) bD (aV _))
    (aH (bP AQ rfl (vS rfl T.rev' rfl T.range (aA (aQ bA rfl T.len BA (aA (pit 4 3) aC)) aC)) (aR (i:=5) gI.nd rfl (Or.inl rfl))
    (aH (bB (cO Ak AB AA aX (pv 2) (aA (aT (aA (aN lX (pv 3) (aT (aA (pv 5) aC))) (aA (bE hJ (pit 4 3) (pv 5) (λ_ _=>rfl)) aC))) aC))))))
    aY)))))
   (aH (aU (pv 1)))))),?_⟩
  refine cut4 ?_
  intros
  refine ⟨zLn0,λFd nF=>⟨zLn0,λe0 ne0=>⟨_,rfl,zLn2,λt0 nt0=>⟨zLn1,λPl nP=>?_⟩⟩⟩⟩;have smA:Same H (upd H Fd (.lst [])):=Same.upd nF;have smB:=smA.trans (Same.upd (o:=.tup []) ne0);have smC:=smB.trans (Same.upd (o:=.tup [.ref e0,root]) nt0);have nP0:H Pl=none:=bQ smC nP;have ht0:upd (upd (upd H Fd (.lst [])) e0 (.tup [])) t0 (.tup [.ref e0,root]) t0=some (.tup [.ref e0,root]):=aB;have he0:=(Same.upd (o:=.tup [.ref e0,root]) nt0) _ _ (aB (H:=upd H Fd (.lst [])) (a:=e0) (o:=.tup []));have hF0:=(Same.upd (o:=.tup [.ref e0,root]) nt0) _ _ ((Same.upd (o:=.tup []) ne0) _ _ (aB (H:=H) (a:=Fd) (o:=.lst [])));generalize upd (upd (upd H Fd (.lst [])) e0 (.tup [])) t0 (.tup [.ref e0,root])=H0 at smC nP ht0 he0 hF0 ⊢;have FP:Fd≠Pl:=λe=>by rw [<- e,hF0] at nP;cases nP
  have sP:Same H0 (upd H0 Pl (.lst [.ref t0])):=Same.upd nP;refine ⟨λm σ H'=>∃ (es fs:List (Addr×List Nat)) (v3 v4 v5:Option V),σ=[some root,some (.ref Fd),some (.ref Pl),v3,v4,v5]/\Same H H'/\H' Fd=some (.lst (fs.map λf=>.ref f.1))/\H' Pl=some (.lst (es.map λe=>.ref e.1)) /\
   (∀ e∈es,EnN H' ch nm 62 e.1 e.2)/\(∀ f∈fs,EnN H' ch nm 62 f.1 f.2)/\fs.map (·.2)++bri ch 62 es=pre ch 62 []/\m=(bri ch 62 es).length,
   ⟨_,[(t0,[])],[],none,none,none,rfl,smC.trans sP,sP _ _ hF0,aB,λe he=>?_,(λ_ h=>nomatch h),?_,rfl⟩,?_⟩
  ·rw [Al.mp he]
   exact ⟨e0,root,62,sP _ _ ht0,sP _ _ he0,hd0.keep (smC.trans sP).tk,by simp⟩
  ·show []++bri ch 62 ([]++[(t0,[])])=_
   rw [sQ];simp [bri]
  rintro m σ H1 ⟨es,fs,v3,v4,v5,rfl,sm,hF,hP,he,hf,tot,rfl⟩
  refine ⟨_,rfl,zLn0,λz hz=>?_⟩;have sz:=Same.upd (o:=.lst []) hz;have hF2:=sz _ _ hF;have hP2:=sz _ _ hP;have smz:Same H (upd H1 z (.lst [])):=sm.trans sz;have he2:∀ e∈es,EnN (upd H1 z (.lst [])) ch nm 62 e.1 e.2:=λe h=>(he e h).keep sz.tk;have hf2:∀ f∈fs,EnN (upd H1 z (.lst [])) ch nm 62 f.1 f.2:=λf h=>(hf f h).keep sz.tk;have hz2:upd H1 z (.lst []) z=some (.lst []):=aB;generalize upd H1 z (.lst [])=H2 at hF2 hP2 smz he2 hf2 hz2 ⊢;refine ⟨Pl,z,_,rfl,rfl,SqL.of hP2,SqL.of hz2,_,rfl,?_⟩;have alt:es=[]\/∃ i x,es=i++[x]:=by
   cases h:es.reverse with
   |nil=>exact .inl (BC.mp h)
   |cons x i=>exact .inr ⟨i.reverse,x,by have:=congrArg DA h;simpa using this⟩
  rcases alt with rfl|⟨es,⟨t,ks⟩,rfl⟩
  ·refine iteF ⟨_,rfl,k fs Fd H2 smz nF hF2 ?_ hf2⟩
   rw [<- tot];simp [bri]
  have ene:(!((es++[(t,ks)]).map λe=>V.ref e.1).isEmpty)=true:=by simp
  rw [ene];refine iteT ⟨_,λσ' H' h=>h,?_⟩;have ed:((es++[(t,ks)]).map λe=>V.ref e.1)=(es.map λe=>V.ref e.1)++[V.ref t]:=by simp
  rw [ed] at hP2;refine ⟨_,rfl,.inl ⟨rfl,_,SqL.of hP2⟩,Pl,_,.ref t,rfl,rfl,hP2,by simp,?_⟩;rw [CA];obtain ⟨pa,v,n,ht,hpa,tr,ln⟩:=he2 (t,ks) (by simp);dsimp only at ht hpa tr ln;have tk3:Tk H2 (upd H2 Pl (.lst (es.map λe=>V.ref e.1))):=Tk.lst hP2;have he3:∀ e∈es,EnN (upd H2 Pl (.lst (es.map λe=>V.ref e.1))) ch nm 62 e.1 e.2:=λe h=>(he2 e (by simp [h])).keep tk3;have hf3:∀ f∈fs,EnN (upd H2 Pl (.lst (es.map λe=>V.ref e.1))) ch nm 62 f.1 f.2:=λf h=>(hf2 f h).keep tk3;have sm3:Same H (upd H2 Pl (.lst (es.map λe=>V.ref e.1))):=sm_own smz nP0;have hF3:upd H2 Pl (.lst (es.map λe=>V.ref e.1)) Fd=some (.lst (fs.map λf=>.ref f.1)):=by rw [aE FP];exact hF2
  have hP3:upd H2 Pl (.lst (es.map λe=>V.ref e.1)) Pl=some (.lst (es.map λe=>V.ref e.1)):=aB;replace ht:=tk3 _ _ ht;replace hpa:=tk3 _ _ hpa;replace tr:=tr.keep tk3;generalize upd H2 Pl (.lst (es.map λe=>V.ref e.1))=H3 at he3 hf3 sm3 hF3 hP3 ht hpa tr ⊢;rw [sQ] at tot ⊢;have tl:=congrArg DB tot;rw [Aq,Aq,Ac] at tl;rw [Aq];cases n with
  |zero=>exact tr.elim
  |succ n=>
   have e62:62-ks.length=n+1:=by omega
   rw [e62] at tot tl ⊢;have epre:pre ch (n+1) ks=ks::(Ay (ch ks)).flatMap λk=>pre ch n (ks++[k]):=rfl;rw [epre] at tot tl ⊢;rw [AI] at tl;refine ⟨t,_,rfl,SqT.of ht,rfl,_,_,rfl,_,_,rfl,rfl,?_⟩;refine ⟨_,rfl,.inl ⟨rfl,_,SqL.of hF3⟩,_,rfl,_,rfl,zLn2,λg ng=>?_⟩;have sg:=Same.upd (o:=.tup [.ref pa,v]) ng;have hFg:=sg _ _ hF3;refine ⟨Fd,_,_,rfl,rfl,hFg,aP (by rw [Ac];omega),?_⟩;have gF:g≠Fd:=λe=>by rw [e,hF3] at ng;cases ng
   have tk4:Tk H3 (upd (upd H3 g (.tup [.ref pa,v])) Fd (.lst ((fs.map λf=>.ref f.1)++[.ref g]))):=sg.tk.trans (Tk.lst hFg);have hg4:upd (upd H3 g (.tup [.ref pa,v])) Fd (.lst ((fs.map λf=>.ref f.1)++[.ref g])) g=some (.tup [.ref pa,v]):=by rw [aE gF];exact aB
   have hF4:upd (upd H3 g (.tup [.ref pa,v])) Fd (.lst ((fs.map λf=>.ref f.1)++[.ref g])) Fd=some (.lst ((fs++[(g,ks)]).map λf=>.ref f.1)):=by rw [Ax];exact aB
   have hP4:upd (upd H3 g (.tup [.ref pa,v])) Fd (.lst ((fs.map λf=>.ref f.1)++[.ref g])) Pl=some (.lst (es.map λe=>V.ref e.1)):=by rw [aE FP.symm];exact sg _ _ hP3
   have sm4:Same H (upd (upd H3 g (.tup [.ref pa,v])) Fd (.lst ((fs.map λf=>.ref f.1)++[.ref g]))):=sm_own (sm3.trans sg) nF;have he4:∀ e∈es,EnN (upd (upd H3 g (.tup [.ref pa,v])) Fd (.lst ((fs.map λf=>.ref f.1)++[.ref g]))) ch nm 62 e.1 e.2:=λe h=>(he3 e h).keep tk4;have hf4:∀ f∈fs++[(g,ks)],EnN (upd (upd H3 g (.tup [.ref pa,v])) Fd (.lst ((fs.map λf=>.ref f.1)++[.ref g]))) ch nm 62 f.1 f.2:=λf h=>by
    rcases Av.mp h with h|h
    ·exact (hf3 f h).keep tk4
    ·rw [Al.mp h]
     exact ⟨pa,v,n+1,hg4,tk4 _ _ hpa,tr.keep tk4,ln⟩
   replace hpa:=tk4 _ _ hpa;replace tr:=tr.keep tk4;generalize upd (upd H3 g (.tup [.ref pa,v])) Fd (.lst ((fs.map λf=>.ref f.1)++[.ref g]))=H4 at hF4 hP4 sm4 he4 hf4 hpa tr ⊢;have ech:shf ks ch []=ch ks:=by show ch (ks++[])=_;rw [AL]
   have efs:(fs++[(g,ks)]).map (·.2)=fs.map (·.2)++[ks]:=by simp
   rcases tr with ⟨p,mm,x,rfl,hp,c0,_⟩|⟨p,mm,q,x,vs,rfl,hp,hq,l1,l2,cl,hnd,hc⟩
   ·rw [ech] at c0
    rw [c0] at tot tl ⊢;refine ⟨p,_,_,rfl,SqT.of hp,rfl,rfl,_,rfl,iteF ?_⟩;refine ⟨(bri ch 62 es).length,?_,es,fs++[(g,ks)],_,_,_,rfl,sm4,hF4,hP4,he4,hf4,?_,rfl⟩
    ·rw [AI]
     omega
    ·rw [efs,Bo]
     exact tot
   ·rw [ech] at cl
    rw [cl] at tot tl ⊢;refine ⟨p,_,_,rfl,SqT.of hp,rfl,rfl,_,rfl,iteT ?_⟩;refine ⟨p,_,_,rfl,SqT.of hp,rfl,q,_,rfl,.inr (SqT.of hq),_,rfl,by omega,by omega,?_⟩;rw [Bz];refine gO (λj σ H'=>∃ (es':List (Addr×List Nat)) (v5':Option V),σ=[some root,some (.ref Fd),some (.ref Pl),some (.ref pa),some (.ref p),v5']/\Same H H'/\Tk H4 H'/\H' Fd=some (.lst ((fs++[(g,ks)]).map λf=>.ref f.1))/\H' Pl=some (.lst ((es++es').map λe=>.ref e.1)) /\
     (∀ e∈es',EnN H' ch nm 62 e.1 e.2)/\es'.reverse.map (·.2)=(List.range' (vs.length-j) j).map (λk=>ks++[k])/\es'.length=j) ⟨[],_,rfl,sm4,Tk.refl,hF4,by rw [AL];exact hP4,(λ_ h=>nomatch h),rfl,rfl⟩ ?_ ?_
    ·rintro j σ H5 hj ⟨es',v5',rfl,sm5,tk5,hF5,hP5,he5,ez,el⟩
     obtain ⟨kk,hk⟩:∃ kk,vs.length=kk+1+j:=⟨vs.length-1-j,by omega⟩;have ek:(vs.length:Int)-1+(j:Nat) * -1=(kk:Int):=by omega
     rw [ek];obtain ⟨c,hck⟩:∃ x,vs[kk]?=some x:=⟨_,Af (by omega)⟩;refine ⟨_,rfl,.inl ⟨rfl,_,SqL.of hP5⟩,_,rfl,_,rfl,zLn1,λo no=>?_⟩;have so:=Same.upd (o:=.tup [.int (kk:Int)]) no;refine ⟨pa,o,_,_,rfl,rfl,SqT.of (so _ _ (tk5 _ _ hpa)),aB,by simp,(by rw [Ac];exact bL (by show ks.length+1<=1000;omega)),λpb H6 s6 hpb=>?_⟩;have s56:Same H5 H6:=so.trans s6;have tk6:=tk5.trans s56.tk;refine ⟨p,_,_,rfl,SqT.of (tk6 _ _ hp),rfl,_,rfl,q,_,(kk:Int),c,rfl,rfl,SqT.of (tk6 _ _ hq),aZ hck,zLn2,λz nz=>?_⟩;have sz6:=Same.upd (o:=.tup [.ref pb,c]) nz;have hP6:=sz6 _ _ (s56 _ _ hP5);have el2:(es++es').length<=200:=by
      have h1:=aGa he4;rw [Aq];omega
     refine ⟨Pl,_,_,rfl,rfl,hP6,aP (by rw [Ac];omega),?_⟩;have zP:z≠Pl:=λe=>by rw [e,s56 _ _ hP5] at nz;cases nz
     have tkB:Tk H6 (upd (upd H6 z (.tup [.ref pb,c])) Pl (.lst (((es++es').map λe=>V.ref e.1)++[.ref z]))):=sz6.tk.trans (Tk.lst hP6);have hzz:upd (upd H6 z (.tup [.ref pb,c])) Pl (.lst (((es++es').map λe=>V.ref e.1)++[.ref z])) z=some (.tup [.ref pb,c]):=by rw [aE zP];exact aB
     have smB:Same H (upd (upd H6 z (.tup [.ref pb,c])) Pl (.lst (((es++es').map λe=>V.ref e.1)++[.ref z]))):=sm_own ((sm5.trans s56).trans sz6) nP0;have hPz:upd (upd H6 z (.tup [.ref pb,c])) Pl (.lst (((es++es').map λe=>V.ref e.1)++[.ref z])) Pl=some (.lst ((es++(es'++[(z,ks++[kk])])).map λe=>V.ref e.1)):=by
      rw [aB,<- Bo,Ax (l₂:=[(z,ks++[kk])])];rfl
     have hFz:upd (upd H6 z (.tup [.ref pb,c])) Pl (.lst (((es++es').map λe=>V.ref e.1)++[.ref z])) Fd=some (.lst ((fs++[(g,ks)]).map λf=>.ref f.1)):=by rw [aE FP];exact sz6 _ _ (s56 _ _ hF5)
     generalize upd (upd H6 z (.tup [.ref pb,c])) Pl (.lst (((es++es').map λe=>V.ref e.1)++[.ref z]))=H7 at tkB hzz smB hPz hFz ⊢;have tk7:=tk6.trans tkB;refine ⟨es'++[(z,ks++[kk])],_,rfl,smB,tk7,hFz,hPz,λe h=>?_,?_,by rw [Aq,el];rfl⟩
     ·rcases Av.mp h with h|h
      ·exact (he5 e h).keep (s56.tk.trans tkB)
      ·rw [Al.mp h]
       refine ⟨pb,c,n,hzz,tkB _ _ (by rw [pth,Ax];exact hpb),?_,by rw [Aq];show ks.length+1+n=62;omega⟩;have:=(hc kk c hck).keep tk7;rw [iH,iH] at this;exact this
     ·have e1:vs.length-(j+1)=kk:=by omega
      have e2:vs.length-j=kk+1:=by omega
      rw [e2] at ez;rw [e1,List.reverse_append,Ax,ez,List.range'_succ,Bb];rfl
    ·rintro σ H5 ⟨es',v5',rfl,sm5,tk5,hF5,hP5,he5,ez,el⟩
     have e0:vs.length-vs.length=0:=by omega
     rw [e0] at ez;have eb:=aBi (ch:=ch) (N:=62) (n:=n) (m:=vs.length) (ks:=ks) (fs:=es') (j:=0) (by omega) (by omega) (by rw [el];exact ez);rw [el,<- List.range_eq_range'] at eb;refine ⟨(bri ch 62 (es++es')).length,?_,es++es',fs++[(g,ks)],_,_,_,rfl,sm5,hF5,hP5,λe h=>?_,λf h=>(hf4 f h).keep tk5,?_,rfl⟩
     ·rw [yL,eb,Aq,AI]
      omega
     ·rcases Av.mp h with h|h
      ·exact (he4 e h).keep tk5
      ·exact he5 e h
     ·rw [yL,eb,efs,Bo]
      exact tot
end
end K45
namespace L2
open PySem PySem.Spec PyProof.Rows
def tThaw (H₀:Hp)(te:TE):TE:=λσ H Q=>te σ H λv H'=>∃ d ob kvs,H' d=some (.frz ob (.dK kvs))/\(∀ o u,H₀ d≠some (.frz o u))/\Q v (upd H' d (.dK kvs))
def rUpd:V->List V->Hp->VK->Prop:=λx vs H Q=>∃ d o kvs more,x=.ref d/\vs=[.ref o]/\d≠o/\H d=some (.dK kvs)/\H o=some (.dK more)/\kvs.length+more.length<=1000/\Q .non (upd H d (.dK (aB2 kvs more)))
section
variable {prog:AF}{w:World}{A:Around}{E:Value->Shared->Prop}{s:Shared}
end
def tMinD (te:TE):TE:=λσ H Q=>te σ H λx H1=>∃ l n,x=.ref l/\H1 l=some (.lst [.int n])/\Q (.int n) H1
structure MCal (P:AF)(w:World)(K:Ab)(mg:Str->Option Value)(base:Heap)(CX:CXT)(k:Nat)(C:Addr)(m:Str)(ps:List Str)(sp:Sp):Prop where
 ex:∃ (f:Addr) (fd:AM),Meth K C m f/\Binds K fd ps []/\FnOk P w K mg base CX k f fd ps sp
def MCal.mono {P:AF}{w:World}{K:Ab}{mg:Str->Option Value}{base:Heap}{CX:CXT}{j k:Nat}{C:Addr}{m:Str}{ps:List Str}{sp:Sp}(M:MCal P w K mg base CX j C m ps sp)(h:j<=k):MCal P w K mg base CX k C m ps sp:=by
 obtain ⟨f,fd,hm,hb,F⟩:=M.ex;exact ⟨f,fd,hm,hb,F.mono h⟩
section
variable {X:Cx}{CX:CXT}{k:Nat}{C:Addr}{m:Str}{ps:List Str}{sp:Sp}{E:XK}{o e:Expr}{es:List Expr}{ta:TE}{t:TA}{apos pos:Pos}
def aDg (c:Cls X.K C)(M:MCal X.prog X.w X.K X.mg X.base CX k C m ps sp)(hr:Room k X.A)(hx:iB CX X E)(he:PE X o ta)(ha:PA X (e::es) t)(hst:AV (e::es) X.env=(false,eval e X.env)::AV es X.env:=by rfl)(hpl:(backTo pos (AV es X.env)).any (·.1)=false:=by rfl)(ht:eval (.Call (.Attribute o m apos) (e::es) [] pos) X.env=(do
   let ov <- eval o X.env
   standAt apos.atName
   let (f,first) <- holding [ov] (getMethod ov m pl)
   callWith pos f first (backTo pos (AV (e::es) X.env)) (backToKw pos (Dy [] X.env))):=by rfl) :
  PE X (.Call (.Attribute o m apos) (e::es) [] pos) (aEx C m sp [] E ta t):=by
 obtain ⟨f,fd,hm,hb,F⟩:=M.ex;exact aDf he c hm F hr hb .nil hx ha hst hpl ht
end
def tThawS (H₀:Hp)(t:TS):TS:=λD σ H=>t { D with nx:=λσ' H'=>∃ d ob kvs,H' d=some (.frz ob (.dK kvs))/\(∀ o u,H₀ d≠some (.frz o u))/\D.nx σ' (upd H' d (.dK kvs)) } σ H
end L2
namespace L2.TS
open PySem PySem.Spec PyProof.Rows
abbrev Ky:=List Nat
def xH {a b:Ky}(hn:a≠b)(hl:¬ a<b):b<a:=by
 by_cases hb:b<a
 ·exact hb
 ·exact absurd (List.le_antisymm (List.not_lt.mp hb) (List.not_lt.mp hl)) hn
def ka (f:Value->Ky)(xs:Array Keyed)(i:Nat):Ky:=(xs[i]?.map λp=>f p.1).getD []
theorem xK {f:Value->Ky}{i j:Nat}(e:xs[i]?=ys[j]?):ka f xs i=ka f ys j:=by
 unfold ka;rw [e]
def Up (f:Value->Ky)(xs:Array Keyed)(n:Nat):Prop:=∀ i j,i<j->j<n->ka f xs i<ka f xs j
def Dn (f:Value->Ky)(xs:Array Keyed)(n:Nat):Prop:=∀ i j,i<j->j<n->ka f xs j<ka f xs i
def Df (f:Value->Ky)(xs:List Keyed):Prop:=xs.Pairwise λp q=>f p.1≠f q.1
structure Sb (f:Value->Ky)(kd:SortKind)(o:Array Keyed)(st:SortSt):Prop where
 pm:(arrOf st).Perm o
 kn:kindOf st=kd
 fl:failedOf st=none
 pe:pendingOf st=#[]
 df:Df f (arrOf st).toList
section
variable {prog:AF}{w:World}{A:Around}{E:Value->Shared->Prop}{s:Shared}{o:Array Keyed}{f:Value->Ky}{kd:SortKind}
theorem Sb.sz {st:SortSt}(b:Sb f kd o st):(arrOf st).size=o.size:=b.pm.size_eq
def Sb.put {st:SortSt}(b:Sb f kd o st)(p:xs.Perm (arrOf st)):Sb f kd o (setArr st xs):=
 ⟨p.trans b.pm,b.kn,b.fl,b.pe,((DS.mp p).symm.pairwise_iff λh=>BU h).mp b.df⟩
theorem Sb.ne {st:SortSt}(b:Sb f kd o st){i j:Nat}(hi:i<o.size)(hj:j<o.size)(hij:i≠j):ka f (arrOf st) i≠ka f (arrOf st) j:=by
 have h:=List.pairwise_iff_getElem.mp b.df;have hi':i<(arrOf st).size:=by rw [b.sz];exact hi
 have hj':j<(arrOf st).size:=by rw [b.sz];exact hj
 have e1:ka f (arrOf st) i=f (arrOf st)[i].1:=by unfold ka;rw [getElem?_pos (arrOf st) i hi'];rfl
 have e2:ka f (arrOf st) j=f (arrOf st)[j].1:=by unfold ka;rw [getElem?_pos (arrOf st) j hj'];rfl
 rw [e1,e2]
 rcases Nat.lt_or_gt_of_ne hij with l|l
 ·exact h i j (by simpa using hi') (by simpa using hj') l
 ·exact (h j i (by simpa using hj') (by simpa using hi') l).symm
def Cmp (prog:AF)(w:World)(A:Around)(s:Shared)(kd:SortKind)(f:Value->Ky)(o:Array Keyed):Prop:=
 ∀ (p q:Keyed) (E:Value->Shared->Prop) (Q:Bool->Shared->Prop),p∈o.toList->q∈o.toList->f p.1≠f q.1->Q (decide (f p.1<f q.1)) s->wpAny (model prog w) A (keyLt' kd p.1 q.1) Q E s
def wZ (C:Cmp prog w A s kd f o){st:SortSt}(b:Sb f kd o st){i j:Nat}(hi:i<o.size)(hj:j<o.size)(hij:i≠j)(h:Q (some (decide (ka f (arrOf st) i<ka f (arrOf st) j))) st):wpS (model prog w) A E s (ltAt' i j) Q st:=by
 have hd:=b.ne hi hj hij;have hi':i<(arrOf st).size:=by rw [b.sz];exact hi
 have hj':j<(arrOf st).size:=by rw [b.sz];exact hj
 have g1:(arrOf st)[i]?=some (arrOf st)[i]:=getElem?_pos _ i hi';have g2:(arrOf st)[j]?=some (arrOf st)[j]:=getElem?_pos _ j hj';have m1:(arrOf st)[i]∈o.toList:=(DS.mp b.pm).mem_iff.mp (Array.getElem_mem_toList _);have m2:(arrOf st)[j]∈o.toList:=(DS.mp b.pm).mem_iff.mp (Array.getElem_mem_toList _);have k1:ka f (arrOf st) i=f (arrOf st)[i].1:=by unfold ka;rw [g1];rfl
 have k2:ka f (arrOf st) j=f (arrOf st)[j].1:=by unfold ka;rw [g2];rfl
 rw [k1,k2] at h hd;rw [ltAt'_eq];refine BQ (wpS_get ?_);dsimp only;rw [elem'_eq,elem'_eq,g1,g2];refine BQ (CN (BQ (CN ?_)));rw [lt'_eq];refine BQ (wpS_get ?_);rw [b.kn];exact BQ (wpS_lift (Fc (C _ _ _ _ m1 m2 hd ⟨rfl,CN h⟩)))
def aEu :Up f xs 1:=λi j h1 h2=>by omega
def asc (C:Cmp prog w A s kd f o){st:SortSt}(b:Sb f kd o st){a r:Nat}(hr:r<=o.size)(ha:1<=a)(har:a<=r)(hs:Up f (arrOf st) a){Q:AscSt->SortSt->Prop}
  (h:∀ n,a<=n->n<=r->Up f (arrOf st) n->(n=r\/ka f (arrOf st) n<ka f (arrOf st) (n-1))->Q (none,n) st):wpS (model prog w) A E s (ascLoop a r) Q st:=by
 unfold ascLoop;refine wpS_forRange (I:=λx c u=>u=st/\c=(none,x)/\Up f (arrOf st) x) (λx c u h1 h2 h3=>?_) (λc u h3=>?_) ⟨rfl,rfl,hs⟩
 ·obtain ⟨rfl,rfl,up⟩:=h3
  refine BQ (wZ C b (by omega) (by omega) (by omega) ?_)
  by_cases l:ka f (arrOf u) x<ka f (arrOf u) (x-1)
  ·simp only [l,decide_true,if_true]
   exact CN (h x h1 (by omega) up (.inr l))
  ·simp only [l,decide_false,BS,if_false]
   have l':=xH (b.ne (by omega) (by omega) (by omega)) l;refine CN ⟨rfl,rfl,λi j hij hj=>?_⟩
   by_cases jx:j<x
   ·exact up i j hij jx
   ·obtain rfl:j=x:=by omega
    by_cases ix:i=j-1
    ·rw [ix];exact l'
    ·exact List.lt_trans (up i (j-1) (by omega) (by omega)) l'
 ·obtain ⟨rfl,rfl,up⟩:=h3
  rw [show max a r=r by omega] at up ⊢;exact h r har (Ao _) up (.inl rfl)
theorem nY {n:Nat}(hn:n<=xs.size)(k:Nat):ka f (mirror xs 0 n ((n-0)/2)) k=if k<n then ka f xs (n-1-k) else ka f xs k:=by
 have e:=getElem?_mirror_all (i:=0) hn k
 by_cases l:k<n
 ·rw [if_pos ⟨Bi _,l⟩] at e
  rw [if_pos l,xK e,Nat.zero_add]
 ·rw [if_neg λq=>l q.2] at e
  rw [if_neg l,xK e]
def tail (C:Cmp prog w A s kd f o){st:SortSt}(b:Sb f kd o st){n r:Nat}(hr:r<=o.size)(h1:1<=n)(hn:n<=r)(hs:Dn f (arrOf st) n)(h:∀ m u,Sb f kd o u->1<=m->m<=r->Up f (arrOf u) m->Q (some m) u):wpS (model prog w) A E s (tail3 n r) Q st:=by
 unfold tail3;have z:n<=(arrOf st).size:=by rw [b.sz];omega
 refine BQ (wpS_reverse ?_);have b':=b.put (mirror_perm (arrOf st) 0 n ((n-0)/2));refine BQ (asc C b' hr h1 hn (λi j hij hj=>?_) λm q1 q2 q3 _=>CN (h m _ b' (by omega) q2 q3));show ka f (mirror _ 0 n _) i<ka f (mirror _ 0 n _) j;rw [nY z,nY z,if_pos (by omega),if_pos hj];exact hs _ _ (by omega) (by omega)
def desc (C:Cmp prog w A s kd f o){st:SortSt}(b:Sb f kd o st){n r:Nat}(hr:r<=o.size)(h1:1<=n)(hn:n<=r)(hs:Dn f (arrOf st) n){Q:DescSt->SortSt->Prop}
  (h:∀ m,n<=m->m<=r->Dn f (arrOf st) m->Q (none,m,0) st):wpS (model prog w) A E s (descLoop n r) Q st:=by
 unfold descLoop;refine wpS_forRange (I:=λx c u=>u=st/\c=(none,x,0)/\Dn f (arrOf st) x) (λx c u q1 q2 q3=>?_) (λc u q3=>?_) ⟨rfl,rfl,hs⟩
 ·obtain ⟨rfl,rfl,dn⟩:=q3
  dsimp only;refine BQ (wZ C b (by omega) (by omega) (by omega) ?_)
  by_cases l:ka f (arrOf u) x<ka f (arrOf u) (x-1)
  ·simp only [l,decide_true,if_true,gt_iff_lt,Ce,if_false]
   refine CN ⟨rfl,rfl,λi j hij hj=>?_⟩
   by_cases jx:j<x
   ·exact dn i j hij jx
   ·obtain rfl:j=x:=by omega
    by_cases ix:i=j-1
    ·rw [ix];exact l
    ·exact List.lt_trans l (dn i (j-1) (by omega) (by omega))
  ·simp only [l,decide_false,BS,if_false]
   have l':=xH (b.ne (by omega) (by omega) (by omega)) l;refine BQ (wZ C b (by omega) (by omega) (by omega) ?_);simp only [l',decide_true,if_true];exact CN (h x q1 (by omega) dn)
 ·obtain ⟨rfl,rfl,dn⟩:=q3
  rw [show max n r=r by omega] at dn ⊢;exact h r hn (Ao _) dn
theorem count (C:Cmp prog w A s kd f o){st:SortSt}(b:Sb f kd o st){r:Nat}(hr:r<=o.size)(h1:1<=r)(h:∀ m u,Sb f kd o u->1<=m->m<=r->Up f (arrOf u) m->Q (some m) u):wpS (model prog w) A E s (countRun' 0 r) Q st:=by
 rw [countRun0_eq];refine BQ (asc C b hr (Ao 1) h1 aEu λn q1 q2 up or=>?_);dsimp only
 by_cases nr:n=r
 ·rw [if_pos (by simpa using nr)]
  exact CN (h n st b q1 q2 up)
 ·rw [if_neg (by simpa using nr)]
  by_cases n1:n > 1
  ·rw [if_pos n1]
   refine BQ (wZ C b (by omega) (by omega) (by omega) ?_);have l:=up 0 (n-1) (by omega) (by omega);simp only [l,decide_true,if_true];exact CN (h n st b q1 q2 up)
  ·rw [if_neg n1]
   obtain rfl:n=1:=by omega
   have l:=or.resolve_left nr;unfold descPart;refine BQ (wpS_lift (Dp ⟨rfl,?_⟩));refine BQ (desc C b hr (by omega) (by omega) (λi j hij hj=>?_) λm p1 p2 dn=>?_)
   ·obtain rfl:i=0:=by omega
    obtain rfl:j=1:=by omega
    exact l
   ·simp only [gt_iff_lt,Ce,if_false]
    exact tail C b hr (by omega) p2 dn h
theorem nZ {k l:Nat}(hk:k<xs.size)(hl:l<=k)(i:Nat):ka f (bubble xs k (k-l)) i=if i=l then ka f xs k else if l<i/\i<=k then ka f xs (i-1) else ka f xs i:=by
 have e:=getElem?_bubble hk (k-l) (Nat.sub_le _ _) i;rw [show k-(k-l)=l by omega] at e
 by_cases c1:i=l
 ·rw [if_pos c1] at e ⊢;exact xK e
 ·rw [if_neg c1] at e ⊢
  by_cases c2:l<i/\i<=k
  ·rw [if_pos c2] at e ⊢;exact xK e
  ·rw [if_neg c2] at e ⊢;exact xK e
end
section
variable {prog:AF}{w:World}{A:Around}{E:Value->Shared->Prop}{s:Shared}{o:Array Keyed}{f:Value->Ky}{kd:SortKind}
def At (f:Value->Ky)(xs:Array Keyed)(k l r:Nat):Prop:=(∀ i,i<l->ka f xs i<ka f xs k)/\∀ i,r<=i->i<k->ka f xs k<ka f xs i
def aEt {k l:Nat}(hk:k<xs.size)(hl:l<=k)(up:Up f xs k)(a:At f xs k l l):Up f (bubble xs k (k-l)) (k+1):=by
 intro i j hij hj;rw [nZ hk hl,nZ hk hl]
 by_cases c1:i=l
 ·subst c1
  rw [if_pos rfl,if_neg (by omega),if_pos (by omega)];exact a.2 _ (by omega) (by omega)
 ·rw [if_neg c1]
  by_cases c2:j=l
  ·subst c2
   rw [if_pos rfl,if_neg (by omega)];exact a.1 _ hij
  ·rw [if_neg c2]
   by_cases c3:l<i/\i<=k
   ·rw [if_pos c3,if_pos (by omega)]
    exact up _ _ (by omega) (by omega)
   ·rw [if_neg c3]
    by_cases c4:l<j/\j<=k
    ·rw [if_pos c4]
     exact up _ _ (by omega) (by omega)
    ·rw [if_neg c4]
     exact up _ _ hij (by omega)
def binary (C:Cmp prog w A s kd f o){st:SortSt}(b:Sb f kd o st){n m:Nat}(hn:n<=o.size)(hm:m<=n)(hs:Up f (arrOf st) m){Q:Bool->SortSt->Prop}
  (h:∀ u,Sb f kd o u->Up f (arrOf u) n->Q true u):wpS (model prog w) A E s (binarySort' 0 n m) Q st:=by
 rw [binarySort'_eq];simp only [Nat.zero_add];refine BQ (wpS_mono (wpS_forRange (I:=λk c u=>c=(none,())/\Sb f kd o u/\Up f (arrOf u) (min k n)) (Q:=λc u=>c=(none,())/\Sb f kd o u/\Up f (arrOf u) n)
  (λk c u q1 q2 q3=>?_) (λc u q3=>?_) ⟨rfl,b,λi j hij hj=>hs i j hij (by omega)⟩) λc u q=>?_)
 ·obtain ⟨rfl,b',up⟩:=q3
  rw [show min k n=k by omega] at up;have ko:k<o.size:=by omega
  refine BQ (wpS_mono (wpS_forRange (I:=λx c v=>v=u/\∃ l r,c=(none,l,r)/\l<=r/\r<=k/\r-l<=k-x/\At f (arrOf u) k l r) (Q:=λc v=>v=u/\∃ l r,c=(none,l,r)/\l<=k/\At f (arrOf u) k l l)
   (λx c v p1 p2 p3=>?_) (λc v p3=>?_) ⟨rfl,0,k,rfl,by omega,by omega,by omega,λi hi=>by omega,λi g1 g2=>by omega⟩) λc v p=>?_)
  ·obtain ⟨rfl,l,r,rfl,g1,g2,g3,a1,a2⟩:=p3
   dsimp only
   by_cases lr:l ≥ r
   ·rw [if_pos lr]
    obtain rfl:l=r:=by omega
    exact CN ⟨rfl,l,l,rfl,g2,a1,a2⟩
   ·rw [if_neg lr]
    refine BQ (wZ C b' ko (by omega) (by omega) ?_)
    by_cases ls:ka f (arrOf v) k<ka f (arrOf v) ((l+r)/2)
    ·simp only [ls,decide_true,if_true]
     refine CN ⟨rfl,l,(l+r)/2,rfl,by omega,by omega,by omega,a1,λi t1 t2=>?_⟩
     by_cases im:i=(l+r)/2
     ·rw [im];exact ls
     ·exact List.lt_trans ls (up _ _ (by omega) t2)
    ·simp only [ls,decide_false,BS,if_false]
     have ls':=xH (b'.ne ko (by omega) (by omega)) ls;refine CN ⟨rfl,(l+r)/2+1,r,rfl,by omega,by omega,by omega,λi t1=>?_,a2⟩
     by_cases im:i=(l+r)/2
     ·rw [im];exact ls'
     ·exact List.lt_trans (up _ _ (by omega) (by omega)) ls'
  ·obtain ⟨rfl,l,r,rfl,g1,g2,g3,a1⟩:=p3
   obtain rfl:l=r:=by omega
   exact ⟨rfl,l,l,rfl,g2,a1⟩
  ·obtain ⟨rfl,l,r,rfl,g2,a1⟩:=p
   dsimp only;rw [moveDown'_eq];refine BQ (wpS_modify (CN ⟨rfl,b'.put (bubble_perm _ _ _),?_⟩));rw [show min (k+1) n=k+1 by omega];exact aEt (by rw [b'.sz];exact ko) g2 up a1
 ·obtain ⟨rfl,b',up⟩:=q3
  rw [show min (max (max m 1) n) n=n by omega] at up;exact ⟨rfl,b',up⟩
 ·obtain ⟨rfl,b',up⟩:=q
  exact CN (h u b' up)
def Dne (f:Value->Ky)(o:Array Keyed)(st:SortSt):Prop:=(arrOf st).Perm o/\failedOf st=none/\(pendingOf st).size=1/\Up f (arrOf st) o.size
def Sb.dne {st:SortSt}(b:Sb f kd o st)(up:Up f (arrOf st) o.size):Dne f o (setPending st ((pendingOf st).push x)):=
 ⟨b.pm,b.fl,by show ((pendingOf st).push x).size=1;rw [b.pe];rfl,up⟩
def runs (C:Cmp prog w A s kd f o){st:SortSt}(b:Sb f kd o st)(h2:2<=o.size)(h64:o.size<64)(h:∀ u,(arrOf u).Perm o->failedOf u=none->Up f (arrOf u) o.size->Q () u):wpS (model prog w) A E s sortRuns' Q st:=by
 rw [sortRuns'_eq];refine BQ (wpS_get ?_);dsimp only;have mr:minRun' o.size o.size 0=o.size:=by
  generalize hz:o.size=z at h2 h64;cases z with
  |zero=>omega
  |succ z=>rw [minRun'_succ,if_pos h64]
 simp only [b.sz,mr];refine BQ (wpS_mono (wpS_forRange (I:=λx c u=>(x=0/\c=(none,0)/\Sb f kd o u)\/(0<x/\c=(none,o.size)/\Dne f o u)) (Q:=λc u=>c=(none,o.size)/\Dne f o u)
  (λx c u q1 q2 q3=>?_) (λc u q3=>?_) (.inl ⟨rfl,rfl,b⟩)) λc u q=>?_)
 ·rcases q3 with ⟨rfl,rfl,b'⟩|⟨x1,rfl,d⟩
  ·dsimp only
   rw [if_neg (by omega)];simp only [Nat.sub_zero,Nat.min_self,Nat.zero_add];refine BQ (count C b' (Ao _) (by omega) λm v b2 m1 m2 up=>?_);dsimp only
   by_cases lt:m<o.size
   ·rw [if_pos lt]
    refine BQ (wpS_lift (Dp ⟨rfl,?_⟩));refine BQ (binary C b2 (Ao _) m2 up λv3 b3 up3=>?_);simp only [Bool.not_true,BS,if_false];refine BQ (wpS_get ?_);rw [show (pendingOf v3).back?=none by rw [b3.pe];rfl];exact BQ (wpS_modify (CN (.inr ⟨by omega,rfl,b3.dne up3⟩)))
   ·rw [if_neg lt]
    obtain rfl:m=o.size:=by omega
    refine BQ (wpS_get ?_);rw [show (pendingOf v).back?=none by rw [b2.pe];rfl];exact BQ (wpS_modify (CN (.inr ⟨by omega,rfl,b2.dne up⟩)))
  ·dsimp only
   rw [if_pos (Ao _)];exact CN ⟨rfl,d⟩
 ·rcases q3 with ⟨x0,_,_⟩|⟨_,e,d⟩
  ·omega
  ·exact ⟨e,d⟩
 ·obtain ⟨rfl,d⟩:=q
  dsimp only;refine BQ (wpS_mono (wpS_forRange (I:=λ_ c v=>v=u/\c=(none,())) (Q:=λc v=>v=u/\c=(none,())) (λx c v p1 p2 p3=>?_) (λ_ _ p=>p) ⟨rfl,rfl⟩) λc v p=>?_)
  ·obtain ⟨rfl,rfl⟩:=p3
   refine BQ (wpS_get ?_);rw [if_pos (by rw [d.2.2.1];exact Ao 1)];exact CN ⟨rfl,rfl⟩
  ·obtain ⟨rfl,rfl⟩:=p
   exact CN (h _ d.1 d.2.1 d.2.2.2)
end
def Tp (h:Heap)(nm:Value->Str)(v:Value):Prop:=∃ a o xs n t r,v=.ref a/\h.get? a=some o/\o.cls=.type "tuple" /\ o.data=.seq xs n/\xs.toList=.str (nm v) t::r
theorem pB:∀ vs:List Value,vs.zip vs=vs.map λv=>(v,v)
 |[]=>rfl
 |v::vs=>by rw [Fg,pB vs,Bb]
section
variable {prog:AF}{w:World}{A:Around}{E:Value->Shared->Prop}{s:Shared}{nm:Value->Str}{vs:List Value}
abbrev kf (nm:Value->Str):Value->Ky:=λv=>(nm v).cps.toList
def aFr {f:Value->Ky}(hp:xs.Perm (pairsOf vs))(hu:Up f xs (pairsOf vs).size):(xs.map (·.2)).toList.Perm vs/\(xs.map (·.2)).toList.Pairwise λu v=>f u<f v:=by
 have hl:=DS.mp hp;rw [pairsOf_toList,pB] at hl;have same:∀ p∈xs.toList,p.1=p.2:=λp h=>by
  obtain ⟨v,_,rfl⟩:=AY.mp (hl.mem_iff.mp h);rfl
 refine ⟨?_,?_⟩
 ·rw [Array.toList_map]
  refine (hl.map (·.2)).trans ?_;rw [Bw,show ((λp:Keyed=>p.2) ∘ λv:Value=>(v,v))=id from rfl,List.map_id]
 ·rw [Array.toList_map,De,List.pairwise_iff_getElem]
  intro i j hi hj hij;rw [<- same _ (EJ hi),<- same _ (EJ hj)];have hi':i<xs.size:=by simpa using hi
  have hj':j<xs.size:=by simpa using hj
  have g:=hu i j hij (by rw [<- hp.size_eq];exact hj');have e1:ka f xs i=f xs[i].1:=by unfold ka;rw [getElem?_pos xs i hi'];rfl
  have e2:ka f xs j=f xs[j].1:=by unfold ka;rw [getElem?_pos xs j hj'];rfl
  rw [e1,e2] at g
  simpa using g
end
end L2.TS
namespace L2
open PySem PySem.Spec PyProof.Rows
def nmH (H:Hp)(a:Addr):Str:=match H a with
 |some (.tup (.str x::_))=>x
 |_=>⟨#[]⟩
def nmV (H:Hp):Value->Str
 |.ref a=>nmH H a
 |_=>⟨#[]⟩
theorem pV:∀ {as:List Addr} {us:List Value},Vals (as.map V.ref) us->us=as.map AN
 |[],_,r=>by rw [List.map_nil] at r;cases r;rfl
 |a::as,_,r=>by
  rw [Bb] at r;cases r with
  |cons r1 r2=>
   have e:_=AN a:=r1;rw [e,pV r2,Bb]
theorem mR:∀ as:List Addr,Vals (as.map V.ref) (as.map AN)
 |[]=>.nil
 |_::as=>.cons rfl (mR as)
def adOf:Value->Addr
 |.ref a=>a
 |_=>0
def rSortT (K:Ab):List V->Hp->VK->Prop:=λxs H Q=>∃ a as,xs=[.ref a]/\SqL K H a (as.map V.ref)/\as.length<64/\(∀ q∈as,∃ x r,H q=some (.tup (.str x::r)))/\(as.map (nmH H)).Nodup /\
 ∀ (p:Addr) (as':List Addr),as'.Perm as->(as'.Pairwise λu v=>(nmH H u).cps.toList<(nmH H v).cps.toList)->H p=none->Q (.ref p) (upd H p (.lst (as'.map V.ref)))
end L2
namespace L2.LM
open PySem PySem.Spec PySem.Calls PyProof.Rows PySem.W
abbrev lbody (x:Str)(k:Int)(kd:Nat)(p1 p2 p3:Pos):Expr:=.Subscript (.Name x p1) (.Constant (.int k) kd p2) p3
section
variable {prog:AF}{w:World}{A:Around}{E:Value->Shared->Prop}{s:Shared}{f c' q:Addr}{name qual x:Str}{params:Arguments}{scope:Scope}{pm ctv:Value}{k n:Int}{kd j:Nat}{p1 p2 p3:Pos}{items:Array Value}{t:Tok}
end
end L2.LM
namespace L2
open PySem PySem.Spec PySem.Calls PyProof.Rows
section
variable {X:Cx}{pins:List (Addr×Obj)}{σ:St}{H:Hp}{s:Shared}
def Inv.lamNew {ps more:Array Value}{tk:Nat}(I:Inv X pins σ H s)(hP:H P=some (.tbl ps))(hx:Heap.ExtBut P s.heap h')(hc:s.heap.objs.size<=c')(hoc:h'.get? c'=some oc)(htb:h'.get? P=some (PySem.W.tabObj (ps++more))):Inv X pins σ (upd (upd H P (.tbl (ps++more))) c' (.frz oc (.own 0))) { s with heap:=h',toks:=tk }:=by
 have hn:H c'=none:=I.hok.fresh hc;have nP:∀ b u,H b=some u->(∀ ps,u≠.tbl ps)->b≠P:=λb u e n z=>by rw [z,hP] at e;cases e;exact n _ rfl
 have nP0:∀ b,H b=none->b≠P:=λb e z=>by rw [z,hP] at e;cases e
 have nc:∀ b u,H b=some u->b≠c':=λb u e=>aI e hn;have up:∀ b u,H b=some u->(∀ ps,u≠.tbl ps)->upd (upd H P (.tbl (ps++more))) c' (.frz oc (.own 0)) b=some u:=λb u e n=>by rw [aE (nc b u e),aE (nP b u e n)];exact e
 refine I.step (g':=s.gens) (d':=s.drawn) (ch:=[]) (λ_ z=>nomatch z) (λb o _ _ _ e n=>hx b o (nP0 b n) e) (λb o _ _ _ e n=>⟨o.slots,hx b o (nP0 b n) e⟩)
  (λb o _ e n=>by rw [aE (AG (AX (Ar e) hc)),aE (nP0 b n)];exact n) (λb o _ e=>?_) (λb xs e=>up b _ e λ_ z=>by cases z) (λb o u e=>up b _ e λ_ z=>by cases z) (λb qs e=>?_)
  (λm hm=>?_) (λb u e=>?_) I.bare
 ·by_cases hb:b=P
  ·subst hb;exact ⟨_,htb⟩
  ·exact ⟨o,hx b o hb e⟩
 ·by_cases hb:b=P
  ·subst hb
   rw [hP] at e;cases e;exact ⟨more,by rw [aE (nc b _ hP),aB]⟩
  ·exact ⟨#[],by rw [aE (nc b _ e),aE hb,e];simp⟩
 ·obtain ⟨o,es,ep,ho,r⟩:=hm
  exact ⟨o,es,ep,hx _ o (nP0 _ I.free) ho,r⟩
 ·by_cases hb:b=c'
  ·subst hb
   rw [aB] at e;cases e;exact ⟨hoc,oc,hoc⟩
  ·rw [aE hb] at e
   by_cases hb2:b=P
   ·subst hb2
    rw [aB] at e;cases e;exact htb
   ·rw [aE hb2] at e
    refine (I.hok b u e).stay (λd v hd q=>hx d v ?_ q) (λd q=>up d _ q λ_ z=>by cases z) λd xs q=>up d _ q λ_ z=>by cases z
    rcases hd with z|z
    ·rw [z];exact hb2
    ·exact nP d _ z λ_ y=>by cases y
end
structure LamB (mg:Str->Option Value)(base:Heap)(c P:Addr):Prop where
 code:PySem.W.CodeHd base c P
 gne:As≠P
 bm:base.BuiltinsAt mg P
def LamT (H:Hp)(P:Addr)(qual:Str)(pos:Pos):Prop:=H P=some (.tbl #[])\/∃ c' oc vs t u,H P=some (.tbl #[rawInt pos.line,rawInt pos.col,.ref c'])/\H c'=some (.frz oc u)/\oc.data=.fields vs/\vs[1]?=some (.str qual t)
def SameB (P:Addr)(H H':Hp):Prop:=∀ b o,b≠P->H b=some o->H' b=some o
theorem SameB.trans (a:SameB P H H1)(b:SameB P H1 H2):SameB P H H2:=λc o n h=>b c o n (a c o n h)
theorem Same.b (s:Same H H'):SameB P H H':=λb o _ h=>s b o h
theorem LamT.keep {pos:Pos}(h:LamT H P qual pos)(s:Same H H'):LamT H' P qual pos:=by
 rcases h with h|⟨c',oc,vs,t,u,h1,h2,h3,h4⟩
 ·exact .inl (s _ _ h)
 ·exact .inr ⟨c',oc,vs,t,u,s _ _ h1,s _ _ h2,h3,h4⟩
def SameB.tup {a:Addr}{pos:Pos}(s:SameB P H H')(l:LamT H P qual pos)(h:H a=some (.tup xs)):H' a=some (.tup xs):=s _ _ (λe=>by
 rcases l with l|⟨c',oc,vs,t,u,l,_⟩<;>rw [e,l] at h<;>cases h) h
theorem SameB.lst {a:Addr}{pos:Pos}(s:SameB P H H')(l:LamT H P qual pos)(h:H a=some (.lst xs)):H' a=some (.lst xs):=s _ _ (λe=>by
 rcases l with l|⟨c',oc,vs,t,u,l,_⟩<;>rw [e,l] at h<;>cases h) h
def SameB.frz {a:Addr}{pos:Pos}(s:SameB P H H')(l:LamT H P qual pos)(h:H a=some (.frz o w)):H' a=some (.frz o w):=s _ _ (λe=>by
 rcases l with l|⟨c',oc,vs,t,u,l,_⟩<;>rw [e,l] at h<;>cases h) h
def dS {P a:Addr}{pos:Pos}(l:LamT H P qual pos)(h:H a=some o)(n:∀ ps,o≠.tbl ps):a≠P:=λe=>by
 rcases l with l|⟨c',oc,vs,t,u,l,_⟩<;>rw [e,l] at h<;>cases h<;>exact n _ rfl
def tSortK (K:Ab)(P:Addr)(qual:Str)(lpos:Pos)(k:Int)(te:TE):TE:=λσ H Q=>te σ H λx H1=>∃ (a:Addr) (as:List Addr) (key:Addr->Int),x=.ref a/\SqL K H1 a (as.map V.ref)/\as.length<64/\LamT H1 P qual lpos /\
 (∀ q∈as,∃ xs,H1 q=some (.tup xs)/\atI xs k=some (.int (key q))) /\
 ∀ (p:Addr) (as':List Addr) (H2:Hp),as'.Perm as->(as'.Pairwise λu v=>key u<=key v)->SameB P H1 H2->LamT H2 P qual lpos->H1 p=none->H2 p=some (.lst (as'.map V.ref))->Q (.ref p) H2
def lmX (X:Cx)(N':List Str)(qual:Str)(scope:Scope)(cl:List (Str×Addr))(f:Addr)(cd:Value)(A:Around)(s:Shared)(H:Hp):Cx where
 prog:=X.prog
 w:=X.w
 K:=X.K
 mg:=X.mg
 base:=X.base
 A:=A.deeper (PySem.W.envX qual scope s.heap.objs.size f cd cl)
 N:=N'
 s₀:=s
 H₀:=H
 env:=PySem.W.envX qual scope s.heap.objs.size f cd cl
 outer:=X.stack
 stack:=PySem.W.envX qual scope s.heap.objs.size f cd cl::X.stack
 ex:=[]
 fn:=λ_=>false
 calm:=true
 pn:=[]
 xe:=λ_ _=>False
structure LmS (scope:Scope)(x y:Str):Prop where
 kind:scope.kind=.function
 co:scope.isCoroutine=false
 gen:scope.isGenerator=false
 cell:∀ z∈scope.names,z.2≠.cell
 loc:scope.names.lookup x=some .local
 fre:scope.names.lookup y=some .free
 only:∀ z,scope.names.lookup z=some .free->z=y
section
variable {X:Cx}{pins:List (Addr×Obj)}{σ:St}{H:Hp}{s:Shared}
def xG (I:Inv X pins σ H s)(hA:A.frames=some X.stack)(hh:A.handled=none)(hroom:A.depth<recursionLimit){f c' cc:Addr}{pm ctv u uy:Value}(ru:RelV v u)(ry:RelV vy uy)(S:LmS scope x y)(xy:x≠y)(ho:s.heap.get? f=some (CU "<lambda>" qual params body scope [(y,cc)] pm c' ctv))(hcd:s.heap.CodeRec (.ref c') qual)(hb:bindArgs (PySem.W.kla_fn "<lambda>" qual params body scope [(y,cc)] pm (.ref c') ctv) ⟨[u],[]⟩=pure [(x,u)])(hcell:s.heap.IsCell cc (some uy))(hcn:H cc=none){t:TE}(hp:PE (lmX X [x,y] qual scope [(y,cc)] f (.ref c') A s H) body t)(q:t [some v,some vy] H Q) :
  wpAny (model X.prog X.w) A (call (.ref f) [u]) (λu' s'=>CE X.stack X.prog X.w H s Q u' s') (λ_ _=>False) s:=by
 refine EM (PySem.W.kla_callFunE hroom ho rfl S.co S.gen rfl hcd ?_);rw [hb];have e0:=I.env0;have lim:s.heap.NoLimit:=I.nolimit;refine Ag (wpAny_newFunctionEnv S.cell (λz hz=>?_) (λh₁ hns hsb=>?_) S.kind)
 ·have e:z=(x,u):=by simpa using hz
  rw [e];exact S.loc
 ·have hk₁:∀ b o,s.heap.get? b=some o->h₁.get? b=some o:=λb o e=>hsb.extBut b o (AG (Ar e)) (Ae _ e)
  refine ⟨lim.keeps hk₁,PySem.W.kla_codeExpr ?_⟩;have lk:∀ z c,(PySem.W.envX qual scope s.heap.objs.size f (.ref c') [(y,cc)]).cells.lookup z=some c->z=y/\c=cc:=λz c e=>by
   have e':[(y,cc)].lookup z=some c:=e;rw [Dr] at e'
   by_cases zy:z=y
   ·subst zy
    simp at e';exact ⟨rfl,e'.symm⟩
   ·rw [beq_false_of_ne zy] at e'
    simp at e'
  have lky:(PySem.W.envX qual scope s.heap.objs.size f (.ref c') [(y,cc)]).cells.lookup y=some cc:=by
   show [(y,cc)].lookup y=some cc;simp
  have noA:∀ b:Addr,b∉(lmX X [x,y] qual scope [(y,cc)] f (.ref c') A s H).ex:=λb z=>absurd (show b∈([]:List Addr) from z) (by simp);have J:Inv (lmX X [x,y] qual scope [(y,cc)] f (.ref c') A s H) [] [some v,some vy] H { s with heap:=h₁,toks:=s.toks+1 }:=by
   refine ⟨⟨e0.mod,S.kind,rfl,rfl,Ao _,λa b c h1 h2=>?_,λa ha=>?_,λa c h _=>(by cases h),λ_=>hh,Around.frames_deeper hA,.inr ⟨rfl,rfl⟩,λb z=>absurd z (noA b),e0.bs,e0.bsz,λb _ _=>noA b,λb z=>absurd z (noA b),e0.funs,e0.frf⟩,
    rfl,e0.bare,Un.kept hk₁,⟨_,hns,λi z w h1 h2 h3=>?_⟩,λa c h=>?_,e0.hok.fresh (Ao _),λa c h=>?_,λp hp=>absurd (show p∈([]:List (Addr×Obj)) from hp) (by simp),e0.hok.kept hk₁,rfl⟩
   ·rw [(lk a c h1).1,(lk b c h2).1]
   ·have ha:scope.names.lookup a=some .cell\/scope.names.lookup a=some .free:=ha
    rcases ha with ha|ha
    ·exact absurd rfl (S.cell _ (BW ha))
    ·rw [S.only a ha]
     exact ⟨cc,lky⟩
   ·match i,h1,h2 with
    |0,h1,h2=>
     have h1':x=z:=by
      have h1:some x=some z:=h1;exact AS h1
     have h2':v=w:=by
      have h2:some (some v)=some (some w):=h2;exact AS (AS h2)
     subst h1' h2';exact ⟨u,ru,.inl ⟨S.loc,by simp⟩⟩
    |1,h1,h2=>
     have h1':y=z:=by
      have h1:some y=some z:=h1;exact AS h1
     have h2':vy=w:=by
      have h2:some (some vy)=some (some w):=h2;exact AS (AS h2)
     subst h1' h2';obtain ⟨o,ho',hd'⟩:=hcell;exact ⟨uy,ry,.inr ⟨.inr S.fre,cc,lky,⟨o,hk₁ _ _ ho',hd'⟩⟩⟩
    |i+2,h1,h2=>cases h1
   ·obtain ⟨o,ho',hd'⟩:=hcell
    rw [(lk a c h).2];exact ⟨_,o,hk₁ _ _ ho',hd'⟩
   ·rw [(lk a c h).2]
    exact hcn
  exact BH (hp [] _ [some v,some vy] H Q J q) (λu' s' ⟨v',H',J',rv,q'⟩=>⟨v',H',J'.os,J'.bare,J'.base,J'.hok,rv,q'⟩) λ_ _ z=>z.elim
def Inv.poke {tk:Nat}(I:Inv X pins σ H s)(n0:X.s₀.heap.objs.size<=kS)(nL:kS≠X.env.locals)(nC:∀ x c,X.env.cells.lookup x=some c->c≠kS)(nP:∀ p∈X.pn++pins,p.1≠kS)(hn:H kS=none)(hs:Bq kS s.heap h') :
  Inv X pins σ H { s with heap:=h',toks:=tk }:=by
 refine I.step (g':=s.gens) (d':=s.drawn) (ch:=[kS]) (λb hb=>?_) (λb o _ _ nb e _=>?_) (λb o _ _ nb e _=>⟨o.slots,?_⟩) (λb o _ _ n=>n) (λb o nb e=>⟨o,?_⟩) (λb xs e=>e) (λb o u e=>e) (λb qs e=>⟨#[],by rw [e];simp⟩) (λm hm=>hm.sameBut hs nL.symm) (λb u e=>?_) I.bare
 ·rw [Al.mp hb]
  exact ⟨.inr n0,nL,nC,nP⟩
 ·exact (hs.2 b (λz=>nb (by simp [z]))).trans e
 ·exact (hs.2 b (λz=>nb (by simp [z]))).trans e
 ·exact (hs.2 b (λz=>nb (by simp [z]))).trans e
 ·refine (I.hok b u e).stay (λd v hd q=>(hs.2 d ?_).trans q) (λd q=>q) λd xs q=>q
  rcases hd with z|z
  ·rw [z]
   exact λy=>by rw [y,hn] at e;cases e
  ·exact λy=>by rw [y,hn] at z;cases z
def pX {α β:Type}{R:α->β->Prop}{b b':List β}(p:b'.Perm b):∀ {a:List α},Paired R a b->∃ a',a'.Perm a/\Paired R a' b':=by
 induction p with
 |nil=>intro a h;exact ⟨a,EF.refl _,h⟩
 |cons x _ ih=>
  intro a h;cases h with
  |@cons y _ ys _ h1 h2=>
   obtain ⟨a',pa,ha⟩:=ih h2;exact ⟨y::a',pa.cons y,.cons h1 ha⟩
 |swap x y l=>
  intro a h;cases h with
  |@cons p1 _ r1 _ h1 h2=>
   cases h2 with
   |@cons p2 _ r2 _ h3 h4=>exact ⟨p2::p1::r2,EF.swap _ _ _,.cons h3 (.cons h1 h4)⟩
 |trans _ _ ih1 ih2=>
  intro a h;obtain ⟨a1,p1,h1⟩:=ih2 h;obtain ⟨a2,p2,h2⟩:=ih1 h1;exact ⟨a2,p2.trans p1,h2⟩
def tK {kz:List Int}:∀ {vs:List V} {its:List Value},Vals vs its->Paired (λ(p:Int×V) (q:Int×Value)=>p.1=q.1/\RelV p.2 q.2) (kz.zip vs) (kz.zip its):=by
 induction kz with
 |nil=>intro vs its _;exact .nil
 |cons k kz ih=>
  intro vs its r;cases r with
  |nil=>exact .nil
  |cons h t=>exact .cons ⟨rfl,h⟩ (ih t)
def xV (I:Inv X pins σ H s){b:Addr}(hb:b∈frs X.stack):@LT.lt Nat _ b s.heap.objs.size:=by
 obtain ⟨_,o,e,_⟩:=I.env0.funs.mem hb;exact Ar e
def ane {a b:Nat}(h:a≠b):@Ne Addr a b:=h
def anl {a b:Nat}(h:¬ a<b):¬ @LT.lt Nat _ a b:=h
def tY {a f:Addr}{fo:Obj}{vs:List V}{kz:List Int}{b:Bool}{kw:List (Str×Value)}{Q:VK}(I:Inv X pins σ H s)(hl:SqL X.K H a vs)(hlen:kz.length=vs.length)(h64:vs.length<64)
  (hf:s.heap.get? f=some fo) (hfn:H f=none) (hfs:f∉frs X.stack)
  (ha1:argsOk "sorted" ⟨[.ref a],kw⟩) (ha2:∀ x,argsOk "list.sort" ⟨[.ref x],kw⟩) (ht:∀ x,AU.«list.sort» ⟨[.ref x],kw⟩=ksk_tree x (.ref f) b)
  (turn:∀ (i:Nat) (v:V) (u:Value) (k:Int),vs[i]?=some v->RelV v u->kz[i]?=some k->∀ (H1:Hp) (s1:Shared),Inv X pins σ H1 s1->Same H H1->s1.heap.get? f=some fo->H1 f=none ->
   wpAny (model X.prog X.w) X.A.in1.in1 (call (.ref f) [u]) (λu' s'=>CE X.stack X.prog X.w H1 s1 (λy H2=>y=.int k/\Same H1 H2) u' s') (λ_ _=>False) s1)
  (q:∀ (D:Addr) (ps:List (Int×V)) (H':Hp),ps.Perm (kz.zip vs)->(ps.Pairwise λp q=>if b then q.1<=p.1 else p.1<=q.1)->Same H H'->H D=none->H' D=some (.lst (ps.map (·.2)))->Q (.ref D) H') :
  wpAny (model X.prog X.w) X.A (call (.builtin "sorted") [.ref a] kw) (EP X pins σ Q) X.xe s:=by
 obtain ⟨its,r,pl,hz⟩:=I.list hl;have rl:=r.length;refine call_function_entry_kw kind_sorted plain_sorted entry_sorted ha1 ?_;unfold AU.«sorted»;refine Aa (m:=checkCount "sorted" 1 1 _) (Ag ?_);refine Aa (collect_list pl.isList ?_ (by rw [Dx];omega));refine Aa (wpAny_newList ?_ (by rw [Dx];omega));have hsz:((s.heap.push (seqObj "list" #[] 0)).update s.heap.objs.size (Br (·++its.toArray))).objs.size=s.heap.objs.size+1:=by
  rw [Ds,size_push']
 have hoL:(((s.heap.push (seqObj "list" #[] 0)).update s.heap.objs.size (Br (·++its.toArray))).push (seqObj "list" its.toArray 0)).get? (s.heap.objs.size+1)=some (seqObj "list" its.toArray 0):=by
  rw [<- hsz];exact An _ rfl
 have keep:∀ b o,s.heap.get? b=some o->(((s.heap.push (seqObj "list" #[] 0)).update s.heap.objs.size (Br (·++its.toArray))).push (seqObj "list" its.toArray 0)).get? b=some o:=λb o q=>by
  have hlt:b<s.heap.objs.size:=Ar q;rw [Cm _ _ _ (by rw [hsz];exact AG (Co hlt)),Heap.get?_update_ne _ _ _ _ (AG hlt),Cm _ _ _ (AG hlt)];exact q
 have hsA:(((s.heap.push (seqObj "list" #[] 0)).update s.heap.objs.size (Br (·++its.toArray))).push (seqObj "list" its.toArray 0)).objs.size=s.heap.objs.size+2:=by rw [size_push',hsz]
 show wpAny _ _ _ _ _ { s with heap:=((s.heap.push (seqObj "list" #[] 0)).update s.heap.objs.size (Br (·++its.toArray))).push (seqObj "list" its.toArray 0) };rw [hsz];generalize ((s.heap.push (seqObj "list" #[] 0)).update s.heap.objs.size (Br (·++its.toArray))).push (seqObj "list" its.toArray 0)=hA at hoL keep hsA ⊢;refine Aa (BE (wpAny_call_entry_kw slot_list_sort ⟨_,hoL,rfl⟩ entry_list_sort ?body (ha2 _)))
 case body=>
  have ht':=ht (s.heap.objs.size+1);show wpAny (model X.prog X.w) X.A.in1.in1 (AU.«list.sort» ⟨[.ref (s.heap.objs.size+1)],kw⟩) _ _ _;rw [ht'];have s1:=Cd hA (s.heap.objs.size+1) (Br λ_=>(#[]:Array Value));obtain ⟨e1,ho1⟩:∃ e1,(hA.update (s.heap.objs.size+1) (Br λ_=>(#[]:Array Value))).get? (s.heap.objs.size+1)=some (seqObj "list" #[] e1):=⟨_,get?_update_seq hoL λ_=>#[]⟩;have hsB:(hA.update (s.heap.objs.size+1) (Br λ_=>(#[]:Array Value))).objs.size=s.heap.objs.size+2:=by rw [Ds,hsA]
  unfold ksk_tree;refine Aa (listItems_at hoL rfl ?_);refine Aa (listUpdate_at hoL rfl ?_ (by rw [Ai,Dx];omega) (Bi _));have kB:∀ b o,s.heap.get? b=some o->(hA.update (s.heap.objs.size+1) (Br λ_=>(#[]:Array Value))).get? b=some o:=λb o e=>(s1.2 b (AG (Co (Ar e)))).trans (keep b o e);dsimp only;generalize hA.update (s.heap.objs.size+1) (Br λ_=>(#[]:Array Value))=hB at ho1 hsB kB ⊢;refine Aa (seqEpoch_at ho1 rfl ?_);refine Aa (wpAny_newTuple ?_ (by show its.length<=_;rw [Dx];omega));refine Aa (wpAny_newList ?_ (Bi _));refine BE ?_;have hsT:(hB.push (seqObj "tuple" its.toArray 0)).objs.size=s.heap.objs.size+3:=by rw [size_push',hsB]
  have kC:∀ b o,hB.get? b=some o->((hB.push (seqObj "tuple" its.toArray 0)).push (seqObj "list" #[] 0)).get? b=some o:=λb o e=>Ae _ (Ae _ e);have hkS:((hB.push (seqObj "tuple" its.toArray 0)).push (seqObj "list" #[] 0)).get? (s.heap.objs.size+3)=some (seqObj "list" #[] 0):=by rw [<- hsT];exact An _ rfl
  show wpAny _ _ (ksk_rest (s.heap.objs.size+1) (.ref f) b its.toArray e1 (.ref (hB.push (seqObj "tuple" its.toArray 0)).objs.size)) _ _ { s with heap:=(hB.push (seqObj "tuple" its.toArray 0)).push (seqObj "list" #[] 0) };rw [hsT];generalize (hB.push (seqObj "tuple" its.toArray 0)).push (seqObj "list" #[] 0)=hC at kC hkS ⊢;have hoD:=kC _ _ ho1;have kD:∀ b o,s.heap.get? b=some o->hC.get? b=some o:=λb o e=>kC b o (kB b o e);clear kC kB s1 ho1 hoL keep hsA hsB hsT hsz;have szs:=I.sz;have ltL:@LT.lt Nat _ X.env.locals s.heap.objs.size:=I.lt;have fD:H (s.heap.objs.size+1)=none:=I.hok.fresh (by omega);have fK:H (s.heap.objs.size+3)=none:=I.hok.fresh (by omega);have nfD:s.heap.objs.size+1∉frs X.stack:=λz=>absurd (xV I z) (anl (by omega));have nfK:s.heap.objs.size+3∉frs X.stack:=λz=>absurd (xV I z) (anl (by omega));have cl:∀ x c,X.env.cells.lookup x=some c->@LT.lt Nat _ c s.heap.objs.size:=λx c e=>by
   obtain ⟨v,o,ho,_⟩:=I.cell x c e;exact Ar ho
  have pl':∀ p∈X.pn++pins,@LT.lt Nat _ p.1 s.heap.objs.size:=λp hp=>Ar (I.pin p hp).1;have hch:∀ n:Nat,1<=n->(s.heap.objs.size+n≠X.env.locals)/\(∀ x c,X.env.cells.lookup x=some c->c≠s.heap.objs.size+n)/\∀ p∈X.pn++pins,p.1≠s.heap.objs.size+n:=λn hn=>⟨ane (by omega),λx c e=>(by have:=cl x c e;exact ane (by omega)),λp hp=>(by have:=pl' p hp;exact ane (by omega))⟩;have I0:Inv X pins σ H { s with heap:=hC }:=I.kept (t':=s.toks) kD;unfold ksk_rest;refine Aa (Dp ?_)
  first
   |rw [List.forIn_toArray]
   |(rw [<- Array.forIn_toList];simp only [List.toList_toArray])
   |rw [<- Array.forIn_toList]
  refine Aa (ksk_fold (λi s'=>∃ (Hi:Hp) (kA:Array Value) (e:Nat),Inv X pins σ Hi s'/\Same H Hi/\s'.heap.get? (s.heap.objs.size+1)=some (seqObj "list" #[] e1)/\Hi (s.heap.objs.size+1)=none/\s'.heap.get? (s.heap.objs.size+3)=some (seqObj "list" kA e)/\Hi (s.heap.objs.size+3)=none/\DH kA.toList (kz.take i)/\s'.heap.get? f=some fo/\Hi f=none) its 0 _
   ⟨H,#[],0,I0,Same.refl _,hoD,fD,hkS,fK,by simpa using DH.nil,kD _ _ hf,hfn⟩ ?step ?done)
  case step=>
   rintro j x s' hx ⟨Hi,kA,e,Ii,sm,hD,nD,hK,nK,hk,hfo,nf⟩
   simp only [Nat.zero_add] at hk ⊢;have hj:j<its.length:=(Ah.mp hx).1;obtain ⟨k,hkj⟩:∃ k,kz[j]?=some k:=⟨_,Af (by omega)⟩;obtain ⟨v,hv⟩:∃ v,vs[j]?=some v:=⟨_,Af (by omega)⟩;obtain ⟨u,hu,ru⟩:=r.get hv;rw [hx] at hu;cases hu;have hz':kA.size<=its.length:=by
    have h1:=hk.length;rw [BL,CL] at h1;omega
   refine Aa (Fc (BH (turn j v x k hv ru hkj Hi s' Ii sm hfo nf) (λu' s'' he=>?_) λ_ _ hF=>hF.elim));obtain ⟨y,H2,os,bare,un,hok,ry,rfl,sm2⟩:=he;obtain ⟨t2,rfl⟩:=ry
   try dsimp only
   have I2:Inv X pins σ H2 s'':=Ii.call' (ch:=[]) os un hok bare (λb z=>absurd z (by simp));have hD2:=un.keep _ _ hD nD nfD (by simp);have hK2:=un.keep _ _ hK nK nfK (by simp);have hf2:=un.keep _ _ hfo nf hfs (by simp);have nD2:=un.free _ _ hD nD (by simp);have nK2:=un.free _ _ hK nK (by simp);have nf2:=un.free _ _ hfo nf (by simp);have sB:=Cd s''.heap (s.heap.objs.size+3) (Br (·.push (.int k t2)));obtain ⟨c2,hc2⟩:∃ c2,(s''.heap.update (s.heap.objs.size+3) (Br (·.push (.int k t2)))).get? (s.heap.objs.size+3)=some (seqObj "list" (kA.push (.int k t2)) c2):=⟨_,get?_update_seq hK2 (·.push (.int k t2))⟩;have ek:kz.take (j+1)=kz.take j++[k]:=by rw [Dd,hkj];simp
   have ea:(kA.push (Value.int k t2)).toList=kA.toList++[Value.int k t2]:=by simp
   refine Aa (listUpdate_at hK2 rfl ?_ (by rw [Dx];omega) (Bh (Nat.le_of_eq (Array.size_push ..)) (by rw [Dx];omega)));have h3:=hch 3 (by omega);refine Ag ⟨rfl,H2,kA.push (.int k t2),c2,I2.poke (tk:=s''.toks) (by omega) h3.1 h3.2.1 h3.2.2 nK2 sB,sm.trans sm2,(sB.2 _ (ane (by omega))).trans hD2,nD2,hc2,nK2,by rw [ea,ek];exact ksk_snoc hk,(sB.2 _ ?_).trans hf2,nf2⟩;have:@LT.lt Nat _ f s.heap.objs.size:=Ar hf;exact ane (by omega)
  case done=>
   rintro s' ⟨Hi,kA,e,Ii,sm,hD,nD,hK,nK,hk,hfo,nf⟩
   have hk':DH kA.toList kz:=by
    have e3:kz.take (0+its.length)=kz:=Dw (by omega);rw [e3] at hk;exact hk
   try dsimp only
   refine Aa (listItems_at hK rfl ?_);obtain ⟨m,F0⟩:=Ii.fr;have b0:∀ n:Nat,1<=n->X.base.get? (s.heap.objs.size+n)=none:=λn hn=>EU (by have:=I.ok.bsz;omega);have N0:News X.base X.env.locals s'.heap (((jV X.base s'.heap X.env.locals).filter λp=>decide (p.1≠s.heap.objs.size+3/\p.1≠s.heap.objs.size+1))++[(s.heap.objs.size+3,seqObj "list" kA e),(s.heap.objs.size+1,seqObj "list" #[] e1)]):=λp hp=>by
    rcases Av.mp hp with hp|hp
    ·exact aAx p (Ba.mp hp).1
    ·rcases Aw.mp hp with rfl|hp
     ·exact ⟨hK,(hch 3 (by omega)).1,b0 3 (by omega)⟩
     ·rw [Al.mp hp]
      exact ⟨hD,(hch 1 (by omega)).1,b0 1 (by omega)⟩
   refine ksk_end_ F0 N0 (ane (by omega)) (λp hp=>(of_decide_eq_true (Ba.mp hp).2).1) (λp hp=>(of_decide_eq_true (Ba.mp hp).2).2) hk' (by omega) (by omega) λh3 tk3 out c F3 N3 k3=>⟨_,rfl,?_⟩;obtain ⟨ps,pp,po,pw⟩:=k3;obtain ⟨qs,qp,qr⟩:=pX pp (tK (kz:=kz) r);have keep:∀ b o,b≠X.env.locals->b≠s.heap.objs.size+3->b≠s.heap.objs.size+1->s'.heap.get? b=some o->h3.get? b=some o:=λb o nb n3 n1 e=>by
    cases q:X.base.get? b with
    |some u=>
     have:=Ii.bk b u q;rw [e] at this;cases this;exact F3.keep b _ q
    |none=>exact (N3 (b,o) (Au _ (Ba.mpr ⟨qE nb q e,decide_eq_true ⟨n3,n1⟩⟩))).1
   have oD:h3.get? (s.heap.objs.size+1)=some (seqObj "list" out c):=(N3 _ (Az ..)).1;have va:Vals (qs.map (·.2)) out.toList:=by
    rw [po];have:∀ {qs:List (Int×V)} {ps:List (Int×Value)},Paired (λ(p:Int×V) (q:Int×Value)=>p.1=q.1/\RelV p.2 q.2) qs ps->Vals (qs.map (·.2)) (ps.map Prod.snd):=λ{qs ps} h=>by
     induction h with
     |nil=>exact .nil
     |cons h1 _ ih=>exact .cons h1.2 ih
    exact this qr
   have qw:qs.Pairwise λp q=>if b then q.1<=p.1 else p.1<=q.1:=by
    have em:qs.map (·.1)=ps.map (·.1):=by
     clear pw po pp qp va
     induction qr with
     |nil=>rfl
     |cons h1 _ ih=>rw [Bb,Bb,ih,h1.1]
    have w1:(ps.map (·.1)).Pairwise λx y:Int=>if b then y<=x else x<=y:=De.mpr pw;rw [<- em] at w1;exact De.mp w1
   have ql:qs.length<=1000:=by rw [qp.length_eq,List.length_zip];omega
   have nL:∀ b u,Hi b=some u->b≠X.env.locals:=λb u e=>aI e Ii.free;have same:∀ b u,Hi b=some u->upd Hi (s.heap.objs.size+1) (.lst (qs.map (·.2))) b=some u:=λb u e=>by rw [aE (aI e nD)];exact e
   refine Ag ⟨_,rfl,.ref (s.heap.objs.size+1),upd Hi (s.heap.objs.size+1) (.lst (qs.map (·.2))),?_,rfl,q _ qs _ qp qw (λb o e=>same b o (sm b o e)) fD aB⟩;refine Ii.step (g':=s'.gens) (d':=s'.drawn) (ch:=[s.heap.objs.size+3,s.heap.objs.size+1]) (λb hb=>?_) (λb o nb _ nc e _=>keep b o nb (λz=>nc (by simp [z])) (λz=>nc (by simp [z])) e) (λb o nb _ nc e _=>⟨o.slots,keep b o nb (λz=>nc (by simp [z])) (λz=>nc (by simp [z])) e⟩)
    (λb o nc _ n=>by rw [aE (λz=>nc (by simp [z]))];exact n) (λb o nc e=>?_) (λb xs e=>same b _ e) (λb o u e=>same b _ e) (λb qs' e=>⟨#[],by rw [same b _ e];simp⟩) (λm' hm=>?_) (λb u e=>?_) Ii.bare
   ·rcases Aw.mp hb with rfl|hb
    ·exact ⟨.inr (by omega),hch 3 (by omega)⟩
    ·rw [Al.mp hb]
     exact ⟨.inr (by omega),hch 1 (by omega)⟩
   ·by_cases hbL:b=X.env.locals
    ·subst hbL
     obtain ⟨o',_,_,ho',_⟩:=F3.ns;exact ⟨o',ho'⟩
    ·exact ⟨o,keep b o hbL (λz=>nc (by simp [z])) (λz=>nc (by simp [z])) e⟩
   ·have e1:=hm.eq_nsMap
    have e2:=F0.ns.eq_nsMap;rw [e1,<- e2];exact F3.ns
   ·by_cases hb:b=s.heap.objs.size+1
    ·subst hb
     rw [aB] at e;cases e;refine nW (its:=out.toList) (e:=c) va (by rw [Ac];exact bL ql) ?_;rw [DV];exact oD
    ·rw [aE hb] at e
     refine (Ii.hok b u e).stay (λd v hd q=>keep d v ?_ ?_ ?_ q) (λd q=>same d _ q) λd xs q=>same d _ q
     ·rcases hd with z|z
      ·rw [z];exact nL b u e
      ·exact nL d _ z
     ·rcases hd with z|z
      ·rw [z];exact aI e nK
      ·exact aI z nK
     ·rcases hd with z|z
      ·rw [z];exact hb
      ·exact aI z nD
end
def aEw (K:Ab)(P:Addr)(qual:Str)(lpos:Pos)(b:Bool)(i:Nat)(te tb:TE):TE:=λσ H Q=>te σ H λx H1=>∃ (a:Addr) (vs:List V) (kz:List Int) (w:V),x=.ref a/\SqL K H1 a vs/\vs.length<64/\kz.length=vs.length/\LamT H1 P qual lpos/\σ[i]?=some (some w) /\
 (∀ (j:Nat) (v:V) (k:Int),vs[j]?=some v->kz[j]?=some k->∀ H2,SameB P H1 H2->tb [some v,some w] H2 λy H3=>y=.int k/\Same H2 H3) /\
 ∀ (p:Addr) (ps:List (Int×V)) (H2:Hp),ps.Perm (kz.zip vs)->(ps.Pairwise λp q=>if b then q.1<=p.1 else p.1<=q.1)->SameB P H1 H2->LamT H2 P qual lpos->H1 p=none->H2 p=some (.lst (ps.map (·.2)))->Q (.ref p) H2
def zT {X:Cx}{e:Expr}{te tb:TE}{p pos kp kp2 lpos bp:Pos}{j n i:Nat}{x y qual:Str}{params:Arguments}{body:Expr}{scope:Scope}{c P cc:Addr}(hr:Room (n+1) X.A)(hg:Gl X "sorted")(hm:X.mg "sorted" = none)(he:PE X e te)(B:LamB X.mg X.base c P)
  (hcode:X.env.code=.ref c) (hq:X.env.qual ++ "<lambda>" = qual) (hcl:closureFor scope X.env=pure [(y,cc)]) (hdef:defaultsOf params X.env=([],[]))
  (hb:∀ (pm cv ctv u:Value),bindArgs (PySem.W.kla_fn "<lambda>" qual params body scope [(y,cc)] pm cv ctv) ⟨[u],[]⟩=pure [(x,u)])
  (S:LmS scope x y) (xy:x≠y) (hN:X.N[i]?=some y) (hkc:X.env.kindOf y=some .cell) (hcc:X.env.cells.lookup y=some cc)
  (hp:∀ f cd s H,PE (lmX X [x,y] qual scope [(y,cc)] f cd X.A.in1.in1 s H) body tb)
  (h1:backTo pos (AV [e] X.env)=(false,eval e X.env)::backTo pos (AV [] X.env):=by rfl) (h2:(backTo pos (AV [e] X.env)).any (·.1)=false:=by rfl) :
  PE X (.Call (.Name "sorted" p) [e] [⟨some "key",.Lambda params body scope lpos,kp⟩,⟨some "reverse",.Constant (.bool true) j bp,kp2⟩] pos) (aEw X.K P qual lpos true i te tb):=by
 intro pins s σ H Q I h;refine CB (fH I hg hm boot_sorted (callWith_kw ?_ h1 h2 rfl rfl));rw [h1];refine CM (thn (he pins s σ H _ I h) λv s1 ⟨x1,H1,I1,r1,a,vs,kz,wv,ex,hl,h64,hlen,lt,hsi,hkey,q⟩=>?_);subst ex;cases r1;refine DJ ?_;have go:∀ (f c':Addr) (ctv:Value) (oc:Obj) (u:HO) (cvs:Array Value) (t:Tok) (h':Heap) (tk:Nat) (H2:Hp),f=h'.objs.size->s1.heap.objs.size<=h'.objs.size ->
   Inv X pins σ H2 { s1 with heap:=h'.push (CU "<lambda>" qual params body scope [(y,cc)] ((X.mg "__name__").getD .none) c' ctv),toks:=tk } ->
   SameB P H1 H2->H2 P=some (.tbl #[rawInt lpos.line,rawInt lpos.col,.ref c'])->H2 c'=some (.frz oc u)->oc.data=.fields cvs->cvs[1]?=some (.str qual t)->(∀ b,H2 b=none->H1 b=none)->H2 f=none ->
   wpAny (model X.prog X.w) X.A (evalAll ((backToKw pos (Dy [⟨some "reverse",.Constant (.bool true) j bp,kp2⟩] X.env)).map (·.2)))
    (λkvs s₂=>wpAny (model X.prog X.w) X.A (call (.builtin "sorted") [.ref a] (((backToKw pos (Dy [⟨some "key",.Lambda params body scope lpos,kp⟩,⟨some "reverse",.Constant (.bool true) j bp,kp2⟩] X.env)).filterMap (·.1)).zip (.ref f::kvs))) (EP X pins σ Q) X.xe s₂) X.xe
    { s1 with heap:=h'.push (CU "<lambda>" qual params body scope [(y,cc)] ((X.mg "__name__").getD .none) c' ctv),toks:=tk }:=by
  intro f c' ctv oc u cvs t h' tk H2 ef hge I2 sb hP hc' hoc hvs hnn hfn;have hfo:(h'.push (CU "<lambda>" qual params body scope [(y,cc)] ((X.mg "__name__").getD .none) c' ctv)).get? f=some (CU "<lambda>" qual params body scope [(y,cc)] ((X.mg "__name__").getD .none) c' ctv):=by rw [ef];exact An _ rfl
  have hfs:f∉frs X.stack:=λz=>absurd (xV I1 z) (anl (by rw [ef];exact Nat.not_lt.mpr hge));have hfL:f≠X.env.locals:=λz=>by
   have:@LT.lt Nat _ X.env.locals s1.heap.objs.size:=I1.lt;rw [<- z,ef] at this;exact absurd this (anl (Nat.not_lt.mpr hge))
  have hffs:f∉X.fs:=λz=>by
   obtain ⟨_,o,e,_⟩:=I1.funs.mem z;have:@LT.lt Nat _ f s1.heap.objs.size:=Ar e;rw [ef] at this;exact absurd this (anl (Nat.not_lt.mpr hge))
  have I3:Inv X ((f,CU "<lambda>" qual params body scope [(y,cc)] ((X.mg "__name__").getD .none) c' ctv)::pins) σ H2 { s1 with heap:=h'.push (CU "<lambda>" qual params body scope [(y,cc)] ((X.mg "__name__").getD .none) c' ctv),toks:=tk }:=
   I2.pins_of λp hp'=>by
    rcases Aw.mp hp' with rfl|hp'
    ·exact ⟨hfo,hfn,hfL,hffs,λv z=>by cases z⟩
    ·exact I2.pin p (AH _ hp')
  refine kws_cons (thn (pY (b:=true) _ _ σ H2 (λv H'=>v=.bl true/\H'=H2) I3 ⟨rfl,rfl⟩) λub s2 ⟨yb,H2',I4,r2,ey,eH⟩=>?_);subst ey eH;cases r2;refine kws_nil ?_;have hl2:SqL X.K H2' a vs:=by
   rcases hl with hl|hl
   ·rcases hl with hl|⟨o,hl⟩
    ·exact .inl (.inl (sb.lst lt hl))
    ·exact .inl (.inr ⟨o,sb.frz lt hl⟩)
   ·exact .inr hl
  have pin:=I4.pin (f,CU "<lambda>" qual params body scope [(y,cc)] ((X.mg "__name__").getD .none) c' ctv) (AH _ (Az ..));refine BH (tY (Q:=Q) (b:=true) (kz:=kz) I4 hl2 hlen h64 pin.1 pin.2.1 hfs (ksk_s2 _ _ _) (λ_=>ksk_l2 _ _ _) (λ_=>ksk_t2 _ _ _) (λjj vv uu k hv ru hk Ha sa Ia sma hfa hna=>?_) λD ps H' pm pw sm hD hD'=>?_) (λur s' ⟨vr,Hr,Ir,rr,qr⟩=>⟨vr,Hr,Ir.pins_of λp hp'=>Ir.pin p (AH _ (Au _ hp')),rr,qr⟩) λ_ _ z=>z
  ·obtain ⟨m,hns,hlk⟩:=Ia.loc
   obtain ⟨uy,ry,lk⟩:=hlk i y wv hN hsi (.inr (.inl hkc));have ic:sa.heap.IsCell cc (some uy):=by
    rcases lk with ⟨k1,_⟩|⟨_,c2,e2,ic⟩
    ·rw [hkc] at k1;cases k1
    ·rw [hcc] at e2;cases e2;exact ic
   refine xG Ia (A:=X.A.in1.in1) Ia.ok.frames hr.hd (by have:=hr.dp;show X.A.depth<_;omega) ru ry S xy hfa ⟨c',oc,cvs,t,rfl,(Ia.hok _ _ (sma _ _ hc')).1,hoc,hvs⟩ (hb _ _ _ _) ic (Ia.freeC y cc hcc) (hp f (.ref c') sa Ha) ?_;exact hkey jj vv k hv hk Ha (sb.trans sma.b)
  ·exact q D ps H' pm pw (sb.trans sm.b) (.inr ⟨c',oc,cvs,t,u,sm _ _ hP,sm _ _ hc',hoc,hvs⟩) (hnn _ hD) hD'
 have bmS:s1.heap.BuiltinsAt X.mg P:=by
  obtain ⟨bm,o,a1,a2,a3,a4,a5,a6⟩:=B.bm;exact ⟨bm,o,a1,a2,a3,a4,I1.bk _ _ a5,a6⟩
 refine kws_cons (PySem.W.kla_eval hdef ?_);rw [hq]
 rcases lt with lt0|⟨c',oc,cvs,t,u,hP,hc',hoc,hvs⟩
 ·refine PySem.W.kla_makeFunction (mg:=X.mg) hcl I1.ok.glob (I1.mod.glob.keeps I1.bk) hcode (B.code.keeps I1.bk) (show s1.heap.get? P=some (PySem.W.tabObj #[]) from I1.hok _ _ lt0) trivial rfl B.gne bmS λc' ctv h' tk hx hge hlt hrec htb=>?_
  obtain ⟨c2,oc,cvs,t,e2,hoc',hdv,hv⟩:=hrec;cases e2;have hcP:c'≠P:=λz=>by
   rw [z,htb] at hoc';cases hoc';have y:=I1.hok.lt lt0;exact absurd (AX y (z▸hge)) (Ce _)
  have hcn:H1 c'=none:=I1.hok.fresh hge;have hge2:s1.heap.objs.size<=h'.objs.size:=Bh hge (Nat.le_of_lt hlt);refine go h'.objs.size c' ctv oc (.own 0) cvs t h' tk (upd (upd H1 P (.tbl (#[]++#[rawInt lpos.line,rawInt lpos.col,.ref c']))) c' (.frz oc (.own 0))) rfl hge2 ?_ (λb o n e=>?_) ?_ aB hdv hv (λb e=>?_) ?_
  ·refine I1.lamNew lt0 (λb o n e=>Ae _ (hx b o n e)) hge (Ae _ hoc') (Ae _ htb)
  ·rw [aE (aI e hcn),aE n];exact e
  ·rw [aE hcP.symm,aB,Array.empty_append]
  ·by_cases b1:b=c'
   ·rw [b1,aB] at e;cases e
   ·rw [aE b1] at e
    by_cases b2:b=P
    ·rw [b2,aB] at e;cases e
    ·rw [aE b2] at e;exact e
  ·have n1:(h'.objs.size:Addr)≠c':=λz=>absurd (z▸hlt) (Ce _)
   have n2:(h'.objs.size:Addr)≠P:=λz=>by
    have:=Ar htb;rw [<- z] at this;exact absurd this (Ce _)
   rw [aE n1,aE n2];exact I1.hok.fresh hge2
 ·refine PySem.W.kla_makeFunctionHit (mg:=X.mg) (cv:=.ref c') hcl I1.ok.glob (I1.mod.glob.keeps I1.bk) hcode (B.code.keeps I1.bk) (show s1.heap.get? P=some (PySem.W.tabObj #[rawInt lpos.line,rawInt lpos.col,.ref c']) from I1.hok _ _ hP) (by simp [TriplesOk,rawInt]) (by simp [codeAmong,rawInt]) bmS λctv h' tk hx hge=>?_
  exact go h'.objs.size c' ctv oc u cvs t h' tk H1 rfl hge (I1.kept (λb o e=>Ae _ (hx b o e))) (λ_ _ _ e=>e) hP hc' hoc hvs (λ_ e=>e) (I1.hok.fresh hge)
end L2
namespace HT
open PySem PySem.Spec PyProof.Rows
section
variable {prog:AF}{w:World}{K:Type}[DecidableEq K]{knd:HeapKind prog w K}{A:Around}{E:Value->Shared->Prop}{s:Shared}
def withoutH (xs:List (K×Addr×Value))(k:K):List (K×Addr×Value):=xs.filter λx=>decide (x.1≠k)
def oG {xs:List (K×Addr×Value)}{k:K}{p:Addr×Value}(h:atKey xs k=some p):∃ j:Nat,xs[j]?=some (k,p):=by
 unfold atKey at h;cases e:xs.find? λx=>decide (x.1=k) with
 |none=>rw [e] at h;cases h
 |some y=>
  rw [e] at h;have h':y.2=p:=by simpa using h
  have hy:y.1=k:=by simpa using List.find?_some e
  obtain ⟨j,hj⟩:=List.mem_iff_getElem?.mp (Fk e);exact ⟨j,by rw [hj,<- hy,<- h']⟩
theorem kF :∀ {j:Nat} {k:K} {p:Addr×Value},(xs.map (·.1)).Nodup->xs[j]?=some (k,p)->xs.eraseIdx j=withoutH xs k:=by
 induction xs with
 |nil=>intro j k p _ h;simp at h
 |cons x r ih=>
  intro j k p hn hj;rw [Bb,CC] at hn;cases j with
  |zero=>
   simp at hj;subst hj;show r=withoutH ((k,p)::r) k;unfold withoutH;rw [Bp,if_neg (by simp)]
   symm
   rw [List.filter_eq_self];intro y hy;rw [decide_eq_true_eq];intro e;exact hn.1 (AY.mpr ⟨y,hy,e⟩)
  |succ j=>
   rw [List.getElem?_cons_succ] at hj;have hm:k∈r.map (·.1):=AY.mpr ⟨(k,p),AJ hj,rfl⟩;have ne:x.1≠k:=λe=>hn.1 (e▸hm);rw [Fq,ih hn.2 hj];unfold withoutH;rw [Bp,if_pos (by simpa using ne)]
def yU {d a:Addr}(hu:knd.room A)(hkey:knd.is s.heap k a)(hm:s.heap.DictOfH knd d xs)(hp:atKey xs k=some p)(hsz:xs.length<=AE)(h:∀ e h',e.val=p.2->h'.DictOfH knd d (withoutH xs k)->Bq d s.heap h'->Q (some e) { s with heap:=h',toks:=s.toks+knd.draws k }) :
  wpAny (model prog w) A (AU.Dict.takeOut d (.ref a)) Q E s:=by
 obtain ⟨o,es,ep,ho,hc,hd,he,his,hn⟩:=hm;unfold AU.Dict.takeOut
 try with_reducible refine BE ?_
 refine Aa (knd.pyHash hu hkey ?_);refine Aa (wpAny_dictFind_heap (s:={ s with toks:=s.toks+knd.draws k }) hu hkey ho hd he his hn (λhno=>?_) λj q hj=>?_)
 ·rw [atKey_none_of_get hno] at hp
  cases hp
 ·rw [atKey_of_get hn hj] at hp
  cases hp;refine Aa (wpAny_dictEntries (s:={ s with toks:=s.toks+knd.draws k }) ho hd ?_);rw [entry_at he j,hj];refine Aa (wpAny_updateDictKeys (hz:=by have e:=size_of_entries he;omega) (s:={ s with toks:=s.toks+knd.draws k }) ho hd (Ag (h _ _ rfl ⟨_,_,ep+1,BB _ ho (Obj.isFreed_of_dict (Obj.data_mapDictKeys hd _)),
   hc.mapDictKeys _,Obj.data_mapDictKeys hd _,?_,?_,?_⟩ (Cd ..))))
  ·rw [<- kF hn hj]
   obtain ⟨l⟩:=es;have he':l=xs.map (entryOfKey knd):=he;subst he';have em:∀ (l:List (K×Addr×Value)) (j:Nat),(l.map (entryOfKey knd)).eraseIdx j=(l.eraseIdx j).map (entryOfKey knd):=λl=>by
    induction l with
    |nil=>intro j;rfl
    |cons x l ih=>intro j;cases j with
     |zero=>rfl
     |succ j=>show entryOfKey knd x::(l.map (entryOfKey knd)).eraseIdx j=entryOfKey knd x::_;rw [ih j]
   simp [em]
  ·intro x hx
   exact knd.keeps (his x (Ba.mp hx).1) ho hd (Cd ..)
  ·exact hn.sublist (List.Sublist.map _ Ei)
def meetsH_dict_pop (d a:Addr):MeetsIn prog w (AU.«dict.pop» ⟨[.ref d,.ref a],[]⟩) (λA R s=>knd.room A.in1/\∃ k xs p,knd.is s.heap k a/\s.heap.DictOfH knd d xs/\atKey xs k=some p/\xs.length<=AE /\
   ∀ h',h'.DictOfH knd d (withoutH xs k)->Bq d s.heap h'->R (.ok (.ret p.2)) { s with heap:=h',toks:=s.toks+knd.draws k }):=
 .of_wp λA R s ⟨hu,k,xs,p,hkey,hm,hp,hsz,h⟩=>by
  unfold AU.«dict.pop»;refine Aa ?_;unfold AU.Dict.keyAndDefault;refine Aa (wpAny_notOrdered_dict hm.typeIs ?_);show wpAny _ _ (pure (d,AN a,none)) _ _ s;refine Ag ?_;have hpart:(keyPart (AN a)).isSome=false:=rfl;simp only [hpart,BS,if_false];obtain ⟨o,es,ep,ho,hc,hd,he,his,hn⟩:=id hm;refine Aa (wpAny_dictEntries ho hd (Aa (Ag ?_)));have hne:es.isEmpty=false:=by
   obtain ⟨j,hj⟩:=oG hp;have e:=size_of_entries he;have:j<xs.length:=(Ah.mp hj).1;cases q:es.isEmpty with
   |false=>rfl
   |true=>rw [Array.isEmpty_iff_size_eq_zero] at q;omega
  simp only [hne,BS,if_false];refine Aa (yU hu hkey hm hp hsz λe h' ev hm' hs'=>?_);simp only [Option.isNone_some,BS,if_false];exact Aa (wpAny_letGo (Ag ⟨e.val,rfl,by rw [ev];exact h h' hm' hs'⟩))
end
end HT
namespace L2
open PySem PySem.Spec PyProof.Rows
def KT.drop (r:KT H kvs xs)(k:List Key):KT H (bS kvs k) (HT.withoutH xs k):=by
 unfold bS HT.withoutH
 induction r with
 |nil=>exact .nil
 |@cons p q ps qs h t ih=>
  obtain ⟨h1,h2⟩:=h;rw [Bp,Bp]
  by_cases e:p.1=k
  ·have a:¬ decide (p.1≠k)=true:=by simp [e]
   have b:¬ decide (q.1≠k)=true:=by simp [h1.symm.trans e]
   rw [if_neg a,if_neg b];exact ih
  ·have e':¬ q.1=k:=λz=>e (h1.trans z)
   have a:decide (p.1≠k)=true:=by simp [e]
   have b:decide (q.1≠k)=true:=by simp [e']
   rw [if_pos a,if_pos b];exact .cons ⟨h1,h2⟩ ih
section
variable {X:Cx}{pins:List (Addr×Obj)}{σ:St}{H:Hp}{s:Shared}{a b:Addr}{kvs:List (List Key×V)}{k:List Key}{A:Around}{E:Value->Shared->Prop}
def aGc (hu:A.units+1<cLine)(I:Inv X pins σ H s)(e:H a=some (.dT kvs))(eb:H b=some (.tup (k.map kV)))(l:valV kvs k=some v)(h:∀ w' s',Inv X pins σ (upd H a (.dT (bS kvs k))) s'->RelV v w'->Q w' s'):wpAny (model X.prog X.w) A (call (.builtin "dict.pop") [.ref a,.ref b]) Q E s:=by
 obtain ⟨z,hd,xs,rel,dd⟩:=aGd I.hok e;obtain ⟨w',hw,rw'⟩:=RelO.some_of (v:=v) (o:=(atKey xs k).map (·.2)) (by rw [<- l];exact rel.val k);obtain ⟨p,hp,hp2⟩:=Cf.mp hw;refine call_meetsIn PySem.F.slot_dict_pop dd.typeIs PySem.F.entry_dict_pop (PySem.F.args_dict_pop_2 _ _) (HT.meetsH_dict_pop (knd:=tupleKind (cH X.prog X.w)) a b)
  ⟨EC hu,k,xs,p,kR I.hok eb,dd,hp,by rw [<- CH rel];exact z,λh' dd' hs=>?_⟩
 rw [hp2];refine h w' _ ?_ rw';obtain ⟨q,es,ep,hq,h2,h3,h4,_,h5⟩:=dd';refine qR I (by rw [e];exact DN) hs ⟨q,hq⟩ ⟨Bh (sI kvs k) z,hd,_,(rel.drop k).keeps λc ys ec=>?_,q,es,ep,hq,h2,h3,h4,h5⟩;rw [aE (bG ec e (λz=>nomatch z))];exact ec
end
def aEy (td ty:TE):TE:=λσ H Q=>td σ H λx H1=>∃ a,x=.ref a/\IsD H1 a/\ty σ H1 λy H2=>∃ kvs k b v,H2 a=some (.dT kvs)/\y=.ref b/\H2 b=some (.tup (k.map kV))/\valV kvs k=some v/\Q v (upd H2 a (.dT (bS kvs k)))
section
variable {X:Cx}{o e:Expr}{apos cpos:Pos}{td ty:TE}
def rN (hu:X.A.units+1<cLine)(ho:PE X o td)(he:PE X e ty)(m:M1 X o "pop" apos e cpos):PE X (.Call (.Attribute o "pop" apos) [e] [] cpos) (aEy td ty):=by
 intro pins s σ H Q I h;refine wpAny_Call_method m.base m.few m.line PySem.F.plainAttrs_dict PySem.F.slot_dict_pop PySem.F.type_dict_pop (thn (ho pins s σ H _ I h) λu s1 ⟨x,H1,I1,rx,a,ex,d,q1⟩=>?_);subst ex;obtain rfl:u=AN a:=rx;obtain ⟨t1,t2,_⟩:=aB6 I1 d;refine ⟨t1,t2,?_⟩;rw [m.trees];refine Du rfl (EL (CM (thn (he pins s1 σ H1 _ I1 q1) λiv s2 ⟨y,H2,I2,ry,kvs,k,b,v,ea,ey,eb,l,q2⟩=>DJ ?_)));subst ey;obtain rfl:iv=AN b:=ry;exact aGc hu I2 ea eb l λw' s3 I3 rw'=>⟨v,_,I3,rw',q2⟩
end
end L2
namespace HT
open PySem PySem.Spec PyProof.Rows
section
variable {prog:AF}{w:World}{K:Type}[DecidableEq K]{knd:HeapKind prog w K}{A:Around}{E:Value->Shared->Prop}{s:Shared}
end
end HT
namespace L2
open PySem PySem.Spec PyProof.Rows
def tDSetD (td ty tx:TE):TE:=λσ H Q=>td σ H λx H1=>∃ a,x=.ref a/\IsD H1 a/\ty σ H1 λy H2=>tx σ H2 λz H3=>∃ kvs k b,H3 a=some (.dT kvs)/\y=.ref b/\H3 b=some (.tup (k.map kV))/\kvs.length<AE /\
 (∀ v,valV kvs k=some v->Q v H3)/\(valV kvs k=none->Q z (upd H3 a (.dT (putK kvs k z))))
section
variable {X:Cx}{o e f:Expr}{apos cpos:Pos}{td ty tx:TE}
end
def Ite (K:Ab)(b:Addr):It:=
  ⟨λi H=>∃ ys,SqL K H b ys/\i<ys.length,
   λi H v H'=>∃ T,H T=none/\v=.ref T/\∀ ys,SqL K H b ys->∃ y,ys[i]?=some y/\H'=upd H T (.tup [.int i,y]),
   λi H=>∃ ys,SqL K H b ys/\i=ys.length⟩
def EnuSt (n b:Nat)(i:Nat)(h:Heap):Prop:=(∃ old,IsEnum h (n+1) n (i:Int) old)/\h.IsListIter n b i
def iEnu (K:Ab)(ta:TA):TI:=λσ H R=>ta σ H λvs H1=>∃ b,vs=[.ref b]/\(∃ ys,SqL K H1 b ys)/\R (Ite K b) H1
def oT:Ck "enumerate" = some (.type "enumerate"):=by decide +kernel
end L2
namespace HT
open PySem PySem.Spec PyProof.Rows
open AutoSeq1 (wpAny_loadPart')
def fG (l:Addr)(items:Array Value)(n:Nat)(dct:Option Addr)(sl:Array (Option Value)) :
  Meets (AU.«enumerate.__new__» ⟨[.type "enumerate",.ref l],[]⟩) (λ_ R s=>s.heap.get? l=some { cls:=.type "tuple",dict:=dct,data:=.seq items n,slots:=sl } /\
   R (.ok (.ret (.ref (s.heap.push { cls:=.type "tuple_iterator",data:=.fields #[.ref l,.int 0 0] }).objs.size)))
    { s with heap:=(s.heap.push { cls:=.type "tuple_iterator",data:=.fields #[.ref l,.int 0 0] }).push { cls:=.type "enumerate",data:=.fields #[.none,.bool false,.ref s.heap.objs.size,rawInt 0,.none,.none] } }):=
 .of_wp λprog w A R s h=>by
  obtain ⟨hp,g,d,tk,os⟩:=s;obtain ⟨hl,h⟩:=h;have hL:Heap.IsTuple hp l items:=⟨_,hl,rfl,_,rfl⟩;have hsub:=sub_enumerate
  wp_walk using CI hl
  refine wpAny_stack_any λst=>Ag ?_;split
  ·rename_i c _ _ _ _ _
   cases (c==Da "enumerate")
   ·wp_walk using CI hl,Fp hL
    exact ⟨_,rfl,h⟩
   ·wp_walk using CI hl,Fp hL
    exact ⟨_,rfl,h⟩
  ·wp_walk using CI hl,Fp hL
   exact ⟨_,rfl,h⟩
section
variable {prog:AF}{w:World}{A:Around}{E:Value->Shared->Prop}{s:Shared}
def call_enumerate_tup (hL:s.heap.IsTuple l items)(h:∀ h',IsEnum h' (s.heap.objs.size+1) s.heap.objs.size 0 .none->h'.IsTupleIter s.heap.objs.size l 0->h'.objs.size=s.heap.objs.size+2 ->
   (∀ b o,s.heap.get? b=some o->h'.get? b=some o)->Q (.ref (s.heap.objs.size+1)) { s with heap:=h' }) :
  wpAny (model prog w) A (call (.type "enumerate") [.ref l]) Q E s:=by
 obtain ⟨⟨c,dct,dt,sl⟩,hl,hc,n,hd⟩:=hL;replace hc:c=.type "tuple":=hc;replace hd:dt=.seq items n:=hd;subst hc hd;refine callType_new F.called_enumerate (by decide) (F.typeCall_enumerate_1 _) (F.newCall_enumerate_1 _) (λobj=>F.args_object_init_2 obj _) F.entry_enumerate_new
  (fG l items n dct sl) ⟨hl,?_⟩
 have hz:(s.heap.push { cls:=.type "tuple_iterator",data:=.fields #[.ref l,.int 0 0] }).objs.size=s.heap.objs.size+1:=CT ..;show _/\_;rw [hz];have he:IsEnum ((s.heap.push { cls:=.type "tuple_iterator",data:=.fields #[.ref l,.int 0 0] }).push
   { cls:=.type "enumerate",data:=.fields #[.none,.bool false,.ref s.heap.objs.size,rawInt 0,.none,.none] }) (s.heap.objs.size+1) s.heap.objs.size 0 .none:=by
  have:=An (s.heap.push { cls:=.type "tuple_iterator",data:=.fields #[.ref l,.int 0 0] })
   (o:={ cls:=.type "enumerate",data:=.fields #[.none,.bool false,.ref s.heap.objs.size,rawInt 0,.none,.none] }) rfl
  rw [hz] at this;exact this
 refine ⟨⟨_,he,rfl⟩,h _ he ⟨_,Ae _ (An _ rfl),rfl,rfl⟩ (by rw [CT,hz]) λb o x=>Ae _ (Ae _ x)⟩
end
end HT
namespace L2
open PySem PySem.Spec PyProof.Rows
def IteT (K:Ab)(b:Addr):It:=
  ⟨λi H=>∃ ys,SqT K H b ys/\i<ys.length,
   λi H v H'=>∃ T,H T=none/\v=.ref T/\∀ ys,SqT K H b ys->∃ y,ys[i]?=some y/\H'=upd H T (.tup [.int i,y]),
   λi H=>∃ ys,SqT K H b ys/\i=ys.length⟩
def aGm (n b:Nat)(i:Nat)(h:Heap):Prop:=(∃ old,IsEnum h (n+1) n (i:Int) old)/\h.IsTupleIter n b i
def sY {P:AF}{w:World}{K:Ab}{es:List Expr}{k1:Nat}{p1:Pos}{n b:Nat}(hb:b<n):Turn P w K (.Tuple es k1 p1) (IteT K b) [n+1,n] (n+1) (aGm n b) where
 mem:=by simp
 obj:=λi h st c hc=>by
  obtain ⟨⟨old,c1⟩,⟨o5,d5,_,f5⟩⟩:=st;have hc':c=n+1\/c=n:=by simpa using hc
  rcases hc' with e|e
  ·subst e;exact ⟨_,c1,λv z=>by cases z⟩
  ·subst e;exact ⟨_,d5,λv z=>by rw [f5] at z;cases z⟩
 keep:=λi h h' st k=>by
  obtain ⟨⟨old,c1⟩,c5⟩:=st;exact ⟨⟨old,k _ (by simp) _ c1⟩,c5.at λo e=>k _ (by simp) o e⟩
 item:=by
  intro X hP hw hK hc i pins s σ H E I hf st hg;subst hP hw hK;obtain ⟨ys,hy,l2⟩:=hg;obtain ⟨its',r2,ty,_⟩:=I.tuple hy;have e2:=r2.length;obtain ⟨⟨old,c1⟩,c5⟩:=st;obtain ⟨vy,hvy⟩:∃ v,ys[i]?=some v:=⟨_,Af l2⟩;obtain ⟨uy,huy,ry⟩:=r2.get hvy;have D:=sJ (prog:=X.prog) (w:=X.w) (A:=X.A.in1) (I.ok.hd hc) n b (by show (_:Nat)≠_;omega) its'.toArray;refine wpAny_pyNext_enum_itemD D c1 ⟨c5,ty⟩ (by rw [Ai,<- e2];exact l2) (by show (_:Nat)≠_;omega) (λz=>by
   rcases Aw.mp z with z|z
   ·exact absurd z (by show (_:Nat)≠_;omega)
   ·exact absurd (Al.mp z) (by show (_:Nat)≠_;omega)) λx g tk hx cz s2 cT sz kp=>⟨.ref s.heap.objs.size,rfl,?_⟩
  have ex:x=uy:=by
   rw [<- Cr,List.toList_toArray,huy] at hx;exact (AS hx).symm
  subst ex;refine wpAny_letOwnedTupleGo_enum (s:={ s with heap:=g,toks:=tk+1 }) cz λg' cz' sb=>?_;have hfr:H s.heap.objs.size=none:=I.hok.fresh (Ao _);have I0:Inv X pins σ (upd H s.heap.objs.size (.tup [.int i,vy])) { s with heap:=s.heap.push { cls:=.type "tuple",data:=.seq #[.int i tk,x] },toks:=tk+1 }:=
   I.laid (λc u q=>Ae _ q) (Ao _) ⟨⟨by show 2<=AE;decide,_,An s.heap rfl,rfl⟩,[.int i tk,x],.cons ⟨_,rfl⟩ (.cons ry .nil),⟨_,An s.heap rfl,rfl,_,rfl⟩⟩
  have lz:n+1<s.heap.objs.size:=Ar c1;have fpn:∀ c∈[n+1,n],c≠s.heap.objs.size:=λc hc'=>by
   have hc'':c=n+1\/c=n:=by simpa using hc'
   rcases hc'' with e|e<;>(subst e;exact AG (by omega))
  have hf0:∀ c∈[n+1,n],FpOk X pins (upd H s.heap.objs.size (.tup [.int i,vy])) c:=λc hc'=>⟨by rw [aE (fpn c hc')];exact (hf c hc').1,(hf c hc').2⟩;have I1:Inv X pins σ (upd H s.heap.objs.size (.tup [.int i,vy])) { s with heap:=g',toks:=tk+1 }:=by
   refine Inv.turnedL (s:={ s with heap:=s.heap.push { cls:=.type "tuple",data:=.seq #[.int i tk,x] },toks:=tk+1 }) (h':=g') (t':=tk+1) (ch:=[n+1,n]) I0 (λc o hc' e=>?_) hf0;replace e:(s.heap.push { cls:=.type "tuple",data:=.seq #[.int i tk,x] }).get? c=some o:=e;have hn:∀ d∈[n+1,n],c≠d:=λd hd z=>hc' (by rw [z];exact hd);refine sb.extBut _ _ (hn _ (by simp)) ?_
   by_cases ec:c=s.heap.objs.size
   ·rw [ec] at e ⊢
    rw [An s.heap rfl] at e;cases e;exact cT
   ·rw [Cm _ _ _ ec] at e
    exact kp c o (hn _ (by simp)) (hn _ (by simp)) e
  refine ⟨.ref s.heap.objs.size,_,I1,rfl,⟨_,hfr,rfl,λys' hy'=>⟨vy,by rw [I.tuple_inj hy' hy];exact hvy,rfl⟩⟩,?_,λc hc'=>(hf0 c hc').1⟩;exact ⟨⟨x,cz'⟩,s2.1.extBut sb.extBut (AG (CO n))⟩
 done:=by
  intro X hP hw hK hc i pins s σ H E I hf st hg;subst hP hw hK;obtain ⟨ys,hy,l⟩:=hg;obtain ⟨its',r2,ty,_⟩:=I.tuple hy;have e2:=r2.length;obtain ⟨⟨old,c1⟩,c5⟩:=st;have hh:X.A.handled=none:=I.ok.hd hc;have D:=sJ (prog:=X.prog) (w:=X.w) (A:=X.A.in1) hh n b (by show (_:Nat)≠_;omega) its'.toArray;have ez:i=its'.toArray.size:=by rw [Ai,<- e2];exact l
  refine wpAny_pyNext_enum_endD D c1 (ez▸⟨c5,ty⟩) λg kp=>⟨rfl,I.turnedL (t':=s.toks) (ch:=[n+1,n]) (λc o hc' e=>?_) hf⟩;exact kp c o (λz=>hc' (by rw [z];simp)) e
 self:=λ_ _ _ _ _ st h=>let ⟨⟨_,c1⟩,_⟩:=st;wpAny_pyIter_enum c1 h
def aHh (K:Ab)(ta:TA):TI:=λσ H R=>ta σ H λvs H1=>∃ b,vs=[.ref b]/\(∃ ys,SqT K H1 b ys)/\R (IteT K b) H1
def lU {X:Cx}{es:List Expr}{k1:Nat}{p1:Pos}{e1:Expr}{ta:TA}{p pos:Pos}(hg:Gl X "enumerate")(hm:X.mg "enumerate" = none)(ha:PA X [e1] ta)(hs:AV [e1] X.env=[(false,eval e1 X.env)]:=by rfl) :
  PI X (.Tuple es k1 p1) (.Call (.Name "enumerate" p) [e1] [] pos) (aHh X.K ta):=by
 intro pins s σ H R I h;refine Call_ (fH I hg hm oT (BX (thn (ha pos pins s σ H _ I h) λus s1 ⟨vs,H1,I1,r1,q1⟩=>?_) hs rfl));obtain ⟨b,rfl,⟨ys,hy⟩,q⟩:=q1;cases r1 with
 |cons r rr=>
  cases rr;cases r;obtain ⟨its',_,ty,_⟩:=I1.tuple hy;have lb:b<s1.heap.objs.size:=by obtain ⟨o,e,_⟩:=show Heap.IsTuple _ _ _ from ty;exact Ar e
  refine HT.call_enumerate_tup (show s1.heap.IsTuple _ _ from ty) λg c1 c5 _ kp=>wpAny_pyIter_enum c1 ?_;have I2:Inv X pins σ H1 { s1 with heap:=g }:=I1.kept (t':=s1.toks) kp;refine ⟨s1.heap.objs.size+1,_,_,_,H1,rfl,I2,sY lb,⟨⟨_,c1⟩,c5⟩,λc hc=>?_,q⟩;refine I1.fpOk ?_ (I1.hok.fresh ?_)
  all_goals
   have hc':c=s1.heap.objs.size+1\/c=s1.heap.objs.size:=by simpa using hc
   rcases hc' with e|e<;>(subst e;omega)
def xX {K:Ab}{b:Addr}{ys:List V}{g:TG}{tb:TS}{D:Ends}{σ:St}{H:Hp}(Pv:Nat->St->Hp->Prop)(h0:Pv 0 σ H)(hl:∀ i σ H,i<=ys.length->Pv i σ H->SqT K H b ys)
  (hs:∀ i y T σ H,ys[i]?=some y->H T=none->Pv i σ H->g (.ref T) σ (upd H T (.tup [.int (i:Nat),y])) λσ2 H2=>tb { D with nx:=Pv (i+1),ct:=Pv (i+1),bk:=D.nx } σ2 H2) (hd:∀ σ H,Pv ys.length σ H->D.nx σ H) :
  ∃ W:Nat->Nat->St->Hp->Prop,(∃ m,W 0 m σ H)/\∀ i m σ H,W i m σ H ->
   ((IteT K b).stop i H/\D.nx σ H)\/((IteT K b).go i H/\∃ N:St->Hp->Prop,(∀ σ' H',N σ' H'->∃ m',m'<m/\W (i+1) m' σ' H')/\∀ v H',(IteT K b).yld i H v H'->g v σ H' λσ2 H2=>tb { D with nx:=N,ct:=N,bk:=D.nx } σ2 H2):=by
 refine ⟨λi m σ H=>m=ys.length-i/\i<=ys.length/\Pv i σ H,⟨ys.length,by simp,Bi _,h0⟩,?_⟩
 rintro i m σ H ⟨rfl,hi,p⟩
 have q2:=hl i σ H hi p
 by_cases hlt:i<ys.length
 ·refine .inr ⟨⟨ys,q2,hlt⟩,Pv (i+1),λσ' H' p'=>⟨ys.length-(i+1),by omega,rfl,hlt,p'⟩,λv H' y=>?_⟩
  obtain ⟨T,hT,rfl,y⟩:=y;obtain ⟨y',e2,rfl⟩:=y ys q2;exact hs i y' T σ H e2 hT p
 ·have e:i=ys.length:=by omega
  subst e;exact .inl ⟨⟨ys,q2,rfl⟩,hd σ H p⟩
def Same.seqt {K:Ab}{H H':Hp}{a:Addr}{xs:List V}(e:Same H H')(h:SqT K H a xs):SqT K H' a xs:=by
 rcases h with h|h
 ·rcases h with h|⟨o,h⟩
  ·exact .inl (.inl (e _ _ h))
  ·exact .inl (.inr ⟨o,e _ _ h⟩)
 ·exact .inr h
def kX {K:Ab}{b:Addr}{ys:List V}{D:Addr}{g:TG}{tt:TT}{te:TE}{σ0:St}{QD:Hp->Prop}{H1:Hp}(hb:SqT K H1 b ys)(p:Nat->Bool)(hD:H1 D=none)(hl:ys.length<=1000)
  (hs:∀ (i:Nat) y T Hx (R1:VK) (R2:Hp->Prop),ys[i]?=some y->Same H1 Hx->Hx T=some (.tup [.int i,y])->(p i=true->∀ H4,Same Hx H4->R1 (.int i) H4)->(p i=false->∀ H4,Same Hx H4->R2 H4)->g (.ref T) σ0 Hx λσ2 H2=>Keep σ0 σ2/\tt σ2 H2 λb H3=>if b=true then te σ2 H3 R1 else R2 H3)
  (hd:∀ H',Same H1 H'->H' D=some (.lst (((Ay ys.length).filter p).map λ(i:Nat)=>V.int (i:Int)))->QD H') :
  ∃ W:Nat->Nat->List V->Hp->Prop,(∃ m,W 0 m [] (upd H1 D (.lst [])))/\∀ i m zs H,W i m zs H->H D=some (.lst zs)/\zs.length<AE /\
   (((IteT K b).stop i H/\QD H)\/((IteT K b).go i H/\∀ x H',(IteT K b).yld i H x H'->g x σ0 H' λσ2 H2=>Keep σ0 σ2/\tt σ2 H2 λb H3=>
    if b=true then te σ2 H3 λy H4=>H4 D=some (.lst zs)/\∃ m',m'<m/\W (i+1) m' (zs++[y]) (upd H4 D (.lst (zs++[y]))) else ∃ m',m'<m/\W (i+1) m' zs H3)):=by
 refine ⟨λi m zs H=>m=ys.length-i/\i<=ys.length/\Same H1 H/\H D=some (.lst zs)/\zs=((Ay i).filter p).map λ(i:Nat)=>V.int (i:Int),
  ⟨_,rfl,Bi _,Same.upd hD,aB,rfl⟩,?_⟩
 rintro i m zs H ⟨rfl,hi,sm,hDH,rfl⟩
 have zl:(((Ay i).filter p).map λ(i:Nat)=>V.int (i:Int)).length<=1000:=by
  rw [Ac];exact Bh (BM _ _) (by rw [Dg];omega)
 refine ⟨hDH,aP zl,?_⟩
 by_cases hlt:i<ys.length
 ·refine .inr ⟨⟨ys,sm.seqt hb,hlt⟩,λx H' y=>?_⟩
  obtain ⟨T,hT,rfl,hy⟩:=y;obtain ⟨y,hyi,rfl⟩:=hy ys (sm.seqt hb);have st:=Same.upd (o:=.tup [.int (i:Nat),y]) hT;have er:Ay (i+1)=Ay i++[i]:=List.range_succ;refine hs i y T _ _ _ hyi (sm.trans st) aB (λpx H4 s4=>?_) (λpx H4 s4=>?_)
  ·have hD4:=s4 _ _ (st _ _ hDH)
   refine ⟨hD4,ys.length-(i+1),by omega,rfl,hlt,λb o e=>?_,aB,?_⟩
   ·rw [aE (aI e hD)]
    exact s4 _ _ (st _ _ (sm _ _ e))
   ·rw [er,CP,Ax,Bp,if_pos px]
    rfl
  ·refine ⟨ys.length-(i+1),by omega,rfl,hlt,(sm.trans st).trans s4,s4 _ _ (st _ _ hDH),?_⟩
   rw [er,CP,Ax,Bp,if_neg (by rw [px];exact AK)];simp
 ·have e:i=ys.length:=by omega
  subst e;exact .inl ⟨⟨ys,sm.seqt hb,rfl⟩,hd H sm hDH⟩
end L2
namespace L2
open PySem PySem.Spec PySem.Calls PyProof.Rows
def xE {P:AF}{w:World}{K:Ab}{mg mb:Str->Option Value}{CX:CXT}{k:Nat}{fa a:Addr}{fd:AM}{x:Str}{sp:Sp}{s₁:Shared}{vs:List Value}{ns:List Int}{c T:Addr}
  (KX:K.In s₁.heap) (hns:s₁.heap.Ns As mg) (hb:s₁.heap.Ns builtinsNs mb) (hbb:∀ x:Str,x ≠ "__name__" -> mb x=Ck x) (hlim:s₁.heap.NoLimit) (hg:s₁.gens=#[])
  (ha:s₁.heap.get? a=some { cls:=.type "list",data:=.seq vs.toArray }) (hi:DH vs ns) (hl:ns.length<=AE) (hr:Room k callerA)
  (C:PySem.W.CodeHd s₁.heap c T) (hT:s₁.heap.get? T=some (PySem.W.tabObj #[])) (hnt:Ew K=true) (hbm:s₁.heap.BuiltinsAt mg T) (hgT:As≠T)
  (F:∀ base:Heap,K.In base->base.Ns As mg->LamB mg base c T->FnOk P w K mg base CX k fa fd [x] sp) (hbind:∀ (s:Shared) (u:Value),BindsTo s fd ⟨[u],[]⟩ [(x,u)])
  (hsp:∀ H:Hp,H T=some (.tbl #[])->SqL K H a (ns.map V.int)->sp [.ref a] H (λv _=>v=.bl true) λ_ _ _=>False)
  (hCX:∀ H e s',CX [] H s₁ (λ_ _ _=>False) e s'->False) :
  DE (model P w) callerA (.call (.ref fa) ⟨[.ref a],[]⟩) (λr s'=>r=.ok (.ret (.bool true))/\OldK s₁.heap s'.heap/\s'.os=s₁.os/\AllBare s'.gens) s₁:=by
 have rv:=mS hi;have lenV:=hi.length;have haT:a≠T:=λe=>by rw [e,hT] at ha;cases ha
 have hKT:K.lookup T=none:=by
  cases q:K.lookup T with
  |none=>rfl
  |some o=>
   have e:=KX _ _ q;rw [hT] at e;cases e;have h2:=Cy.mp hnt _ (PySem.W.mem_of_lookupK q);exact absurd (show false=true from h2) AK
 have core:∀ H:Hp,H T=some (.tbl #[])->(∀ b,b≠T->H b=none\/∃ o xs,H b=some (.frz o (.lst xs)))->SqL K H a (ns.map V.int)->HOk P w H s₁.heap->(∀ b,H b≠none->b=a\/b=T)->(H a≠none->K.lookup a=none) ->
   DE (model P w) callerA (.call (.ref fa) ⟨[.ref a],[]⟩) (λr s'=>r=.ok (.ret (.bool true))/\OldK s₁.heap s'.heap/\s'.os=s₁.os/\AllBare s'.gens) s₁:=by
  intro H hHT hO hS hok hA hK;have base_of:∀ {b:Addr} {o:Obj},s₁.heap.get? b=some o->H b=none->(hidT s₁.heap H).get? b=some o:=λe n=>aA4 e n;have noC:∀ {b:Addr} {o:Obj},s₁.heap.get? b=some o->o.cls≠.type "list" \/ (∀ xs n,o.data≠.seq xs n)->b≠T->H b=none:=λ{b o} e d nT=>by
   cases q:H b with
   |none=>rfl
   |some u=>
    rcases hA b (by rw [q];simp) with e'|e'
    ·subst e'
     rw [ha] at e;cases e
     rcases d with d|d
     ·exact absurd rfl d
     ·exact absurd rfl (d _ _)
    ·exact absurd e' nT
  have noA:∀ {b:Addr} {o:Obj} {es:Array DictEntry} {ep:Nat},s₁.heap.get? b=some o->o.data=.dict es ep->H b=none:=λ{b o es ep} e d=>by
   refine noC e (.inr λxs n z=>by rw [d] at z;cases z) λz=>?_;rw [z,hT] at e;cases e;cases d
  have nsK:∀ {b:Addr} {m:Str->Option Value},s₁.heap.Ns b m->(hidT s₁.heap H).Ns b m:=λ{b m} ⟨o,es,ep,e,d,r⟩=>⟨o,es,ep,base_of e (noA e d),d,r⟩;have hKb:K.In (hidT s₁.heap H):=λb o e=>base_of (KX b o e) (by
   cases q:H b with
   |none=>rfl
   |some u=>
    rcases hA b (by rw [q];simp) with e'|e'
    ·subst e'
     rw [hK (by rw [q];simp)] at e;cases e
    ·subst e'
     rw [hKT] at e;cases e)
  have hM:Mod K mg (hidT s₁.heap H):=⟨hKb,nsK hns,⟨mb,nsK hb,hbb⟩,let ⟨mc,h1,h2⟩:=hlim;⟨mc,nsK h1,h2⟩⟩;have hL:LamB mg (hidT s₁.heap H) c T:=by
   refine ⟨?_,hgT,?_⟩
   ·obtain ⟨o,vs',file,tf,flags,tg,inF,text,tt,e1,e2,e3,e4,r1,r2,r3,r4,r5,ne⟩:=C
    exact ⟨o,vs',file,tf,flags,tg,inF,text,tt,base_of e1 (noC e1 (.inl (by rw [e2];decide)) ne),e2,e3,e4,r1,r2,r3,r4,r5,ne⟩
   ·obtain ⟨bm,o,a1,a2,a3,a4,a5,a6,a7⟩:=hbm
    exact ⟨bm,o,a1,a2,a3,a4,base_of a5 (noC a5 (.inl (by rw [a6];decide)) a4),a6,a7⟩
  have e0:Env0 P w K mg (hidT s₁.heap H) callerA [] s₁ H:=⟨rfl,hM,λb o e=>aDy e,Nat.le_of_eq (xT _ _),trivial,λb hb=>absurd (show b∈([]:List Addr) from hb) (by simp),hok,.of_eq hg⟩;refine CZ ((F _ hKb (nsK hns) hL).run callerA [] s₁ H ⟨[.ref a],[]⟩ [.ref a] [.ref a] _ _ hr e0 (hbind s₁ (.ref a)) (.cons rfl .nil) (hsp H hHT hS)) λr s' h=>?_;cases r with
  |error e=>exact (hCX H e s' h).elim
  |ok fl=>
   cases fl with
   |next=>exact Cu h
   |brk=>exact Cu h
   |cont=>exact Cu h
   |ret u=>
    obtain ⟨v,H',os,bare,un,hok',r',q⟩:=h;have q':v=.bl true:=q;subst q';obtain rfl:u=Value.bool true:=r';have keep:∀ b o,b≠T->s₁.heap.get? b=some o->s'.heap.get? b=some o:=λb o nb e=>by
     cases q:H b with
     |none=>exact un.keep b o e q (by intro z;exact absurd (show b∈([]:List Addr) from z) (by simp)) (by simp)
     |some u=>
      rcases hO b nb with z|⟨ob,xs,z⟩
      ·rw [q] at z;cases z
      ·have z2:=un.frzs b ob _ z
       obtain ⟨e1,_⟩:=hok b _ z;obtain ⟨e2,_⟩:=hok' b _ z2;rw [e] at e1;cases e1;exact e2
    obtain ⟨more,hm⟩:=un.tbls T #[] hHT;have hTm:s'.heap.get? T=some (PySem.W.tabObj (#[]++more)):=hok' _ _ hm;refine ⟨rfl,⟨λb o e=>?_,λb o e=>?_⟩,os,bare⟩
    ·by_cases nb:b=T
     ·subst nb
      rw [hT] at e;cases e;exact .inr (.inl ⟨(C.tab hT).isCodeTable,rfl,#[],more,rfl,hTm⟩)
     ·exact .inl (keep b o nb e)
    ·by_cases nb:b=T
     ·subst nb;exact ⟨_,hTm⟩
     ·exact ⟨o,keep b o nb e⟩
 cases hk:K.lookup a with
 |some o=>
  have e:=KX a o hk;rw [ha] at e;cases e;refine core (λb=>if b=T then some (.tbl #[]) else none) (if_pos rfl) (λb nb=>.inl (if_neg nb)) (.inr ⟨_,vs.toArray,_,hk,rfl,rfl,rfl,by rw [Ai,lenV];exact hl,by simpa using rv⟩) (λb u z=>?_) (λb z=>?_) λz=>absurd (if_neg haT) z
  ·by_cases nb:b=T
   ·have z':=(if_pos nb).symm.trans z
    cases z';subst nb;exact hT
   ·have z':=(if_neg nb).symm.trans z
    cases z'
  ·by_cases nb:b=T
   ·exact .inr nb
   ·exact absurd (if_neg nb) z
 |none=>
  refine core (λb=>if b=T then some (.tbl #[]) else if b=a then some (.frz { cls:=.type "list",data:=.seq vs.toArray } (.lst (ns.map V.int))) else none) (if_pos rfl) (λb nb=>?_) (.inl (.inr ⟨{ cls:=.type "list",data:=.seq vs.toArray },(if_neg haT).trans (if_pos rfl)⟩)) (λb u z=>?_) (λb z=>?_) λ_=>hk
  ·by_cases hb:b=a
   ·exact .inr ⟨_,_,(if_neg nb).trans (if_pos hb)⟩
   ·exact .inl ((if_neg nb).trans (if_neg hb))
  ·by_cases nb:b=T
   ·have z':=(if_pos nb).symm.trans z
    cases z';subst nb;exact hT
   ·have z0:=(if_neg nb).symm.trans z
    by_cases hb:b=a
    ·have z':=(if_pos hb).symm.trans z0
     cases z';subst hb;exact ⟨ha,by rw [Ac];exact hl,vs,_,rv,ha⟩
    ·have z':=(if_neg hb).symm.trans z0
     cases z'
  ·by_cases nb:b=T
   ·exact .inr nb
   ·by_cases hb:b=a
    ·exact .inl hb
    ·exact absurd ((if_neg nb).trans (if_neg hb)) z
def walk_ofT {l:PySem.W.OpenLaw}{n k:Nat}{q:AF}{loose:List Str}{XP:(Str->Option Value)->Heap->Prop}{YP:World->Heap->Prop}{d d0:DefRec}{K:Params->Ab}{CX:World->CXT}{sp:World->Addr->Sp}{x x0:Str}
  (hn:l.most=some n) (hn2:n<=AE) (hdf:d.params.defaults=[]) (hr:Room k callerA) (hrec:(recsOf q).find? (λe=>e.name==x0)=some d0)
  (hY:∀ (w:World) (h:Heap),YP w h->(K w.params).In h)
  (F:∀ (w:World) (mg:Str->Option Value) (fa:Addr) (h:Heap),(K w.params).In h->h.Ns As mg->mg d.name=some (.ref fa) ->
   ∃ (fd:AM) (c T:Addr),PySem.W.tabIn (K w.params) x0=some (c,T)/\Ew (K w.params)=true/\(∀ (s:Shared) (u:Value),BindsTo s fd ⟨[u],[]⟩ [(x,u)]) /\
    ∀ base:Heap,(K w.params).In base->base.Ns As mg->LamB mg base c T->FnOk l.prog w (K w.params) mg base (CX w) k fa fd [x] (sp w T))
  (hsp:∀ (w:World) (T:Addr) (H:Hp) (a:Addr) (ns:List Int),ns.length<=n->H T=some (.tbl #[])->SqL (K w.params) H a (ns.map V.int)->sp w T [.ref a] H (λv _=>v=.bl true) λ_ _ _=>False)
  (hCX:∀ (w:World) (H:Hp) (s:Shared) (e:Value) (s':Shared),CX w [] H s (λ_ _ _=>False) e s'->False) :
  PySem.W.WalkO q loose XP YP l.row.toRowW d [] (λf vs=>PySem.call f vs):=by
 refine Att.attach_call hn hdf λw s₀ s₁ mg mb fa o pm cd doc a vs ns G Y ho hd hcd hmg hobj hints hlen hg=>?_;have KX:=hY w _ Y;obtain ⟨fd,c,T,ht,hnt,hb,hF⟩:=F w mg fa _ KX G.T.g hmg;obtain ⟨C,hT⟩:=PySem.W.tab_of G.T KX hrec ht;have hgT:As≠T:=λz=>by
  obtain ⟨o,es,ep,e,hd,_⟩:=G.T.g;rw [z,hT] at e;cases e;cases hd
 have hbm:s₁.heap.BuiltinsAt mg T:=by
  obtain ⟨bm,ob,b1,b2,b3,b4,b5,b6⟩:=G.T.bmain;refine ⟨bm,ob,b1,b2,λz=>?_,λz=>?_,b3,b4,b5,b6⟩
  ·obtain ⟨o,es,ep,e,hd,_⟩:=G.T.g
   rw [z,e] at b3;cases b3;rw [hd] at b6;cases b6
  ·rw [z,hT] at b3;cases b3;cases b4
 exact xE KX G.T.g G.T.b G.T.builtins G.T.nolimit hg hobj hints (Bh hlen hn2) hr C hT hnt hbm hgT hF hb (λH hO hS=>hsp w T H a ns hlen hO hS) λH e s'=>hCX w H s₁ e s'
structure FunC (K:Ab)(x qual:Str)(st:Stmt)(f:Addr)(fd:AM)(c:Addr):Prop where
 ex:∃ (oc:Value) (od:Option Addr) (kV doc pm:Value) (an:Option Addr) (ct:Value) (osl:Array (Option Value)),
  fd=BD x qual (cJ st) (bW st) (aJ st) .none kV doc pm an (.ref c) ct/\K.lookup f=some ⟨oc,od,.func fd,osl⟩/\CJ K (.ref c) qual=true
 kp:BK K (.ref f)=true
section
variable {P:AF}{w:World}{K:Ab}{mg:Str->Option Value}{base:Heap}
def FunC.ok {x qual:Str}{st:Stmt}{f c:Addr}{fd:AM}{N ps:List Str}{k:Nat}{sp:Sp}(F:FunC K x qual st f fd c)(S:FnScope N ps (aJ st))(len:∀ vs H Q E,sp vs H Q E->vs.length=ps.length)
  (hbody:∀ (A:Around) (outer:List Env) (s:Shared) (H:Hp) (vs:List V) (Q:VK) (E:XK),Room k (A.deeper (envOfC qual (aJ st) s.heap.objs.size f (.ref c)))->sp vs H Q E ->
   ∃ t,PSs (cxOf CX0 P w K mg base N qual (aJ st) f (.ref c) A outer s H E).nox (bW st) t/\t { nx:=λ_ H'=>Q .non H',rt:=Q } (start N vs) H):FnOk P w K mg base CX0 (k+1) f fd ps sp:=by
 obtain ⟨oc,od,kV,doc,pm,an,ct,osl,rfl,lk,hcd⟩:=F.ex;refine aEa lk hcd S len λA outer s H vs Q E hr hsp=>?_;obtain ⟨t,h,q⟩:=hbody A outer s H vs Q E hr hsp;exact ⟨t,h.nox,q⟩
end
end L2
set_option maxHeartbeats 4000000
namespace L2
open PySem PySem.Spec PyProof.Rows
def Room.lam {n:Nat}{A:Around}(r:Room (n+1) A)(env:Env):Room n (A.in1.in1.deeper env):=
 ⟨r.hd,by have:=r.dp;show A.depth+1+3*n+5<_;omega,by have:=r.un;show A.units+1+1+3+16*n+200<_;omega,r.gd⟩
end L2
namespace K45
open PySem PySem.Spec PyProof.Rows L2 GM TM TR
def lamP:Pos:=⟨75,30,75,68⟩
def lamQ:Str:=("recipes_by_need":Str) ++ ".<locals>." ++ "<lambda>"
abbrev LT (H:Hp)(T:Addr):Prop:=LamT H T lamQ lamP
def pU {T:Addr}{G H:Hp}(s:SameB T G H)(l:LT G T):Tk G H:=λb ys e=>s.tup l e
def vJ {T p:Addr}{G H:Hp}{o:HO}(s:SameB T G H)(n:G p=none):SameB T G (upd H p o):=λb u nb e=>by
 rw [aE (aI e n)];exact s b u nb e
def vNat:V->Nat
 |.int n=>n.toNat
 |_=>0
def uZ (T:Addr)(n:Nat):Sp:=λvs H Q _=>∃ (q:Addr) (vs0:List V) (p:List Nat) (ch:List Nat->Nat) (nd:List Nat->Int),vs=[.ref q]/\H q=some (.tup vs0)/\vs0.length<64/\vs0.length=ch p/\(∀ (k:Nat) c,vs0[k]?=some c->Hf H n c (shf (p++[k]) ch) (shf (p++[k]) nd))/\LT H T /\
 ∀ (os:List Nat) l H',SameB T H H'->LT H' T->H l=none->H' l=some (.lst (os.map λ(k:Nat)=>V.int (k:Int)))->os.Perm (recs ch p)->os.Pairwise (ndO nd p)->Q (.ref l) H'
def ndPc:(["place","child"]:List Str).Nodup:=by decide +kernel
def qK {H:Hp}{n:Nat}{c:V}{ch:List Nat->Nat}{nd:List Nat->Int}{p:List Nat}(h:Hf H n c (shf p ch) (shf p nd)):∃ (a m:Addr) (x y:Str) (r:List V),c=.ref a/\H a=some (.tup (.str y::.str x::.ref m::r))/\((y = "ware" /\ ch p=0)\/(y = "recipe" /\ ch p≠0)):=by
 cases n with
 |zero=>exact h.elim
 |succ n=>
  rcases h.2 with ⟨a,m,x,e,ha,c0,_⟩|⟨a,m,q,x,vs,e,ha,hq,l1,l2,cl,_⟩
  ·have c0:ch (p++[])=0:=c0
   rw [AL] at c0;exact ⟨a,m,x,"ware",[],e,ha,.inl ⟨rfl,c0⟩⟩
  ·have cl:ch (p++[])=vs.length:=cl
   rw [AL] at cl;exact ⟨a,m,x,"recipe",[.ref q],e,ha,.inr ⟨rfl,by omega⟩⟩
def aD9 {H:Hp}{n:Nat}{c:V}{ch:List Nat->Nat}{nd:List Nat->Int}{p:List Nat}(h:Hf H n c (shf p ch) (shf p nd)):∃ s,Tr H n c s (nd p):=by
 cases n with
 |zero=>exact h.elim
 |succ n=>
  obtain ⟨s,tr⟩:=h.1;have:nd (p++[])=nd p:=by rw [AL]
  exact ⟨s,this▸tr⟩
section
variable {P:AF}{w:World}{K:Ab}{mg:Str->Option Value}{base:Heap}
def aBp:FnScope ["children","places"] ["children"] (aJ zD):=fnScOk (by decide +kernel)
def aDs {k n:Nat}{f c T:Addr}{fd:AM}(F:FunC K "recipes_by_need" "recipes_by_need" zD f fd c)(T':Txt mg)(B:LamB mg base c T)(cN:Cal P w K mg base CX0 k "need_of" ["tree"] (cK n)):FnOk P w K mg base CX0 (k+2) f fd ["children"] (uZ T n):=by
 refine F.ok aBp (λvs H Q E h=>?_) (λA outer s H vs Q E hr h=>?_)
 ·obtain ⟨_,_,_,_,_,rfl,_⟩:=h
  rfl
 ·obtain ⟨q,vs0,p,ch,nd,rfl,hq,l64,lch,hc,lt,k'⟩:=h
  refine ⟨_,(aD (aDa (iy:=1) (N':=["place","child"]) (cl:=[]) (g:=gTup K 2 (mD (dW 0) (mD (dW 1) gNil))) (λ_=>[none,none]) rfl rfl (by decide +kernel) (by decide +kernel) (fF (by decide +kernel)) (λ_ _=>gE)
    (lU rfl T'.enum' (aA (pv 0) aC)) (λ_ _ _ _ _=>fX rfl (bJ (aR (i:=0) ndPc rfl (Or.inl rfl) (Or.inr rfl)) (bJ (aR (i:=1) ndPc rfl (Or.inl rfl) (Or.inr rfl)) eI))) (λ_ _ _ _ _=>iL (aM cV (bE (gM (K:=K) rfl) (pv 1) aG (λ_ _=>rfl)) bD (aV _))) (λ_ _ _ _ _=>pv 0) aBp.nd rfl (Or.inl rfl) (Or.inr rfl) rfl)
   (aH (aU (zT (qual:=lamQ) (lpos:=lamP) (x:="place") (y:="children") (i:=0) (cc:=s.heap.objs.size+1) hr rfl T'.sorted' (pv 1) B rfl rfl rfl rfl (λ_ _ _ _=>rfl) ⟨rfl,rfl,rfl,by decide +kernel,rfl,rfl,λz h=>of_decide_eq_true ((Cy.mp (by decide +kernel:([("place",Bj.local),("children",Bd),("need_of",Bj.globalImplicit)]:List (Str×Bj)).all (λx=>decide (x.2=.free->x.1 = "children"))=true)) _ (BW h)) rfl⟩ (by decide) rfl rfl rfl
    (λ_ _ _ _=>aL cN (hr.lam _) rfl aS (aA (bE (gM (K:=K) rfl) (pv 1) (pv 0) (λ_ _=>rfl)) aC)))))),?_⟩
  refine ⟨_,rfl,q,rfl,⟨_,SqT.of hq⟩,λD nD=>?_⟩;refine kX (SqT.of hq) (λk=>decide (ch (p++[k])≠0)) nD (by omega) (λi y T1 Hx R1 R2 hy sm hT q1 q2=>?_) (λH1 s1 hD=>?_)
  ·obtain ⟨a,m,x,yk,r,rfl,ha,alt⟩:=qK ((hc i y hy).keep sm.tk)
   refine ⟨T1,_,rfl,SqT.of hT,rfl,_,_,rfl,_,_,rfl,rfl,((Keep.refl _).set rfl).set rfl,_,rfl,a,_,0,.str yk,rfl,rfl,SqT.of ha,aZ (j:=0) rfl,rfl,_,rfl,?_⟩
   rcases alt with ⟨rfl,c0⟩|⟨rfl,c0⟩
   ·exact iteF (q2 (by simpa using c0) _ (Same.refl _))
   ·exact iteT ⟨_,rfl,q1 (by simpa using c0) _ (Same.refl _)⟩
  rw [lch] at hD;have rin:∀ k∈recs ch p,k<ch p:=λk hk=>Bv.mp (Ba.mp hk).1;have rl:(recs ch p).length<=ch p:=by
   have:(recs ch p).length<=(Ay (ch p)).length:=BM _ _
   simpa using this
  have ez:((recs ch p).map λk=>nd (p++[k])).zip ((recs ch p).map λ(k:Nat)=>V.int (k:Int))=(recs ch p).map λ(k:Nat)=>(nd (p++[k]),V.int (k:Int)):=by rw [List.zip_map']
  refine ⟨_,rfl,D,(recs ch p).map λ(k:Nat)=>V.int (k:Int),(recs ch p).map λk=>nd (p++[k]),.ref q,rfl,SqL.of hD,by rw [Ac];omega,by rw [Ac,Ac],LamT.keep lt s1,rfl,λj v kk hn hk H2 sb=>?_,λl ps H2 pm pw sb l2 nl hl=>?_⟩
  ·rw [Aj] at hn hk
   obtain ⟨kn,hkn,rfl⟩:=Cf.mp hn;rw [hkn] at hk;cases hk;have kl:=rin kn (AJ hkn);obtain ⟨c1,hc1⟩:∃ c1,vs0[kn]?=some c1:=⟨_,Af (by omega)⟩;have tk2:Tk H H2:=s1.tk.trans (pU sb (LamT.keep lt s1));obtain ⟨sz,tr⟩:=aD9 ((hc kn c1 hc1).keep tk2);exact ⟨_,rfl,_,rfl,q,vs0,(kn:Int),c1,rfl,rfl,SqT.of (tk2 _ _ hq),aZ hc1,c1,sz,_,rfl,tr,λH3 s3=>⟨rfl,s3⟩⟩
  ·rw [ez] at pm
   have hps:∀ x∈ps,x.1=nd (p++[vNat x.2])/\x.2=V.int ((vNat x.2:Nat):Int):=λx hx=>by
    obtain ⟨k,_,rfl⟩:=AY.mp (pm.mem_iff.mp hx);exact ⟨rfl,rfl⟩
   have po:(ps.map λx=>vNat x.2).Perm (recs ch p):=by
    have:=pm.map λx:Int×V=>vNat x.2;rw [Bw] at this;have e:((λx:Int×V=>vNat x.2) ∘ λk:Nat=>(nd (p++[k]),V.int (k:Int)))=id:=by funext k;rfl
    rwa [e,List.map_id] at this
   have nd1:(recs ch p).Nodup:=List.nodup_range.sublist Ei;have nd2:(ps.map λx=>vNat x.2).Pairwise (·≠·):=po.nodup_iff.mpr nd1;refine k' (ps.map λx=>vNat x.2) l H2 ((Same.b s1).trans sb) l2 (s1.free nl) ?_ po (List.Pairwise.and ?_ nd2)
   ·rw [hl,Bw]
    congr 2
    apply Dk
    intro x hx;exact (hps x hx).2
   ·rw [De]
    refine pw.imp_of_mem λ{x y} hx hy h=>?_;have h1:=hps x hx;have h2:=hps y hy;rw [<- h1.1,<- h2.1];exact h
end
end K45
namespace L2
open PySem PySem.Spec PyProof.Rows
def Itv (K:Ab)(a:Addr)(n:Nat):It:=
 ⟨λi H=>∃ xs,SqL K H a xs/\xs.length=n/\i<n,λi H x H'=>H'=H/\∀ xs,SqL K H a xs->xs[n-1-i]?=some x,λi H=>n<=i⟩
def iRevL (K:Ab)(ta:TA):TI:=λσ H R=>ta σ H λvs H1=>∃ a xs,vs=[.ref a]/\SqL K H1 a xs/\R (Itv K a xs.length) H1
end L2
namespace L2
open PySem PySem.Spec PyProof.Rows PySem.W
structure Cal1 (P:AF)(w:World)(K:Frag)(mg:Str->Option Value)(base:Heap)(CX:CXT)(k:Nat)(x:Str)(ps:List Str)(sp:Sp)(dv:V):Prop where
 ex:∃ (f:Addr) (fd:AM) (u:Value),mg x=some (.ref f)/\keepIn K (.ref f)=true/\Binds K fd ps [u]/\RelV dv u/\FnOk P w K mg base CX k f fd ps sp
end L2
namespace L2
open PySem PySem.Spec PyProof.Rows
def oH {K:Ab}{a:Addr}{xs:List V}{g:TG}{tb:TS}{D:Ends}{σ:St}{H:Hp}(Pv:Nat->St->Hp->Prop)(h0:Pv 0 σ H)(hl:∀ i σ H,i<=xs.length->Pv i σ H->SqL K H a xs)
  (hs:∀ i x σ H (D':Ends),(∀ σ' H',Pv (i+1) σ' H'->D'.nx σ' H')->xs[i]?=some x->Pv i σ H->g x σ H (tb D')) (hd:∀ σ H,Pv xs.length σ H->D.nx σ H) :
  ∃ W:Nat->Nat->St->Hp->Prop,(∃ m,W 0 m σ H)/\∀ i m σ H,W i m σ H ->
   ((Itl K a).stop i H/\D.nx σ H)\/((Itl K a).go i H/\∃ N:St->Hp->Prop,(∀ σ' H',N σ' H'->∃ m',m'<m/\W (i+1) m' σ' H')/\∀ x H',(Itl K a).yld i H x H'->g x σ H' λσ2 H2=>tb { D with nx:=N,ct:=N,bk:=D.nx } σ2 H2):=
 aA8 Pv h0 hl (λi x σ H hx p=>hs i x σ H { D with nx:=Pv (i+1),ct:=Pv (i+1),bk:=D.nx } (λ_ _ h=>h) hx p) hd
def aA7 {K:Ab}{a:Addr}{xs:List V}{g:TG}{tb:TS}{D:Ends}{σ:St}{H:Hp}(Pv:Nat->St->Hp->Prop)(h0:Pv 0 σ H)(hl:∀ i σ H,i<=xs.length->Pv i σ H->SqT K H a xs)
  (hs:∀ i x σ H (D':Ends),(∀ σ' H',Pv (i+1) σ' H'->D'.nx σ' H')->xs[i]?=some x->Pv i σ H->g x σ H (tb D')) (hd:∀ σ H,Pv xs.length σ H->D.nx σ H) :
  ∃ W:Nat->Nat->St->Hp->Prop,(∃ m,W 0 m σ H)/\∀ i m σ H,W i m σ H ->
   ((Itt K a).stop i H/\D.nx σ H)\/((Itt K a).go i H/\∃ N:St->Hp->Prop,(∀ σ' H',N σ' H'->∃ m',m'<m/\W (i+1) m' σ' H')/\∀ x H',(Itt K a).yld i H x H'->g x σ H' λσ2 H2=>tb { D with nx:=N,ct:=N,bk:=D.nx } σ2 H2):=
 gN Pv h0 hl (λi x σ H hx p=>hs i x σ H { D with nx:=Pv (i+1),ct:=Pv (i+1),bk:=D.nx } (λ_ _ h=>h) hx p) hd
def dD {lo:Int}{n:Nat}{g:TG}{tb:TS}{D:Ends}{σ:St}{H:Hp}(Pv:Nat->St->Hp->Prop)(h0:Pv 0 σ H)
  (hs:∀ i σ H (D':Ends),(∀ σ' H',Pv (i+1) σ' H'->D'.nx σ' H')->i<n->Pv i σ H->g (.int (lo+i)) σ H (tb D')) (hd:∀ σ H,Pv n σ H->D.nx σ H) :
  ∃ W:Nat->Nat->St->Hp->Prop,(∃ m,W 0 m σ H)/\∀ i m σ H,W i m σ H ->
   ((Itr lo n).stop i H/\D.nx σ H)\/((Itr lo n).go i H/\∃ N:St->Hp->Prop,(∀ σ' H',N σ' H'->∃ m',m'<m/\W (i+1) m' σ' H')/\∀ x H',(Itr lo n).yld i H x H'->g x σ H' λσ2 H2=>tb { D with nx:=N,ct:=N,bk:=D.nx } σ2 H2):=
 eB Pv h0 (λi σ H hi p=>hs i σ H { D with nx:=Pv (i+1),ct:=Pv (i+1),bk:=D.nx } (λ_ _ h=>h) hi p) hd
end L2
set_option maxHeartbeats 4000000
namespace K45
open PySem PySem.Spec PyProof.Rows L2 GM TM TR
def SV (H:Hp)(s:Addr)(x:Str×List Nat):Prop:=∃ pa:Addr,H s=some (.tup [.str x.1,.ref pa])/\H pa=some (.tup (pth x.2))
theorem SV.keep {H H':Hp}{s:Addr}{x:Str×List Nat}(h:SV H s x)(t:Tk H H'):SV H' s x:=by
 obtain ⟨pa,h1,h2⟩:=h;exact ⟨pa,t _ _ h1,t _ _ h2⟩
def aB3 {ch:List Nat->Nat}{nd:List Nat->Int}(t:TT ch nd 62){ps:List (List Nat)}(l:Lg ch ps):ps.length<=(pre ch 62 []).length:=kP l.nodup λx hx=>t.mem (l.mem hx).1
structure Wh (ch:List Nat->Nat)(nd:List Nat->Int):Prop where
 tt:TT ch nd 62
 sz:(pre ch 62 []).length<=100
def fS (T:Addr)(n:Nat):Sp:=λvs H Q _=>∃ (v:V) (pa:Addr) (p:List Nat) (ch:List Nat->Nat) (nd:List Nat->Int),vs=[v,.ref pa]/\H pa=some (.tup (pth p))/\Hf H n v (shf p ch) (shf p nd)/\1<=ch p/\Vp ch p/\Wh ch nd/\LT H T /\
 ∀ (ss:List (Addr×(Str×List Nat))) l H',SameB T H H'->LT H' T->H l=none->H' l=some (.lst (ss.map λs=>.ref s.1))->(∀ s∈ss,SV H' s.1 s.2)->Pl ch nd n p (ss.map (·.2))->Q (.ref l) H'
def iS (T:Addr)(n:Nat):Sp:=λvs H Q _=>∃ (v:V) (ch:List Nat->Nat) (nd:List Nat->Int),vs=[v]/\Hf H n v ch nd/\1<=ch []/\Wh ch nd/\LT H T /\
 ∀ (ss:List (Addr×(Str×List Nat))) l H',SameB T H H'->LT H' T->H l=none->H' l=some (.lst (ss.map λs=>.ref s.1))->(∀ s∈ss,SV H' s.1 s.2)->Pl ch nd n [] (ss.map (·.2))->Q (.ref l) H'
def aD5 {H H1:Hp}{T x:Addr}{xs:List V}{o:HO}(l:LT H T)(e:H x=some (.lst xs)):LT (upd H x o) T:=by
 rcases l with h|⟨c',oc,vs,t,u,h1,h2,h3,h4⟩
 ·exact .inl (by rw [aE (λz=>by rw [z,e] at h;cases h)];exact h)
 ·exact .inr ⟨c',oc,vs,t,u,by rw [aE (λz=>by rw [z,e] at h1;cases h1)];exact h1,by rw [aE (λz=>by rw [z,e] at h2;cases h2)];exact h2,h3,h4⟩
def xB {H:Hp}{T x:Addr}{xs:List V}(l:LT H T)(e:H x=some (.lst xs)):x≠T:=dS l e λ_ z=>by cases z
def tup_ne {H:Hp}{T x:Addr}{xs:List V}(l:LT H T)(e:H x=some (.tup xs)):x≠T:=dS l e λ_ z=>by cases z
section
variable {P:AF}{w:World}{K:Ab}{mg:Str->Option Value}{base:Heap}
def wO {k:Nat}{f T:Addr}{fd:AM}:FnOk P w K mg base CX0 k f fd ["part","path"] (fS T 0):=⟨λvs H Q E ⟨_,_,_,_,_,_,_,h,_⟩=>h.elim,λA outer s H args us vs Q E _ _ _ _ ⟨_,_,_,_,_,_,_,h,_⟩=>h.elim⟩
def eE:FnScope ["part","path","steps","place","below","word","child"] ["part","path"] (aJ sWithin):=fnScOk (by decide +kernel)
def wC {k n:Nat}{f T:Addr}{fd:AM}(F:Fun K "steps_within" "steps_within" sWithin f fd)(T':Txt mg)(cS:Cal P w K mg base CX0 k "steps_within" ["part","path"] (fS T n))(cR:Cal P w K mg base CX0 k "recipes_by_need" ["children"] (uZ T n)):FnOk P w K mg base CX0 (k+1) f fd ["part","path"] (fS T (n+1)):=by
 refine F.ok eE (λvs H Q E h=>?_) (λcdv A outer s H vs Q E hr h=>?_)
 ·obtain ⟨_,_,_,_,_,rfl,_⟩:=h
  rfl
 ·obtain ⟨v,pa,p,ch,nd,rfl,hpa,hf,c1,vp,wh,lt,k'⟩:=h
  refine ⟨_,(aD (aK (i:=2) eE.nd rfl (Or.inl rfl) (bC aC))
   (aD (bP AQ rfl (jA (aL cR hr rfl aS (aA (pit 0 3) aC))) (aR (i:=3) eE.nd rfl (Or.inl rfl))
    (aD (aK (i:=4) eE.nd rfl (Or.inl rfl) (aN lX (pv 1) (aT (aA (pv 3) aC))))
    (aD (aK (i:=5) eE.nd rfl (Or.inl rfl) (rL (aM (aBw hr.units) (pv 2) (bC aC) (aV _)) bD bD))
    (aD (bB (cO Ak PySem.F.slot_list_extend PySem.F.type_list_extend nQ (pv 2) (aA (aL cS hr rfl aS (aA (bE hJ (pit 0 3) (pv 3) (λ_ _=>rfl)) (aA (pv 4) aC))) aC)))
    (aH (bB (cO Ak AB AA aX (pv 2) (aA (aT (aA (pv 5) (aA (pv 4) aC))) aC))))))))
   (aD (bP AQ rfl (lU rfl T'.enum' (aA (pit 0 3) aC)) (fX rfl (bJ (aR (i:=3) eE.nd rfl (Or.inl rfl)) (bJ (aR (i:=6) eE.nd rfl (Or.inl rfl)) eI)))
    (aH (bK (aM cV (pit 6 0) bD (aV _))
     (aH (bB (cO Ak AB AA aX (pv 2) (aA (aT (aA bD (aA (aN lX (pv 1) (aT (aA (pv 3) aC))) aC))) aC))))
     aY)))
   (aH (aU (pv 2)))))),?_⟩
  refine cut4 ?_
  intros
  have hf0:=hf
  rcases hf.2 with ⟨a,m,x,e,ha,c0,_⟩|⟨pp,m,q,x,vs,rfl,hp,hq,l1,l2,cl,hnd,hk⟩
  ·have c0:ch (p++[])=0:=c0
   rw [AL] at c0;omega
  have cl:ch (p++[])=vs.length:=cl;rw [AL] at cl;have kids:∀ (k:Nat) c,vs[k]?=some c->Hf H n c (shf (p++[k]) ch) (shf (p++[k]) nd):=λk c h=>by
   have:=hk k c h;rw [iH,iH] at this;exact this
  have pl62:=wh.tt.deep p vp;refine ⟨zLn0,λSt nSt=>?_⟩;have sS:=Same.upd (o:=.lst []) nSt;have hSt0:upd H St (.lst []) St=some (.lst []):=aB;have lt0:LT (upd H St (.lst [])) T:=LamT.keep lt sS;generalize upd H St (.lst [])=H0 at sS hSt0 lt0 ⊢;refine ⟨pp,_,_,rfl,SqT.of (sS _ _ hp),rfl,q,vs,p,ch,nd,rfl,sS _ _ hq,l2,cl.symm,λk c h=>(kids k c h).keep sS.tk,lt0,λos R H1 sb1 lt1 nR hR pm pw=>?_⟩;have StT:St≠T:=xB lt0 hSt0;have hSt1:=sb1 _ _ StT hSt0;have RS:R≠St:=λz=>by rw [z,hSt0] at nR;cases nR
  have nR0:H R=none:=sS.free nR;have RT:R≠T:=xB lt1 hR;have sH1:SameB T H H1:=(Same.b sS).trans sb1;have hin:∀ k∈os,k<ch p/\ch (p++[k])≠0:=λk hk=>by
   have:=Ba.mp (pm.mem_iff.mp hk);exact ⟨Bv.mp this.1,of_decide_eq_true this.2⟩
  have ppT:pp≠T:=tup_ne lt hp;have qT:q≠T:=tup_ne lt hq;have paT:pa≠T:=tup_ne lt hpa;refine ⟨R,rfl,⟨_,SqL.of hR⟩,?_⟩;have rpok:∀ {i:Nat} {g:List (Str×List Nat)},Rp (λk g'=>Pl ch nd n (p++[k]) g') p (os.take i) g->g.length<=100:=λ{i g} rp=>by
   have ok:=aFb wh.tt vp c1 (λk g hk hc h=>aDd wh.tt h (Vp.app.mpr ⟨vp,hk⟩) (by omega)) rp (λk hk=>hin k (List.mem_of_mem_take hk)) (pw.sublist (List.take_sublist ..));have:=aB3 wh.tt ok.lg;rw [Ac] at this;have:=wh.sz;omega
  refine oH (λi σ H'=>∃ (ss:List (Addr×(Str×List Nat))) (v3 v4 v5:Option V),σ=[some (.ref pp),some (.ref pa),some (.ref St),v3,v4,v5,none]/\SameB T H H'/\LT H' T/\H' St=some (.lst (ss.map λs=>.ref s.1))/\H' R=some (.lst (os.map λ(k:Nat)=>V.int (k:Int)))/\(∀ s∈ss,SV H' s.1 s.2)/\Rp (λk g'=>Pl ch nd n (p++[k]) g') p (os.take i) (ss.map (·.2)))
   ⟨[],none,none,none,rfl,sH1,lt1,hSt1,hR,(λ_ h=>nomatch h),Rp.nil⟩ (λi σ H' _ hh=>by obtain ⟨_,_,_,_,_,_,_,_,hR',_⟩:=hh;exact SqL.of hR') ?_ ?_
  ·intro i xv σ H2 D hN hx hh
   obtain ⟨ss,v3,v4,v5,rfl,s2,lt2,hSt2,hR2,sv2,rp2⟩:=hh;rw [Aj] at hx;obtain ⟨kk,hkk,rfl⟩:=Cf.mp hx;obtain ⟨kl,kc⟩:=hin kk (AJ hkk);have etk:os.take (i+1)=os.take i++[kk]:=by rw [Dd,hkk];rfl
   obtain ⟨c,hck⟩:∃ c,vs[kk]?=some c:=⟨_,Af (by omega)⟩;have il:i<os.length:=(Ah.mp hkk).1;refine ⟨_,rfl,_,rfl,zLn1,λo no=>?_⟩;have so:=Same.upd (o:=.tup [.int (kk:Int)]) no;refine ⟨pa,o,_,_,rfl,rfl,SqT.of (so _ _ (s2 _ _ paT hpa)),aB,by simp,(by rw [Ac];exact bL (by show p.length+1<=1000;omega)),λpb H3 s3 hpb=>?_⟩;have s23:Same H2 H3:=so.trans s3;have hSt3:=s23 _ _ hSt2;have e0:(ss.map λs=>V.ref s.1).isEmpty=decide (os.take i=[]):=by
    have:ss=[]↔os.take i=[]:=by
     constructor
     ·intro e
      subst e;generalize eg:([]:List (Addr×(Str×List Nat))).map (·.2)=g at rp2;generalize os.take i=oo at rp2 ⊢;cases rp2 with
      |nil=>rfl
      |snoc _ _=>simp at eg
     ·intro e
      rw [e] at rp2;generalize eo:([]:List Nat)=oo at rp2;generalize eg:ss.map (·.2)=g at rp2;cases rp2 with
      |nil=>simpa using eg
      |snoc _ _=>simp at eo
    cases ss with
    |nil=>simp [this.mp rfl]
    |cons a b=>
     have:os.take i≠[]:=λz=>by have:=this.mpr z;cases this
     simp [this]
   dsimp only [dW];refine fU (λσ' H'=>σ'=[some (.ref pp),some (.ref pa),some (.ref St),some (.int (kk:Int)),some (.ref pb),some (.str (if os.take i=[] then "keep" else "join")),none]/\Same H3 H') (λσ' H4 hh=>?_) (λN hN2=>?_)
   rotate_left
   ·refine ⟨_,rfl,zLn0,λz hz=>?_⟩
    have sz:=Same.upd (o:=.lst []) hz;refine ⟨St,z,_,rfl,rfl,SqL.of (sz _ _ hSt3),SqL.of aB,_,rfl,?_⟩;rw [e0]
    by_cases eo:os.take i=[]
    ·rw [decide_eq_true eo]
     exact iteT (hN2 _ _ ⟨by rw [if_pos eo];rfl,sz⟩)
    ·rw [decide_eq_false eo]
     exact iteF (hN2 _ _ ⟨by rw [if_neg eo];rfl,sz⟩)
   obtain ⟨rfl,s34⟩:=hh;have s24:=s23.trans s34;have lt4:LT H4 T:=LamT.keep lt2 s24;have hSt4:=s24 _ _ hSt2;have sH4:SameB T H H4:=s2.trans (Same.b s24);have hpb4:H4 pb=some (.tup (pth (p++[kk]))):=by rw [s34 _ _ hpb,rJ]
   have tk4:Tk H H4:=pU sH4 lt;refine ⟨_,rfl,.inl ⟨rfl,_,SqL.of hSt4⟩,pp,_,_,rfl,SqT.of (tk4 _ _ hp),rfl,_,rfl,q,_,(kk:Int),c,rfl,rfl,SqT.of (tk4 _ _ hq),aZ hck,_,rfl,c,pb,p++[kk],ch,nd,rfl,hpb4,(kids kk c hck).keep tk4,by omega,Vp.app.mpr ⟨vp,kl⟩,wh,lt4,λss' l' H5 sb5 lt5 nl5 hl5 sv5 pl5=>?_⟩;have hSt5:=sb5 _ _ (xB lt4 hSt4) hSt4;have tk5:=pU sb5 lt4;have rp':=rp2.snoc pl5;have tot:=rpok (i:=i+1) (g:=(ss.map (·.2))++ss'.map (·.2)++[((if os.take i=[] then "keep" else "join":Str),p++[kk])]) (by rw [etk];exact rp');rw [Aq,Aq,Ac,Ac] at tot;refine ⟨St,l',_,_,rfl,rfl,hSt5,hl5,?_,?_⟩
   ·rw [Ac,Ac]
    exact bL (by omega)
   have em:(ss.map λs=>V.ref s.1)++(ss'.map λs=>V.ref s.1)=(ss++ss').map λs=>V.ref s.1:=by rw [Ax]
   rw [em];have hSt6:upd H5 St (.lst ((ss++ss').map λs=>V.ref s.1)) St=some (.lst ((ss++ss').map λs=>V.ref s.1)):=aB;have lt6:LT (upd H5 St (.lst ((ss++ss').map λs=>V.ref s.1))) T:=aD5 (H1:=H5) lt5 hSt5;have tk6:Tk H5 (upd H5 St (.lst ((ss++ss').map λs=>V.ref s.1))):=Tk.lst hSt5;have sH6:SameB T H (upd H5 St (.lst ((ss++ss').map λs=>V.ref s.1))):=vJ (sH4.trans sb5) nSt;have hR6:upd H5 St (.lst ((ss++ss').map λs=>V.ref s.1)) R=some (.lst (os.map λ(k:Nat)=>V.int (k:Int))):=by rw [aE RS];exact sb5 _ _ RT (s24 _ _ hR2)
   generalize upd H5 St (.lst ((ss++ss').map λs=>V.ref s.1))=H6 at hSt6 lt6 tk6 sH6 hR6 ⊢;refine ⟨_,rfl,.inl ⟨rfl,_,SqL.of hSt6⟩,_,rfl,_,rfl,zLn2,λz nz=>?_⟩;have sz:=Same.upd (o:=.tup [.str (if os.take i=[] then "keep" else "join"),.ref pb]) nz;refine ⟨St,_,_,rfl,rfl,sz _ _ hSt6,aP (by rw [Ac,Aq];omega),?_⟩;have zS:z≠St:=λe=>by rw [e,hSt6] at nz;cases nz
   have tk7:Tk H6 (upd (upd H6 z (.tup [.str (if os.take i=[] then "keep" else "join"),.ref pb])) St (.lst (((ss++ss').map λs=>V.ref s.1)++[.ref z]))):=sz.tk.trans (Tk.lst (sz _ _ hSt6));refine hN _ _ ⟨ss++ss'++[(z,((if os.take i=[] then "keep" else "join":Str),p++[kk]))],_,_,_,rfl,vJ (sH6.trans (Same.b sz)) nSt,aD5 (H1:=H6) (LamT.keep lt6 sz) (sz _ _ hSt6),?_,?_,λs hs=>?_,?_⟩
   ·rw [aB,Ax (l₂:=[(z,_)])]
    rfl
   ·rw [aE RS]
    exact sz _ _ hR6
   ·rcases Av.mp hs with hs|hs
    ·rcases Av.mp hs with hs|hs
     ·exact ((sv2 s hs).keep (s24.tk.trans (tk5.trans tk6))).keep tk7
     ·exact ((sv5 s hs).keep tk6).keep tk7
    ·rw [Al.mp hs]
     exact ⟨pb,by rw [aE zS];exact aB,tk7 _ _ (tk6 _ _ (tk5 _ _ hpb4))⟩
   ·rw [etk,Ax,Ax]
    exact rp'
  ·intro σ H2 hh
   obtain ⟨ss,v3,v4,v5,rfl,s2,lt2,hSt2,hR2,sv2,rp2⟩:=hh;rw [Ac,Ef] at rp2;have tk2:=pU s2 lt;have hpl:∀ ws:List Nat,(ss.map (·.2)++ws.map λk=>(("put":Str),p++[k])).length=ss.length+ws.length:=λws=>by simp
   have rl:=rpok (i:=os.length) (g:=ss.map (·.2)) (by rw [Ef];exact rp2);rw [Ac] at rl;refine ⟨pp,_,_,rfl,SqT.of (tk2 _ _ hp),rfl,q,rfl,⟨_,SqT.of (tk2 _ _ hq)⟩,?_⟩;refine xX (K:=K) (b:=q) (ys:=vs) (λi σ H'=>∃ (ts:List (Addr×(Str×List Nat))) (v3 v6:Option V),σ=[some (.ref pp),some (.ref pa),some (.ref St),v3,v4,v5,v6]/\SameB T H H'/\LT H' T/\H' St=some (.lst (ts.map λs=>.ref s.1))/\(∀ s∈ts,SV H' s.1 s.2) /\
    ts.map (·.2)=ss.map (·.2)++((Ay i).filter λk=>decide (ch (p++[k])=0)).map λk=>(("put":Str),p++[k]))
    ⟨ss,_,none,rfl,s2,lt2,hSt2,sv2,by simp⟩ (λi σ H' _ hh=>by obtain ⟨_,_,_,_,sm,_⟩:=hh;exact SqT.of (pU sm lt _ _ hq)) ?_ ?_
   ·intro i y T1 σ H3 hy nT1 hh
    obtain ⟨ts,w3,w6,rfl,s3,lt3,hSt3,sv3,em3⟩:=hh;have hi:i<vs.length:=(Ah.mp hy).1;have st:=Same.upd (o:=.tup [.int (i:Nat),y]) nT1;have hT1:upd H3 T1 (.tup [.int (i:Nat),y]) T1=some (.tup [.int (i:Nat),y]):=aB;have lt4:LT (upd H3 T1 (.tup [.int (i:Nat),y])) T:=LamT.keep lt3 st;have s4:SameB T H (upd H3 T1 (.tup [.int (i:Nat),y])):=s3.trans (Same.b st);generalize upd H3 T1 (.tup [.int (i:Nat),y])=H4 at st hT1 lt4 s4 ⊢;have tk4:=pU s4 lt;have hSt4:=st _ _ hSt3;have er:Ay (i+1)=Ay i++[i]:=List.range_succ;obtain ⟨a,m',x',yk,r',rfl,ha,alt⟩:=qK ((kids i y hy).keep tk4);have tl:ts.length<=300:=by
     have h1:=congrArg DB em3;rw [Ac,hpl] at h1;have h2:((Ay i).filter λk=>decide (ch (p++[k])=0)).length<=(Ay i).length:=BM _ _;rw [Dg] at h2;omega
    refine ⟨T1,_,rfl,SqT.of hT1,rfl,_,_,rfl,_,_,rfl,rfl,?_⟩;refine ⟨a,_,_,rfl,SqT.of ha,rfl,rfl,_,rfl,?_⟩
    rcases alt with ⟨rfl,c0⟩|⟨rfl,c0⟩
    ·refine iteT ⟨_,rfl,.inl ⟨rfl,_,SqL.of hSt4⟩,_,rfl,_,rfl,zLn1,λo no=>?_⟩
     have so:=Same.upd (o:=.tup [.int (i:Int)]) no;refine ⟨pa,o,_,_,rfl,rfl,SqT.of (so _ _ (tk4 _ _ hpa)),aB,by simp,(by rw [Ac];exact bL (by show p.length+1<=1000;omega)),λpb H5 s5 hpb=>?_⟩;have s45:Same H4 H5:=so.trans s5;refine ⟨zLn2,λz nz=>?_⟩;have sz:=Same.upd (o:=.tup [.str "put",.ref pb]) nz;have hSt6:=sz _ _ (s45 _ _ hSt4);refine ⟨St,_,_,rfl,rfl,hSt6,aP (by rw [Ac];omega),?_⟩;have zS:z≠St:=λe=>by rw [e,s45 _ _ hSt4] at nz;cases nz
     have tk7:Tk H5 (upd (upd H5 z (.tup [.str "put",.ref pb])) St (.lst ((ts.map λs=>V.ref s.1)++[.ref z]))):=sz.tk.trans (Tk.lst hSt6);refine ⟨ts++[(z,(("put":Str),p++[i]))],_,_,rfl,vJ (s4.trans (Same.b (s45.trans sz))) nSt,aD5 (H1:=H5) (LamT.keep lt4 (s45.trans sz)) hSt6,?_,λs hs=>?_,?_⟩
     ·rw [aB,Ax (l₂:=[(z,_)])]
      rfl
     ·rcases Av.mp hs with hs|hs
      ·exact (sv3 s hs).keep (st.tk.trans (s45.tk.trans tk7))
      ·rw [Al.mp hs]
       exact ⟨pb,by rw [aE zS];exact aB,tk7 _ _ (by rw [hpb,rJ])⟩
     ·rw [Ax,em3,er,CP,Ax,Bp,if_pos (by simpa using c0),Bo]
      rfl
    ·refine iteF ⟨ts,_,_,rfl,s4,lt4,hSt4,λs hs=>(sv3 s hs).keep st.tk,?_⟩
     rw [em3,er,CP,Ax,Bp,if_neg (by simpa using c0)];simp
   ·intro σ H3 hh
    obtain ⟨ts,w3,w6,rfl,s3,lt3,hSt3,sv3,em3⟩:=hh;refine ⟨_,rfl,k' ts St H3 s3 lt3 nSt hSt3 sv3 ⟨os,ss.map (·.2),pm,pw,rp2,?_⟩⟩;rw [em3,<- cl];rfl
def vH:FnScope ["tree"] ["tree"] (aJ sStepsOf):=fnScOk (by decide +kernel)
def tM {k n:Nat}{f T:Addr}{fd:AM}(F:Fun K "steps_of" "steps_of" sStepsOf f fd)(cS:Cal P w K mg base CX0 k "steps_within" ["part","path"] (fS T n)):FnOk P w K mg base CX0 (k+1) f fd ["tree"] (iS T n):=by
 refine F.ok vH (λvs H Q E h=>?_) (λcdv A outer s H vs Q E hr h=>?_)
 ·obtain ⟨_,_,_,rfl,_⟩:=h
  rfl
 ·obtain ⟨v,ch,nd,rfl,hf,c1,wh,lt,k'⟩:=h
  refine ⟨_,(aH (aU (aL cS hr rfl aS (aA (pv 0) (aA (aT aC) aC))))),?_⟩;refine ⟨_,rfl,zLn0,λz hz=>?_⟩;have sz:=Same.upd (o:=.tup []) hz;refine ⟨v,z,[],ch,nd,rfl,aB,?_,c1,trivial,wh,LamT.keep lt sz,λss l H' sb lt' nl hl sv pl=>k' ss l H' ((Same.b sz).trans sb) lt' (sz.free nl) hl sv pl⟩;exact hf.keep sz.tk
end
end K45
namespace L2
open PySem PySem.Spec PyProof.Rows PySem.W
section
variable {X:Cx}
def aDm (hu:X.A.units+64<cLine):OpR X (BO .NotEq) (λx y H Q=>∃ a b xs,x=.ref a/\y=.ref b/\SqT X.K H a xs/\SqT X.K H b []/\Q (.bl (!xs.isEmpty)) H):=by
 intro pins s σ H x y v u Q I rx ry h;obtain ⟨a,b,xs,rfl,rfl,ha,hb,q⟩:=h;cases rx;cases ry;obtain ⟨its,r,p,_⟩:=I.tuple ha;obtain ⟨its',r',p',_⟩:=I.tuple hb;cases r';obtain ⟨o,o1,o2,n,o3⟩:=p;obtain ⟨o',o1',o2',n',o3'⟩:=p';have key:=SeqAt.RcNeAt.tuples (A:=X.A) (s:=s) (l:=a) (b:=b) (items:=its.toArray) (items2:=#[]) (e:=λ_=>true) ⟨o,o1,o2,n,o3⟩ ⟨o',o1',o2',n',o3'⟩ (by omega) (λj h1 h2=>absurd h2 (by simp));cases r with
 |nil=>exact key X.prog X.w X.xe _ ⟨.bl _,H,I,rfl,q⟩
 |cons r t=>exact key X.prog X.w X.xe _ ⟨.bl _,H,I,rfl,q⟩
end
section
variable {X:Cx}
def wB (hu:X.A.units+64<cLine):OpR X (BO .Eq) (λx y H Q=>∃ a b xs,x=.ref a/\y=.ref b/\SqT X.K H a xs/\SqT X.K H b []/\Q (.bl xs.isEmpty) H):=by
 intro pins s σ H x y v u Q I rx ry h;obtain ⟨a,b,xs,rfl,rfl,ha,hb,q⟩:=h;cases rx;cases ry;obtain ⟨its,r,p,_⟩:=I.tuple ha;obtain ⟨its',r',p',_⟩:=I.tuple hb;cases r';obtain ⟨o,o1,o2,n,o3⟩:=p;obtain ⟨o',o1',o2',n',o3'⟩:=p';have key:=SeqAt.RcAt.tuples (A:=X.A) (s:=s) (l:=a) (b:=b) (items:=its.toArray) (items2:=#[]) (e:=λ_=>true) ⟨o,o1,o2,n,o3⟩ ⟨o',o1',o2',n',o3'⟩ (by omega) (λj h1 h2=>absurd h2 (by simp));cases r with
 |nil=>exact key X.prog X.w X.xe _ ⟨.bl _,H,I,rfl,q⟩
 |cons r t=>exact key X.prog X.w X.xe _ ⟨.bl _,H,I,rfl,q⟩
end
end L2
namespace L2
open PySem PySem.Spec PyProof.Rows
def zM:V->List V->Hp->VK->Prop:=λx vs H Q=>∃ l xs y,x=.ref l/\vs=[.int 0,y]/\H l=some (.lst xs)/\xs.length<AE/\Q .non (upd H l (.lst (y::xs)))
def aC6:V->List V->Hp->VK->Prop:=λx vs H Q=>∃ (l:Addr) (ns:List Int) (i:Int),x=.ref l/\vs=[.int i]/\H l=some (.lst (ns.map V.int))/\i∈ns/\∀ j,j<ns.length->Q .non (upd H l (.lst ((ns.eraseIdx j).map V.int)))
theorem nV {α β:Type}(f:α->β):∀ (l:List α) (j:Nat),(l.eraseIdx j).map f=(l.map f).eraseIdx j
 |[],_=>rfl
 |_::_,0=>rfl
 |a::l,j+1=>congrArg (f a::·) (nV f l j)
section
variable {X:Cx}
def tQ:MtM X "list.insert" zM:=by
 intro pins s σ H x vs v us Q I rx rv h;obtain ⟨l,xs,y,rfl,rfl,hH,hz,q⟩:=h;cases rx;cases rv with
 |cons r1 r2=>
  obtain ⟨u,rfl,ru⟩:=Vals.one r2;obtain ⟨t,rfl⟩:=r1;obtain ⟨z,its,n,r,hl,e⟩:=I.lstM hH;refine call_meets PySem.F.slot_list_insert ⟨_,e,rfl⟩ PySem.F.entry_list_insert (PySem.F.args_list_insert_3 _ _ _) (PySem.AutoSeq1.list_insert_list_int_val_1 l its.toArray n 0 t u (by decide) (by rw [Ai];omega)) ⟨e,?_⟩;refine ⟨.non,_,I.lset (its':=u::its) hH e ?_ (.cons ru r) ?_,rfl,q⟩
  ·simp
  ·rw [AI]
   omega
def wX:MtM X "list.remove" aC6:=by
 intro pins s σ H x vs v us Q I rx rv h;obtain ⟨l,ns,i,rfl,rfl,hH,hi,q⟩:=h;cases rx;obtain ⟨u,rfl,ru⟩:=rv.one;obtain ⟨t,rfl⟩:=ru;obtain ⟨z,its,n,r,hl,e⟩:=I.lstM hH;have ia:=intsAre_of r;have at':∀ (m:Nat) (hm:m<its.length),∃ (a:Int) (u:Tok),ns[m]?=some a/\its[m]=.int a u:=λm hm=>by
  have:m<ns.length:=by rw [Ac] at hl;omega
  obtain ⟨u1,h1,r1⟩:=r.get (show (ns.map V.int)[m]?=some (.int ns[m]) by rw [Aj,Af this];rfl);obtain ⟨t1,rfl⟩:=r1;exact ⟨ns[m],t1,Af this,(Ah.mp h1).2⟩
 let ev:Value->Bool:=λw=>match w with|.int a _=>a==i|_=>false
 obtain ⟨j,hj,hji,hno⟩:∃ j,∃ hj:j<ns.length,ns[j]=i/\∀ m (hm:m<ns.length),m<j->ns[m]≠i:=by
  have:∀ {ns:List Int},i∈ns->∃ j,∃ hj:j<ns.length,ns[j]=i/\∀ m (hm:m<ns.length),m<j->ns[m]≠i:=λ{ns}=>by
   induction ns with
   |nil=>intro h;cases h
   |cons a r ih=>
    intro h
    by_cases e:a=i
    ·exact ⟨0,by simp,e,λm _ h=>absurd h (by omega)⟩
    ·rcases Aw.mp h with h|h
     ·exact absurd h.symm e
     ·obtain ⟨j,hj,h1,h2⟩:=ih h
      refine ⟨j+1,by simpa using hj,by simpa using h1,λm hm hlt=>?_⟩;cases m with
      |zero=>simpa using e
      |succ m=>simpa using h2 m (by simpa using hm) (by omega)
  exact this hi
 have hl':its.length=ns.length:=by rw [Ac] at hl;omega
 refine call_meets PySem.F.slot_list_remove ⟨_,e,rfl⟩ PySem.F.entry_list_remove (PySem.F.args_list_remove_2 _ _) (PySem.MeetsSeq.list_remove l its.toArray n (.int i t) ev (λy hy=>?_) j (by rw [Ai];omega) ?_ (λm hm hlt=>?_) (by rw [Ai];rw [Ac] at z;omega)) ⟨e,?_⟩
 ·obtain ⟨m,hm,rfl⟩:=List.getElem_of_mem (show y∈its by simpa using hy)
  obtain ⟨a,ta,_,e1⟩:=at' m hm;rw [e1];exact PySem.MeetsSeq.EqGives.int a i ta t
 ·obtain ⟨a,ta,e0,e1⟩:=at' j (by omega)
  rw [Af hj] at e0;have:its.toArray[j]'(by rw [Ai];omega)=.int a ta:=by simpa using e1
  rw [this];show (a==i)=true;rw [<- AS e0,hji];simp
 ·have hm':m<its.length:=by simpa using hm
  obtain ⟨a,ta,e0,e1⟩:=at' m hm';rw [Af (by omega)] at e0;have:its.toArray[m]=.int a ta:=by simpa using e1
  rw [this];show (a==i)=false;rw [<- AS e0]
  simpa using hno m (by omega) hlt
 ·refine ⟨.non,_,I.lset (its':=its.eraseIdx j) hH e ?_ ?_ ?_,rfl,q j hj⟩
  ·show its.toArray.eraseIdxIfInBounds j=(its.eraseIdx j).toArray
   rw [Ez]
  ·have:=r.eraseIdx j
   rwa [<- nV] at this
  ·rw [Ac]
   have:=jN ns j;rw [Ac] at z;omega
def zZ {X:Cx}{K:Ab}(h:X.K=K)(hu:X.A.units+64<cLine):OpR X (BO .Eq) (λx y H Q=>∃ a b xs,x=.ref a/\y=.ref b/\SqT K H a xs/\SqT K H b []/\Q (.bl xs.isEmpty) H):=h▸wB hu
def zY {X:Cx}{K:Ab}(h:X.K=K)(hu:X.A.units+64<cLine):OpR X (BO .NotEq) (λx y H Q=>∃ a b xs,x=.ref a/\y=.ref b/\SqT K H a xs/\SqT K H b []/\Q (.bl (!xs.isEmpty)) H):=h▸aDm hu
end
end L2
namespace L2.TP
open PySem PySem.Spec PyProof.Rows L2.TS
abbrev zI (p:List Nat):List Int:=p.map λ(k:Nat)=>(k:Int)
def Tp (h:Heap)(nm:Value->List Nat)(v:Value):Prop:=∃ a o xs n b ob ys m r,v=.ref a/\h.get? a=some o/\o.cls=.type "tuple" /\ o.data=.seq xs n/\xs.toList=.ref b::r/\h.get? b=some ob/\ob.cls=.type "tuple" /\ ob.data=.seq ys m/\DH ys.toList (zI (nm v))
def aB1 {h:Heap}{a b:Addr}{its:Array Value}{m:Nat}{o:Obj}(ha:h.get? a=some (seqObj "list" its m))(ho:h.get? b=some o)(hc:o.cls=.type "tuple"):b≠a:=by
 rintro rfl
 rw [ho] at ha;obtain rfl:=AS ha;exact absurd (show Da "list" = Da "tuple" from hc) (by simp)
theorem Tp.keep {h h':Heap}{nm:Value->List Nat}{v:Value}{a:Addr}{its:Array Value}{m:Nat}(t:Tp h nm v)(ha:h.get? a=some (seqObj "list" its m))(k:∀ b o,b≠a->h.get? b=some o->h'.get? b=some o):Tp h' nm v:=by
 obtain ⟨b,o,xs,n,c,oc,ys,m2,r,e,ho,hc,hd,hx,h2,c2,d2,i2⟩:=t;exact ⟨b,o,xs,n,c,oc,ys,m2,r,e,k b o (aB1 ha ho hc) ho,hc,hd,hx,k c oc (aB1 ha h2 c2) h2,c2,d2,i2⟩
def Tp.kept {h h':Heap}{nm:Value->List Nat}{v:Value}(t:Tp h nm v)(k:∀ b o,h.get? b=some o->h'.get? b=some o):Tp h' nm v:=by
 obtain ⟨b,o,xs,n,c,oc,ys,m2,r,e,ho,hc,hd,hx,h2,c2,d2,i2⟩:=t;exact ⟨b,o,xs,n,c,oc,ys,m2,r,e,k b o ho,hc,hd,hx,k c oc h2,c2,d2,i2⟩
theorem aEk {p q:List Nat}(h:zI p=zI q):p=q:=List.map_inj_right (λa b e=>by omega) |>.mp h
theorem lex_lt:∀ {p q:List Nat},p≠q->HT.lexLt (zI p) (zI q)=decide (p<q)
 |[],[],h=>absurd rfl h
 |[],b::q,_=>by
  show true=_;exact (decide_eq_true (List.nil_lt_cons ..)).symm
 |a::p,[],_=>by
  show false=_;exact (decide_eq_false (List.not_lt_nil _)).symm
 |a::p,b::q,h=>by
  show (if (a:Int)=(b:Int) then HT.lexLt (zI p) (zI q) else decide ((a:Int)<(b:Int)))=_
  by_cases e:a=b
  ·subst e
   rw [if_pos rfl,lex_lt (λz=>h (by rw [z]))];simp [List.cons_lt_cons_iff]
  ·rw [if_neg (by omega)]
   simp [List.cons_lt_cons_iff,e]
def aB7 {h:Heap}{nm:Value->List Nat}:∀ (vs:List Value),(∀ v∈vs,Tp h nm v)->∃ fs,PySem.W.KatTups h vs fs/\fs.length=vs.length/\∀ v∈fs,∃ b ob,v=.ref b/\h.get? b=some ob/\ob.cls=.type "tuple"
 |[],_=>⟨[],trivial,rfl,λv h=>nomatch h⟩
 |v::vs,H=>by
  obtain ⟨fs,k,l,e⟩:=aB7 vs λu hu=>H u (Au _ hu);obtain ⟨a,o,xs,n,b,ob,ys,m,r,rfl,ho,hc,hd,hx,h2,c2,d2,i2⟩:=H v (Az ..);refine ⟨_::fs,PySem.W.KatTups.cons ho hc hd (f:=.ref b) ?_ k,by simp [l],?_⟩
  ·rw [<- Cr,hx];rfl
  ·intro u hu
   rcases Aw.mp hu with rfl|hu
   ·exact ⟨b,ob,rfl,h2,c2⟩
   ·exact e u hu
section
variable {prog:AF}{w:World}{A:Around}{E:Value->Shared->Prop}{s:Shared}{nm:Value->List Nat}{vs:List Value}
abbrev kf (nm:Value->List Nat):Value->Ky:=nm
theorem kind {Q:SortKind->Shared->Prop}(h0:0<vs.length)(T:∀ v∈vs,Tp s.heap nm v)(h:Q (tuples' false) s):wpAny (model prog w) A (keyKind' vs.toArray) Q E s:=by
 obtain ⟨fs,k,l,e⟩:=aB7 vs T;refine PySem.W.kat_kind (T:=.type "tuple") k (by omega) (λv hv=>?_) (by decide) ?_
 ·obtain ⟨b,ob,rfl,h2,c2⟩:=e v hv
  have:=show PySem.W.Looks (model prog w) s.heap (typeOf (.ref b)) ob.cls from (PySem.W.Looks.ld h2).andThen .now;rwa [c2] at this
 ·have hb:(Da "tuple" != Da "tuple")=false:=by decide
  rw [hb];exact h
def tX {prog:AF}{w:World}{ns:List Int}{vs:List Value}(h:DH vs ns):ItemsAre (intKind prog w) ns vs:=by
 induction h with
 |nil=>exact .nil
 |cons a t _ ih=>exact .cons (intKind_is prog w a t) ih
def cmp (hu:A.units<cLine)(T:∀ v∈vs,Tp s.heap nm v):Cmp prog w A s (tuples' false) (kf nm) (pairsOf vs):=by
 intro p q E Q hp hq hn h;have m:∀ p∈(pairsOf vs).toList,p.1∈vs:=λp hp=>by rw [pairsOf_toList] at hp;exact (List.of_mem_zip hp).1
 obtain ⟨a,o,xs,n,b,ob,ys,mm,r,ea,ho,hc,hd,hx,h2,c2,d2,i2⟩:=T _ (m p hp);obtain ⟨a',o',xs',n',b',ob',ys',mm',r',ea',ho',hc',hd',hx',h2',c2',d2',i2'⟩:=T _ (m q hq);rw [show keyLt' (tuples' false) p.1 q.1=keyLt' (tuples' false) (.ref a) (.ref a') by rw [ea,ea']];refine PySem.W.kat_lt ho hd ho' hd' ?_;rw [hx,hx',Fg];have tk:∀ {c oc zs k} {ns:List Int},s.heap.get? c=some oc->oc.cls=.type "tuple" -> oc.data=.seq zs k->DH zs.toList ns->IsTupleKey (intKind prog w) s.heap ns c:=λ{c oc zs k ns} e1 e2 e3 e4=>⟨oc,zs,k,e1,e2,e3,tX e4⟩;refine PySem.W.kat_cons (wpAny_eqBool_tuple hu (tk h2 c2 d2 i2) (tk h2' c2' d2' i2') ?_);rw [decide_eq_false (λz=>hn (aEk z))];refine PySem.W.kat_no (PySem.W.kat_one _ _ (HT.lt_tupInts (items:=ys) (items2:=ys') ⟨ob,h2,c2,mm,d2⟩ ⟨ob',h2',c2',mm',d2'⟩ i2 i2' hu ?_));rw [lex_lt hn];exact h
def yX (hu:A.units+8<cLine){a:Addr}{n:Nat}{R:PySem.Fin->Shared->Prop}(ho:s.heap.get? a=some (seqObj "list" vs.toArray n))(T:∀ v∈vs,Tp s.heap nm v)(D:vs.Pairwise λu v=>nm u≠nm v)(h64:vs.length<64)
  (h:∀ out:List Value,out.Perm vs->(out.Pairwise λu v=>kf nm u<kf nm v)->R (.done (.ret .none)) { s with heap:=sortedHeap s.heap a vs out.toArray }):wpAny (model prog w) A (AU.«list.sort» ⟨[.ref a],[]⟩) R E s:=by
 have fin:∀ xs:Array Keyed,xs.Perm (pairsOf vs)->Up (kf nm) xs (pairsOf vs).size->R (.done (.ret .none)) { s with heap:=sortedHeap s.heap a vs (xs.map (·.2)) }:=λxs hp hu=>by
  obtain ⟨q1,q2⟩:=aFr hp hu;have e:=h _ q1 q2;rw [DV] at e;exact e
 rw [list_sort_plain];have lt:a<s.heap.objs.size:=Ar ho;refine Aa (listItems_at ho rfl (Aa (listUpdate_at ho rfl ?_)));obtain ⟨e1,o1⟩:∃ e1,(s.heap.update a (Br λ_=>#[])).get? a=some (seqObj "list" #[] e1):=⟨_,get?_update_seq ho (λ_=>#[])⟩;refine Aa (seqEpoch_at o1 rfl (Aa (wpAny_newTuple (Aa (wpAny_newList (BE ?_))))));show wpAny (model prog w) A _ R E { s with heap:=((s.heap.update a (Br λ_=>#[])).push (seqObj "tuple" vs.toArray 0)).push (seqObj "list" #[] 0) };generalize hg:((s.heap.update a (Br λ_=>#[])).push (seqObj "tuple" vs.toArray 0)).push (seqObj "list" #[] 0)=g;have keep:∀ b o,b≠a->s.heap.get? b=some o->g.get? b=some o:=λb o nb hb=>by
  have l:=Ar hb;rw [<- hg,Cm _ _ _ (by rw [size_push',Ds];exact AG (Co l)),Cm _ _ _ (by rw [Ds];exact AG l),Heap.get?_update_ne _ _ _ _ nb];exact hb
 have o6:g.get? a=some (seqObj "list" #[] e1):=by
  rw [<- hg,Cm _ _ _ (by rw [size_push',Ds];exact AG (Co lt)),Cm _ _ _ (by rw [Ds];exact AG lt)];exact o1
 have T':∀ v∈vs,Tp g nm v:=λv hv=>(T v hv).keep ho keep;have fin':∀ xs:Array Keyed,xs.Perm (pairsOf vs)->Up (kf nm) xs (pairsOf vs).size->R (.done (.ret .none)) { s with heap:=g.update a (Br λ_=>xs.map (·.2)) }:=λxs hp hu=>by
  rw [<- hg];exact fin xs hp hu
 dsimp only;have z:vs.toArray.size=vs.length:=by simp
 by_cases h2:vs.toArray.size<2
 ·rw [if_pos h2,if_pos h2]
  refine Aa (Ag ?_);rw [StateT.run_pure];refine Aa (Ag ?_);dsimp only;refine Aa (seqEpoch_at o6 rfl (Aa (listUpdate_at o6 rfl ?_ (hsz2:=by rw [Array.size_map];show (pairsOf vs).size<=_;rw [pairsOf_size,Dx];omega))));simp only [bne_self_eq_false,BS,if_false];refine Ag (fin' (vs.toArray.zip vs.toArray) (Array.Perm.refl _) λi j q1 q2=>?_);rw [pairsOf_size] at q2;omega
 ·rw [if_neg h2,if_neg h2]
  refine Aa (kind (by omega) T' ?_);refine Aa (BH (runs (kd:=tuples' false) (f:=kf nm) (o:=pairsOf vs) (st:=SortSt.mk' (tuples' false) (vs.toArray.zip vs.toArray) #[] 7 none) (Q:=λ_ st=>(arrOf st).Perm (pairsOf vs)/\failedOf st=none/\Up (kf nm) (arrOf st) (pairsOf vs).size)
   (cmp (by (try simp only [Around.in1]);omega) T') ⟨Array.Perm.refl _,rfl,rfl,rfl,?_⟩ (by rw [pairsOf_size];omega) (by rw [pairsOf_size];exact h64) λst x1 x2 x3=>⟨x1,x2,x3⟩) ?_ λ_ _ e=>e)
  ·show Df (kf nm) (pairsOf vs).toList
   rw [pairsOf_toList,pB];exact De.mpr (D.imp λne z=>ne z)
  ·rintro ⟨⟨⟩,st⟩ s' ⟨rfl,hp,hf,hs⟩
   dsimp only;refine Aa (seqEpoch_at o6 rfl (Aa (listUpdate_at o6 rfl ?_ (hsz2:=by refine Bh (Nat.le_of_eq ((Array.size_map ..).trans (hp.size_eq.trans (pairsOf_size _)))) ?_;rw [Dx];omega))));rw [hf];simp only [bne_self_eq_false,BS,if_false];exact Ag (fin' _ hp hs)
def sorted_tup (hu:A.units+16<cLine){l:Addr}{Q:Value->Shared->Prop}(hl:s.heap.IsList l vs.toArray)(T:∀ v∈vs,Tp s.heap nm v)(D:vs.Pairwise λu v=>nm u≠nm v)(h64:vs.length<64)
  (h:∀ out:List Value,out.Perm vs->(out.Pairwise λu v=>kf nm u<kf nm v)->Q (.ref (s.heap.objs.size+1)) { s with heap:=sortedAll s.heap vs out.toArray }):wpAny (model prog w) A (call (.builtin "sorted") [.ref l]) Q E s:=by
 refine Calls.call_function_entry kind_sorted plain_sorted entry_sorted (args_sorted1 _) ?_;unfold AU.«sorted»;refine Aa (m:=checkCount "sorted" 1 1 _) (Ag (Aa (collect_list hl (Aa (wpAny_newList ?_)))));have z:((s.heap.push (seqObj "list" #[] 0)).update s.heap.objs.size (Br (·++vs.toArray))).objs.size=s.heap.objs.size+1:=by rw [Ds,size_push']
 have oL:(((s.heap.push (seqObj "list" #[] 0)).update s.heap.objs.size (Br (·++vs.toArray))).push (seqObj "list" vs.toArray 0)).get? (s.heap.objs.size+1)=some (seqObj "list" vs.toArray 0):=by rw [<- z];exact An _ rfl
 have T':∀ v∈vs,Tp (((s.heap.push (seqObj "list" #[] 0)).update s.heap.objs.size (Br (·++vs.toArray))).push (seqObj "list" vs.toArray 0)) nm v:=λv hv=>(T v hv).kept λb o hb=>by
  have lt:=Ar hb;rw [Cm _ _ _ (by rw [z];exact AG (Co lt)),Heap.get?_update_ne _ _ _ _ (AG lt),Cm _ _ _ (AG lt)];exact hb
 show wpAny _ _ _ _ _ { s with heap:=(((s.heap.push (seqObj "list" #[] 0)).update s.heap.objs.size (Br (·++vs.toArray))).push (seqObj "list" vs.toArray 0)) };rw [z];exact Aa (BE (BG slot_list_sort ⟨_,oL,rfl⟩ entry_list_sort (yX (by (try simp only [Around.in1]);omega) oL T' D h64 λout x1 x2=>⟨_,rfl,Ag ⟨_,rfl,h out x1 x2⟩⟩) (args_list_sort _)))
end
end L2.TP
namespace L2
open PySem PySem.Spec PyProof.Rows
def ntH (H:Hp)(a:Addr):List Nat:=match H a with
 |some (.tup (.ref b::_))=>(match H b with
  |some (.tup vs)=>vs.map λv=>(match v with|.int n=>n.toNat|_=>0)
  |_=>[])
 |_=>[]
theorem aBz {H:Hp}{a b:Addr}{p:List Nat}{r:List V}(h:H a=some (.tup (.ref b::r)))(hb:H b=some (.tup (p.map λ(k:Nat)=>V.int (k:Int)))):ntH H a=p:=by
 unfold ntH;rw [h];dsimp only;rw [hb];dsimp only;rw [Bw]
 conv=>rhs;rw [<- List.map_id p]
 exact Dk λk _=>by simp
def ntV (H:Hp):Value->List Nat
 |.ref a=>ntH H a
 |_=>[]
def aFg (K:Ab):List V->Hp->VK->Prop:=λxs H Q=>∃ a as,xs=[.ref a]/\SqL K H a (as.map V.ref)/\as.length<64/\(∀ q∈as,∃ (b:Addr) (p:List Nat) (r:List V),H q=some (.tup (.ref b::r))/\H b=some (.tup (p.map λ(k:Nat)=>V.int (k:Int))))/\(as.map (ntH H)).Nodup /\
 ∀ (p:Addr) (as':List Addr),as'.Perm as->H p=none->Q (.ref p) (upd H p (.lst (as'.map V.ref)))
def uI {X:Cx}(hu:X.A.units+64<cLine):eX X (.builtin "sorted") (aFg X.K):=by
 intro pins s σ H xs us Q I r h;obtain ⟨a,as,rfl,hq,h64,ht,nd,q⟩:=h;obtain ⟨u,rfl,rx⟩:=vals1 r;cases rx;obtain ⟨its,r',pl,hz⟩:=I.list hq;obtain rfl:=pV r';refine TP.sorted_tup (by (try simp only [Around.in1]);omega) (nm:=ntV H) pl.isList (λv hv=>?_) (De.mpr (De.mp nd)) (by rw [Ac];exact h64) λout x1 x2=>?_
 ·obtain ⟨b,hb,rfl⟩:=AY.mp hv
  obtain ⟨c,p,r,e,ec⟩:=ht b hb;obtain ⟨its,r2,⟨o,ho,hc,n,hd⟩,_⟩:=I.tuple (SqT.of e);obtain ⟨its2,r3,⟨o2,ho2,hc2,n2,hd2⟩,_⟩:=I.tuple (SqT.of ec);cases r2 with
  |cons y1 y2=>
   have ey:_=AN c:=y1;subst ey;refine ⟨b,o,_,n,c,o2,_,n2,_,rfl,ho,hc,hd,rfl,ho2,hc2,hd2,?_⟩;show DH its2 (TP.zI (ntH H b));rw [aBz e ec];exact intsAre_of (by rw [Bw];exact r3)
 ·have er:∀ v∈out,v=.ref (adOf v):=λv hv=>by
   obtain ⟨b,_,rfl⟩:=AY.mp (x1.mem_iff.mp hv);rfl
  have eo:out=(out.map adOf).map AN:=by
   rw [Bw]
   conv=>lhs;rw [<- List.map_id out]
   exact Dk er
  have pm:(out.map adOf).Perm as:=by
   have:=x1.map adOf;rw [Bw,show (adOf ∘ AN)=id from rfl,List.map_id] at this;exact this
  obtain ⟨e,he⟩:=sortedAll_at s.heap (as.map AN) out.toArray;have va:Vals ((out.map adOf).map V.ref) out:=by
   have z:=mR (out.map adOf);rw [<- eo] at z;exact z
  refine ⟨.ref (s.heap.objs.size+1),_,I.laid (a:=s.heap.objs.size+1) (o:=.lst ((out.map adOf).map V.ref)) (t':=s.toks) (λ_ _=>sortedAll_old) (Cb _) (nW (its:=out) (e:=e) va ?_ he),rfl,q _ (out.map adOf) pm (I.hok.fresh (Cb _))⟩;rw [Ac,pm.length_eq];exact bL (by omega)
end L2
namespace K45
open PySem PySem.Spec PyProof.Rows L2 GM TM TR
abbrev zE:Stmt:=inClass zB 0
abbrev rF:Stmt:=inClass zB 1
abbrev sOwn:Stmt:=inClass zB 2
abbrev rG:Stmt:=inClass zB 3
structure Ad where
 p:Addr
 lr:Addr
 ls:Addr
 lf:Addr
 lu:Addr
 dp:Addr
 da:Addr
def wfl (root:V)(lr ls lf lu dp da:Addr):List (Str×V):=[("tree",root),("rows",.ref lr),("stands",.ref ls),("free",.ref lf),("unclean",.ref lu),("phial_of",.ref dp),("arrived",.ref da)]
section
variable {root:V}{lr ls lf lu dp da:Addr}
def aEq:putF "arrived" (.ref da) (putF "phial_of" (.ref dp) (putF "unclean" (.ref lu) (putF "free" (.ref lf) (putF "stands" (.ref ls) (putF "rows" (.ref lr) (putF "tree" root []))))))=wfl root lr ls lf lu dp da:=by kernel_rfl
def aEo:(wfl root lr ls lf lu dp da).lookup ("tree":Str)=some root:=by kernel_rfl
def uN:(wfl root lr ls lf lu dp da).lookup ("rows":Str)=some (V.ref lr):=by kernel_rfl
def aEp:(wfl root lr ls lf lu dp da).lookup ("stands":Str)=some (V.ref ls):=by kernel_rfl
def aEr:(wfl root lr ls lf lu dp da).lookup ("free":Str)=some (V.ref lf):=by kernel_rfl
def aEn:(wfl root lr ls lf lu dp da).lookup ("unclean":Str)=some (V.ref lu):=by kernel_rfl
def iQ:(wfl root lr ls lf lu dp da).lookup ("phial_of":Str)=some (V.ref dp):=by kernel_rfl
def aCi:(wfl root lr ls lf lu dp da).lookup ("arrived":Str)=some (V.ref da):=by kernel_rfl
end
structure Cl (K:Ab)(mg:Str->Option Value)(C:Addr):Prop where
 cl:Cls K C
 nT:NoAttr K C "tree"
 nR:NoAttr K C "rows"
 nS:NoAttr K C "stands"
 nF:NoAttr K C "free"
 nU:NoAttr K C "unclean"
 nP:NoAttr K C "phial_of"
 nA:NoAttr K C "arrived"
structure Nq (A:Ad):Prop where
 rs:A.lr≠A.ls
 rf:A.lr≠A.lf
 ru:A.lr≠A.lu
 sf:A.ls≠A.lf
 su:A.ls≠A.lu
 fu:A.lf≠A.lu
 pa:A.dp≠A.da
structure Wk (C:Addr)(H:Hp)(A:Ad)(root:V)(rows ss:List V)(fr un:List Int)(kp ka:List (List Key×V)):Prop where
 ob:∃ dx,H A.p=some (.ins C dx (wfl root A.lr A.ls A.lf A.lu A.dp A.da))
 r:H A.lr=some (.lst rows)
 s:H A.ls=some (.lst ss)
 f:H A.lf=some (.lst (fr.map V.int))
 u:H A.lu=some (.lst (un.map V.int))
 d:H A.dp=some (.dT kp)
 a:H A.da=some (.dT ka)
 n:Nq A
def Ot (A:Ad)(b:Addr):Prop:=b≠A.p/\b≠A.lr/\b≠A.ls/\b≠A.lf/\b≠A.lu/\b≠A.dp/\b≠A.da
def Kw (A:Ad)(H H':Hp):Prop:=∀ b o,Ot A b->H b=some o->H' b=some o
section
variable {C:Addr}{H H' H'':Hp}{A:Ad}{root:V}{rows ss:List V}{fr un:List Int}{kp ka:List (List Key×V)}
def Kw.of (s:Same H H'):Kw A H H':=λb o _ e=>s b o e
def Kw.refl:Kw A H H:=λb o _ e=>e
theorem Kw.trans (h:Kw A H H')(k:Kw A H' H''):Kw A H H'':=λb o u e=>k b o u (h b o u e)
theorem Wk.keep (B:Wk C H A root rows ss fr un kp ka)(s:Same H H'):Wk C H' A root rows ss fr un kp ka:=by
 obtain ⟨⟨dx,h⟩,h1,h2,h3,h4,h5,h6,n⟩:=B;exact ⟨⟨dx,s _ _ h⟩,s _ _ h1,s _ _ h2,s _ _ h3,s _ _ h4,s _ _ h5,s _ _ h6,n⟩
def Wk.ot (B:Wk C H A root rows ss fr un kp ka){b:Addr}{xs:List V}(h:H b=some (.tup xs)):Ot A b:=by
 obtain ⟨⟨dx,h0⟩,h1,h2,h3,h4,h5,h6,n⟩:=B;exact ⟨bG h h0 (by intro z;cases z),bG h h1 (by intro z;cases z),bG h h2 (by intro z;cases z),bG h h3 (by intro z;cases z),bG h h4 (by intro z;cases z),bG h h5 (by intro z;cases z),bG h h6 (by intro z;cases z)⟩
def Wk.tk (B:Wk C H A root rows ss fr un kp ka)(k:Kw A H H'):Tk H H':=λb xs h=>k b _ (B.ot h) h
def Wk.rows' {rows':List V}(B:Wk C H A root rows ss fr un kp ka):Wk C (upd H A.lr (.lst rows')) A root rows' ss fr un kp ka:=by
 obtain ⟨⟨dx,h0⟩,h1,h2,h3,h4,h5,h6,n⟩:=B;exact ⟨⟨dx,by rw [aE (bG h0 h1 (by intro z;cases z))];exact h0⟩,aB,by rw [aE n.rs.symm];exact h2,by rw [aE n.rf.symm];exact h3,by rw [aE n.ru.symm];exact h4,by rw [aE (bG h5 h1 (by intro z;cases z))];exact h5,by rw [aE (bG h6 h1 (by intro z;cases z))];exact h6,n⟩
def Wk.ss' {ss':List V}(B:Wk C H A root rows ss fr un kp ka):Wk C (upd H A.ls (.lst ss')) A root rows ss' fr un kp ka:=by
 obtain ⟨⟨dx,h0⟩,h1,h2,h3,h4,h5,h6,n⟩:=B;exact ⟨⟨dx,by rw [aE (bG h0 h2 (by intro z;cases z))];exact h0⟩,by rw [aE n.rs];exact h1,aB,by rw [aE n.sf.symm];exact h3,by rw [aE n.su.symm];exact h4,by rw [aE (bG h5 h2 (by intro z;cases z))];exact h5,by rw [aE (bG h6 h2 (by intro z;cases z))];exact h6,n⟩
def Wk.fr' {fr':List Int}(B:Wk C H A root rows ss fr un kp ka):Wk C (upd H A.lf (.lst (fr'.map V.int))) A root rows ss fr' un kp ka:=by
 obtain ⟨⟨dx,h0⟩,h1,h2,h3,h4,h5,h6,n⟩:=B;exact ⟨⟨dx,by rw [aE (bG h0 h3 (by intro z;cases z))];exact h0⟩,by rw [aE n.rf];exact h1,by rw [aE n.sf];exact h2,aB,by rw [aE n.fu.symm];exact h4,by rw [aE (bG h5 h3 (by intro z;cases z))];exact h5,by rw [aE (bG h6 h3 (by intro z;cases z))];exact h6,n⟩
def Wk.un' {un':List Int}(B:Wk C H A root rows ss fr un kp ka):Wk C (upd H A.lu (.lst (un'.map V.int))) A root rows ss fr un' kp ka:=by
 obtain ⟨⟨dx,h0⟩,h1,h2,h3,h4,h5,h6,n⟩:=B;exact ⟨⟨dx,by rw [aE (bG h0 h4 (by intro z;cases z))];exact h0⟩,by rw [aE n.ru];exact h1,by rw [aE n.su];exact h2,by rw [aE n.fu];exact h3,aB,by rw [aE (bG h5 h4 (by intro z;cases z))];exact h5,by rw [aE (bG h6 h4 (by intro z;cases z))];exact h6,n⟩
def Wk.kp' {kp':List (List Key×V)}(B:Wk C H A root rows ss fr un kp ka):Wk C (upd H A.dp (.dT kp')) A root rows ss fr un kp' ka:=by
 obtain ⟨⟨dx,h0⟩,h1,h2,h3,h4,h5,h6,n⟩:=B;exact ⟨⟨dx,by rw [aE (bG h0 h5 (by intro z;cases z))];exact h0⟩,by rw [aE (bG h1 h5 (by intro z;cases z))];exact h1,by rw [aE (bG h2 h5 (by intro z;cases z))];exact h2,by rw [aE (bG h3 h5 (by intro z;cases z))];exact h3,by rw [aE (bG h4 h5 (by intro z;cases z))];exact h4,aB,by rw [aE n.pa.symm];exact h6,n⟩
def Wk.ka' {ka':List (List Key×V)}(B:Wk C H A root rows ss fr un kp ka):Wk C (upd H A.da (.dT ka')) A root rows ss fr un kp ka':=by
 obtain ⟨⟨dx,h0⟩,h1,h2,h3,h4,h5,h6,n⟩:=B;exact ⟨⟨dx,by rw [aE (bG h0 h6 (by intro z;cases z))];exact h0⟩,by rw [aE (bG h1 h6 (by intro z;cases z))];exact h1,by rw [aE (bG h2 h6 (by intro z;cases z))];exact h2,by rw [aE (bG h3 h6 (by intro z;cases z))];exact h3,by rw [aE (bG h4 h6 (by intro z;cases z))];exact h4,by rw [aE n.pa];exact h5,aB,n⟩
theorem Kw.r (k:Kw A H H'){o:HO}:Kw A H (upd H' A.lr o):=λb u t e=>by rw [aE t.2.1];exact k b u t e
theorem Kw.s (k:Kw A H H'){o:HO}:Kw A H (upd H' A.ls o):=λb u t e=>by rw [aE t.2.2.1];exact k b u t e
theorem Kw.f (k:Kw A H H'){o:HO}:Kw A H (upd H' A.lf o):=λb u t e=>by rw [aE t.2.2.2.1];exact k b u t e
theorem Kw.u (k:Kw A H H'){o:HO}:Kw A H (upd H' A.lu o):=λb u t e=>by rw [aE t.2.2.2.2.1];exact k b u t e
theorem Kw.d (k:Kw A H H'){o:HO}:Kw A H (upd H' A.dp o):=λb u t e=>by rw [aE t.2.2.2.2.2.1];exact k b u t e
theorem Kw.a (k:Kw A H H'){o:HO}:Kw A H (upd H' A.da o):=λb u t e=>by rw [aE t.2.2.2.2.2.2];exact k b u t e
end
def xP {x:Int}{ns:List Int}:inV (.int x) (ns.map V.int)=true↔x∈ns:=by
 unfold inV;rw [List.any_eq_true];constructor
 ·rintro ⟨v,hv,e⟩
  obtain ⟨y,hy,rfl⟩:=AY.mp hv;have:y=x:=by simpa [eqV] using e
  exact this▸hy
 ·intro h
  exact ⟨.int x,AY.mpr ⟨x,h,rfl⟩,by simp [eqV]⟩
def oI (ns:List Int):(ns.map V.int).all dX=true:=by
 rw [Cy];intro v hv;obtain ⟨y,_,rfl⟩:=AY.mp hv;rfl
def six0 {n:Nat}:seqIndex? 0 (n+1)=some 0:=by
 unfold seqIndex?;simp
def pkv {H:Hp}{a:Addr}{ks:List Nat}(h:H a=some (.tup (pth ks))):H a=some (.tup ((pk ks).map kV)):=by rw [aG6];exact h
def iG:Sp:=λvs H Q _=>∃ (v u:V) (pa:Addr) (ks:List Nat),vs=[v,.ref pa]/\H pa=some (.tup (pth ks))/\AtP H v ks u/\Q u H
def pN (C:Addr):Sp:=λvs H Q _=>∃ (p dx rd ul:Addr) (root:V) (rs us:List Int),vs=[.ref p,root,.ref rd,.ref ul]/\H p=some (.ins C dx [])/\H rd=some (.lst (rs.map V.int))/\H ul=some (.lst (us.map V.int)) /\
 ∀ (A:Ad) H',A.p=p->Wk C H' A root [] [] rs us [] []->(∀ b o,H b=some o->b≠p->H' b=some o/\Ot A b)->Q .non H'
def aCt (C:Addr):Sp:=λvs H Q _=>∃ (A:Ad) (pa:Addr) (y:List Nat) (root:V) (rows ss:List V) (fr un:List Int) (kp ka:List (List Key×V)),vs=[.ref A.p,.ref pa]/\H pa=some (.tup (pth y))/\Wk C H A root rows ss fr un kp ka/\rows.length<=900/\kp.length<=900 /\
 ((∃ v,valV kp (pk y)=some v/\Q v H)\/(valV kp (pk y)=none/\∃ f fr',fr=f::fr'/\∀ rows' un' H',rows'.length<=rows.length+1->Wk C H' A root rows' ss fr' un' (putK kp (pk y) (.int f)) ka->Kw A H H'->Q (.int f) H'))
def pK (C:Addr):Sp:=λvs H Q _=>∃ (A:Ad) (pa:Addr) (y:List Nat) (n:Nat) (root u:V) (k:Nat) (i:Int) (rows ss:List V) (fr un:List Int) (kp ka:List (List Key×V)),vs=[.ref A.p,.ref pa]/\H pa=some (.tup (pth y))/\Wk C H A root rows ss fr un kp ka/\AtP H root y u /\
 (∃ a x m q vs,u=.ref a/\H a=some (.tup [.str "recipe",.str x,.ref m,.ref q])/\H q=some (.tup vs)/\vs.length=k)/\ka.length<=900/\ss.length<=900/\valV ka (pk y)=(if n=0 then none else some (.int (n:Int)))/\valV kp (pk y)=some (.int i) /\
 (∀ H',n+1≠k->Wk C H' A root rows ss fr un kp (putK ka (pk y) (.int ((n+1:Nat):Int)))->Kw A H H'->Q .non H') /\
 (∀ z m H',n+1=k->H z=none->H' z=some (.tup [.ref pa,.int m,.int i])->Wk C H' A root rows (ss++[.ref z]) fr un kp (putK ka (pk y) (.int ((n+1:Nat):Int)))->Kw A H H'->Q .non H')
section
variable {P:AF}{w:World}{K:Ab}{mg:Str->Option Value}{base:Heap}
def iI:FnScope ["tree","path","part","place"] ["tree","path"] (aJ sPartAt):=fnScOk (by decide +kernel)
def wF {f:Addr}{fd:AM}(F:Fun K "part_at" "part_at" sPartAt f fd):FnOk P w K mg base CX0 1 f fd ["tree","path"] iG:=by
 refine F.ok iI (λvs H Q E h=>?_) (λcdv A outer s H vs Q E hr h=>?_)
 ·obtain ⟨_,_,_,_,rfl,_⟩:=h
  rfl
 ·obtain ⟨v,u,pa,ks,rfl,hp,ap,k⟩:=h
  refine ⟨_,(aD (aK (i:=2) iI.nd rfl (Or.inl rfl) (pv 0))
   (aD (bP AQ rfl (gY (pv 1)) (aR (i:=3) iI.nd rfl (Or.inl rfl))
    (aH (aK (i:=2) iI.nd rfl (Or.inl rfl) (bE hJ (pit 2 3) (pv 3) (λ_ _=>rfl)))))
   (aH (aU (pv 2))))),?_⟩
  refine cut3 ?_
  intros
  refine ⟨_,rfl,_,rfl,pa,rfl,⟨_,SqT.of hp⟩,?_⟩;refine gN (λi σ H'=>∃ (c:V) (v3:Option V),σ=[some v,some (.ref pa),some c,v3]/\H'=H/\AtP H c (ks.drop i) u) ⟨v,none,rfl,rfl,ap⟩ (λi σ H' _ ⟨_,_,_,e,_⟩=>e▸SqT.of hp) ?_ ?_
  ·rintro i x σ H1 hx ⟨c,v3,rfl,rfl,ac⟩
   rw [Aj] at hx;cases e:ks[i]? with
   |none=>rw [e] at hx;cases hx
   |some kk=>
    rw [e] at hx;cases hx;obtain ⟨hl,e'⟩:=Ah.mp e;rw [Cq hl,e'] at ac;obtain ⟨p,m,q,y,vs,d,rfl,hp',hq,hd,ad⟩:=ac;exact ⟨p,_,_,rfl,SqT.of hp',rfl,_,rfl,q,vs,(kk:Int),d,rfl,rfl,SqT.of hq,aZ hd,d,_,rfl,rfl,ad⟩
  ·rintro σ H1 ⟨c,v3,rfl,rfl,ac⟩
   rw [Ac,Eg] at ac;have e:c=u:=ac;subst e;exact ⟨_,rfl,k⟩
def aE5:FnScope ["self","path","phial"] ["self","path"] (aJ sOwn):=fnScOk (by decide +kernel)
def aFw {f C:Addr}{fd:AM}(F:Fun K "own_phial" "Work.own_phial" sOwn f fd)(L:Cl K mg C):FnOk P w K mg base CX0 1 f fd ["self","path"] (aCt C):=by
 refine F.ok aE5 (λvs H Q E h=>?_) (λcdv A' outer s H vs Q E hr h=>?_)
 ·obtain ⟨_,_,_,_,_,_,_,_,_,_,rfl,_⟩:=h
  rfl
 ·obtain ⟨A,pa,y,root,rows,ss,fr,un,kp,ka,rfl,hpa,B,rl,kl,alt⟩:=h
  refine ⟨_,(aD (bK (aFl (vY (iE hr) (pv 1) (bU (pv 0) rfl)))
    (aD (aK (i:=2) aE5.nd rfl (Or.inl rfl) (cO Ak CG CF aAy (bU (pv 0) rfl) (aA aG aC)))
    (aD (bK (aM dH (pv 2) (bU (pv 0) rfl) rfl)
     (aD (bB (cO Ak PySem.F.slot_list_remove PySem.F.type_list_remove wX (bU (pv 0) rfl) (aA (pv 2) aC)))
     (aH (bB (cO Ak AB AA aX (bU (pv 0) rfl) (aA (aT (aA bD (aA (pv 2) aC))) aC)))))
     aY)
    (aH (pW (iE hr) (bU (pv 0) rfl) (pv 1) (pv 2) rfl))))
    aY)
   (aH (aU (jC (iE hr) (bU (pv 0) rfl) (pv 1) (λ_ _=>rfl))))),?_⟩
  obtain ⟨dx,h0⟩:=B.ob
  rcases alt with ⟨v,hv,k⟩|⟨hv,f',fr',rfl,k⟩
  ·have g:DGet H A.dp (.ref pa) (some v):=by rw [<- hv];exact DGet.t B.d (pkv hpa)
   exact ⟨_,rfl,_,rfl,A.p,C,dx,_,_,rfl,h0,L.cl,L.nP,iQ,A.dp,_,rfl,g,_,rfl,iteF ⟨_,rfl,A.p,C,dx,_,_,rfl,h0,L.cl,L.nP,iQ,_,rfl,A.dp,v,rfl,g,k⟩⟩
  ·have g:DGet H A.dp (.ref pa) none:=by rw [<- hv];exact DGet.t B.d (pkv hpa)
   refine ⟨_,rfl,_,rfl,A.p,C,dx,_,_,rfl,h0,L.cl,L.nP,iQ,A.dp,_,rfl,g,_,rfl,iteT ?_⟩;refine ⟨_,rfl,A.p,C,dx,_,_,rfl,h0,L.cl,L.nF,aEr,.inl ⟨rfl,_,SqL.of B.f⟩,A.lf,_,0,0,.int f',rfl,rfl,B.f,by decide,by decide,six0,rfl,?_⟩;have B1:Wk C (upd H A.lf (.lst (fr'.map V.int))) A root rows ss fr' un kp ka:=B.fr';have K1:Kw A H (upd H A.lf (.lst (fr'.map V.int))):=Kw.refl.f;show Ends.nx _ _ (upd H A.lf (.lst (fr'.map V.int)));generalize upd H A.lf (.lst (fr'.map V.int))=H1 at B1 K1 ⊢;have hpa1:=B.tk K1 _ _ hpa;dsimp only [dW];refine fU (λσ' H'=>∃ rows' un',σ'=[some (.ref A.p),some (.ref pa),some (.int f')]/\rows'.length<=rows.length+1/\Wk C H' A root rows' ss fr' un' kp ka/\Kw A H H') (λσ' H2 hh=>?_) (λN hN=>?_)
   ·obtain ⟨rows',un',rfl,rl',B2,K2⟩:=hh
    obtain ⟨dx2,h2⟩:=B2.ob;have hpa2:=B.tk K2 _ _ hpa;refine ⟨_,rfl,_,rfl,A.p,C,dx2,_,_,rfl,h2,L.cl,L.nP,iQ,_,rfl,A.dp,_,rfl,DPut.t B2.d (pkv hpa2) (aP (by omega)),?_⟩;have B3:Wk C (upd H2 A.dp (.dT (putK kp (pk y) (.int f')))) A root rows' ss fr' un' (putK kp (pk y) (.int f')) ka:=B2.kp';have K3:Kw A H (upd H2 A.dp (.dT (putK kp (pk y) (.int f')))):=K2.d;generalize upd H2 A.dp (.dT (putK kp (pk y) (.int f')))=H3 at B3 K3 ⊢;obtain ⟨dx3,h3⟩:=B3.ob;have g3:DGet H3 A.dp (.ref pa) (some (.int f')):=by
     have:=DGet.t B3.d (pkv (B.tk K3 _ _ hpa));rwa [eY,if_pos rfl] at this
    exact ⟨_,rfl,A.p,C,dx3,_,_,rfl,h3,L.cl,L.nP,iQ,_,rfl,A.dp,_,rfl,g3,k rows' un' H3 rl' B3 K3⟩
   ·obtain ⟨dx1,h1⟩:=B1.ob
    refine ⟨_,rfl,_,rfl,A.p,C,dx1,_,_,rfl,h1,L.cl,L.nU,aEn,A.lu,_,rfl,.inl (SqL.of B1.u),rfl,oI un,_,rfl,ite2 (λhin=>?_) (λ_=>?_)⟩
    ·refine ⟨_,rfl,A.p,C,dx1,_,_,rfl,h1,L.cl,L.nU,aEn,.inl ⟨rfl,_,SqL.of B1.u⟩,_,rfl,A.lu,un,f',rfl,rfl,B1.u,xP.mp hin,λj hj=>?_⟩
     have B2:Wk C (upd H1 A.lu (.lst ((un.eraseIdx j).map V.int))) A root rows ss fr' (un.eraseIdx j) kp ka:=B1.un';have K2:Kw A H (upd H1 A.lu (.lst ((un.eraseIdx j).map V.int))):=K1.u;generalize upd H1 A.lu (.lst ((un.eraseIdx j).map V.int))=H2 at B2 K2 ⊢;obtain ⟨dx2,h2⟩:=B2.ob;refine ⟨_,rfl,A.p,C,dx2,_,_,rfl,h2,L.cl,L.nR,uN,.inl ⟨rfl,_,SqL.of B2.r⟩,_,rfl,zLn2,λz nz=>?_⟩;have sz:=Same.upd (o:=.tup [.str "rinse",.int f']) nz;have B3:=B2.keep sz;refine ⟨A.lr,_,_,rfl,rfl,B3.r,aP (by omega),hN _ _ ⟨_,_,rfl,by rw [Aq];exact Ao _,B3.rows',(K2.trans (Kw.of sz)).r⟩⟩
    ·exact hN _ _ ⟨rows,un,rfl,by omega,B1,K1⟩
def aC0:FnScope ["self","path"] ["self","path"] (aJ rG):=fnScOk (by decide +kernel)
def aAl {f C:Addr}{fd:AM}(F:Fun K "note_arrival" "Work.note_arrival" rG f fd)(T:Txt mg)(L:Cl K mg C)(cP:Cal P w K mg base CX0 1 "part_at" ["tree","path"] iG):FnOk P w K mg base CX0 2 f fd ["self","path"] (pK C):=by
 refine F.ok aC0 (λvs H Q E h=>?_) (λcdv A' outer s H vs Q E hr h=>?_)
 ·obtain ⟨_,_,_,_,_,_,_,_,_,_,_,_,_,_,rfl,_⟩:=h
  rfl
 ·obtain ⟨A,pa,y,n,root,u,kk,i,rows,ss,fr,un,kp,ka,rfl,hpa,B,ap,⟨a,x,m,q,vs,rfl,ha,hq,lv⟩,kal,ssl,hn,hi,k1,k2⟩:=h
  refine ⟨_,(aD (pW (iE hr) (bU (pv 0) rfl) (pv 1) (aN bF (zW (iE hr) (bU (pv 0) rfl) (pv 1) aG ⟨rfl,rfl,rfl,rfl⟩) aG) rfl)
   (aH (bK (aM cV (jC (iE hr) (bU (pv 0) rfl) (pv 1) (λ_ _=>rfl)) (aQ bA rfl T.len BA (aA (bE hJ (aL cP hr rfl aS (aA (bU (pv 0) rfl) (aA (pv 1) aC))) aG (λ_ _=>rfl)) aC)) (aV _))
    (aH (bB (cO Ak AB AA aX (bU (pv 0) rfl) (aA (aT (aA (pv 1) (aA (aN vZ (aQ bA rfl T.len BA (aA (bU (pv 0) rfl) aC)) aG) (aA (jC (iE hr) (bU (pv 0) rfl) (pv 1) (λ_ _=>rfl)) aC)))) aC))))
    aY))),?_⟩
  obtain ⟨dx,h0⟩:=B.ob;have g1:DGet H A.da (.ref pa) (if n=0 then none else some (.int (n:Int))):=by rw [<- hn];exact DGet.t B.a (pkv hpa)
  have e1:(if n=0 then none else some (V.int (n:Int))).getD (.int 0)=.int (n:Int):=by
   split
   ·rename_i z
    rw [z];rfl
   ·rfl
  refine ⟨_,rfl,A.p,C,dx,_,_,rfl,h0,L.cl,L.nA,aCi,A.da,rfl,.inr ⟨_,.inl B.a⟩,_,rfl,_,g1,?_⟩;rw [e1];have en:((n:Int)+1)=((n+1:Nat):Int):=by omega
  refine ⟨_,_,rfl,rfl,_,rfl,A.p,C,dx,_,_,rfl,h0,L.cl,L.nA,aCi,_,rfl,A.da,_,rfl,DPut.t B.a (pkv hpa) (aP (by omega)),?_⟩;show Ends.nx _ _ (upd H A.da (.dT (putK ka (pk y) (.int ((n+1:Nat):Int)))));have B1:Wk C (upd H A.da (.dT (putK ka (pk y) (.int ((n+1:Nat):Int))))) A root rows ss fr un kp (putK ka (pk y) (.int ((n+1:Nat):Int))):=B.ka';have K1:Kw A H (upd H A.da (.dT (putK ka (pk y) (.int ((n+1:Nat):Int))))):=Kw.refl.a;have fz:∀ z,upd H A.da (.dT (putK ka (pk y) (.int ((n+1:Nat):Int)))) z=none->H z=none:=λz hz=>by
   by_cases e:z=A.da
   ·rw [e,aB] at hz;cases hz
   ·rwa [aE e] at hz
  generalize upd H A.da (.dT (putK ka (pk y) (.int ((n+1:Nat):Int))))=H1 at B1 K1 fz ⊢;have tk1:=B.tk K1;obtain ⟨dx1,h1⟩:=B1.ob;have hpa1:=tk1 _ _ hpa;have g2:DGet H1 A.da (.ref pa) (some (.int ((n+1:Nat):Int))):=by
   have:=DGet.t B1.a (pkv hpa1);rwa [eY,if_pos rfl] at this
  refine ⟨_,rfl,A.p,C,dx1,_,_,rfl,h1,L.cl,L.nA,aCi,_,rfl,A.da,_,rfl,g2,?_⟩;refine ⟨_,rfl,A.p,C,dx1,_,_,rfl,h1,L.cl,L.nT,aEo,_,rfl,root,.ref a,pa,y,rfl,hpa1,ap.keep tk1,a,_,_,_,rfl,rfl,SqT.of (tk1 _ _ ha),rfl,q,_,rfl,.inr (SqT.of (tk1 _ _ hq)),rfl,_,rfl,ite2 (λhe=>?_) (λhe=>?_)⟩
  ·have ek:n+1=kk:=by
    have:=of_decide_eq_true he;injection this with this;omega
   refine ⟨_,rfl,A.p,C,dx1,_,_,rfl,h1,L.cl,L.nS,aEp,.inl ⟨rfl,_,SqL.of B1.s⟩,_,rfl,_,rfl,A.p,C,dx1,_,_,rfl,h1,L.cl,L.nR,uN,A.lr,_,rfl,.inl (SqL.of B1.r),_,_,rfl,rfl,_,rfl,A.p,C,dx1,_,_,rfl,h1,L.cl,L.nP,iQ,_,rfl,A.dp,_,rfl,(by rw [<- hi];exact DGet.t B1.d (pkv hpa1)),zLn3,λz nz=>?_⟩;have sz:=Same.upd (o:=.tup [.ref pa,.int ((rows.length:Int)-1),.int i]) nz;have B2:=B1.keep sz;have zs:z≠A.ls:=λe=>by rw [e,B1.s] at nz;cases nz
   exact ⟨A.ls,_,_,rfl,rfl,B2.s,aP (by omega),k2 z _ _ ek (fz z nz) (by rw [aE zs];exact aB) B2.ss' (K1.trans (Kw.of sz)).s⟩
  ·refine k1 _ (λek=>he (decide_eq_true ?_)) B1 K1
   rw [lv,ek]
end
abbrev kk (l:List (List Key×V)):List (List Key):=l.map (·.1)
def gL {l:List (List Key×V)}{k:List Key}:(valV l k).isSome=true↔k∈kk l:=by
 constructor
 ·intro h
  obtain ⟨v,hv⟩:=BY.mp h;obtain ⟨kv,m,e⟩:=qX hv;exact AY.mpr ⟨kv,m,e⟩
 ·intro h
  obtain ⟨kv,m,e⟩:=AY.mp h;exact e▸rV m
def aB5 {l:List (List Key×V)}{k:List Key}:(l.any λkv=>decide (kv.1=k))=true↔k∈kk l:=by rw [eZ];exact gL
theorem aB4 {l:List (List Key×V)}{k:List Key}{v:V}(h:k∈kk l):kk (putK l k v)=kk l:=by
 unfold putK;rw [if_pos (aB5.mpr h)];show List.map _ (List.map _ l)=_;rw [Bw]
 apply Dk
 intro kv _;show (if kv.1=k then (kv.1,v) else kv).1=kv.1;split<;>rfl
theorem kQ {l:List (List Key×V)}{k:List Key}{v:V}(h:k∉kk l):kk (putK l k v)=kk l++[k]:=by
 unfold putK;rw [if_neg (λz=>h (aB5.mp z))];show List.map _ (l++[(k,v)])=_;rw [Ax];rfl
theorem jO {l:List (List Key×V)}{k:List Key}:kk (bS l k)=(kk l).filter λx=>decide (x≠k):=by
 unfold bS;rw [List.filter_map];rfl
def vM {l:List (List Key×V)}{k:List Key}{v:V}{kv:List Key×V}(h:kv∈putK l k v):kv.2=v\/kv∈l:=by
 unfold putK at h;split at h
 ·obtain ⟨x,hx,rfl⟩:=AY.mp h
  split
  ·exact .inl rfl
  ·exact .inr hx
 ·rcases Av.mp h with h|h
  ·exact .inr h
  ·exact .inl (by rw [Al.mp h])
def lA {l:List (List Key×V)}{k:List Key}{v:V}(h:valV l k=some v):(k,v)∈l:=by
 unfold valV at h;cases e:l.find? λkv=>decide (kv.1=k) with
 |none=>rw [e] at h;cases h
 |some kv=>
  rw [e] at h;have e1:kv.1=k:=by simpa using List.find?_some e
  have e2:kv.2=v:=by simpa using h
  rw [<- e1,<- e2];exact Fk e
def Sts (H:Hp)(ch:List Nat->Nat)(g:List (List Nat))(as:List Addr):Prop:=∃ qs:List (List Nat),qs.length=as.length/\qs.Nodup/\(∀ q∈qs,Vp ch q/\ch q≠0/\cnt g q=ch q)/\∀ (k:Nat) a q,as[k]?=some a->qs[k]?=some q->∃ b n m,H a=some (.tup [.ref b,.int n,.int m])/\H b=some (.tup (pth q))
theorem Sts.keep {H H':Hp}{ch:List Nat->Nat}{g:List (List Nat)}{as:List Addr}(h:Sts H ch g as)(t:Tk H H'):Sts H' ch g as:=by
 obtain ⟨qs,l,n,h1,h2⟩:=h;exact ⟨qs,l,n,h1,λk a q e1 e2=>by obtain ⟨b,n,m,x,y⟩:=h2 k a q e1 e2;exact ⟨b,n,m,t _ _ x,t _ _ y⟩⟩
def kY {ch:List Nat->Nat}{g:List (List Nat)}{q:List Nat}(l:Lg ch g):cnt g q<=ch q:=by
 have nd1:(g.filter λp=>decide (p≠[]/\p.dropLast=q)).Nodup:=l.nodup.sublist Ei;have:=kP nd1 (b:=(Ay (ch q)).map λk=>q++[k]) λx hx=>by
  obtain ⟨m,h⟩:=Ba.mp hx;rw [decide_eq_true_eq] at h;obtain ⟨y,k,rfl⟩:∃ y k,x=y++[k]:=⟨x.dropLast,x.getLast h.1,(EY h.1).symm⟩;have e:y=q:=by simpa using h.2
  subst e;exact AY.mpr ⟨k,Bv.mpr (Vp.app.mp (l.mem m).1).2,rfl⟩
 simpa [TR.cnt] using this
def Sts.step {H:Hp}{ch:List Nat->Nat}{g:List (List Nat)}{y:List Nat}{j:Nat}{as:List Addr}(h:Sts H ch g as)(l:Lg ch (g++[y++[j]])):Sts H ch (g++[y++[j]]) as:=by
 obtain ⟨qs,ql,n,h1,h2⟩:=h;refine ⟨qs,ql,n,λq hq=>?_,h2⟩;obtain ⟨a,b,c⟩:=h1 q hq;have:=kY (q:=q) l;rw [iP] at this ⊢;exact ⟨a,b,by omega⟩
def Sts.more {H:Hp}{ch:List Nat->Nat}{g:List (List Nat)}{y:List Nat}{j:Nat}{as:List Addr}{z b:Addr}{n m:Int}(h:Sts H ch g as)(l:Lg ch (g++[y++[j]]))(vy:Vp ch y)(c0:ch y≠0)(e:cnt g y+1=ch y)(hz:H z=some (.tup [.ref b,.int n,.int m]))(hb:H b=some (.tup (pth y))):Sts H ch (g++[y++[j]]) (as++[z]):=by
 obtain ⟨qs,ql,nd,h1,h2⟩:=h;have ny:y∉qs:=λhy=>by
  have:=(h1 y hy).2.2;omega
 refine ⟨qs++[y],by simp [ql],?_,λq hq=>?_,λk a q ea eq=>?_⟩
 ·rw [DR]
  refine ⟨nd,by simp,λa ha b hb eab=>?_⟩;rw [eab,Al.mp hb] at ha;exact ny ha
 ·rcases Av.mp hq with hq|hq
  ·obtain ⟨a,b,c⟩:=h1 q hq
   have:=kY (q:=q) l;rw [iP] at this ⊢;exact ⟨a,b,by omega⟩
  ·rw [Al.mp hq]
   refine ⟨vy,c0,?_⟩;rw [iP,if_pos rfl];exact e
 ·by_cases hk:k<as.length
  ·rw [CS hk] at ea
   rw [CS (by omega)] at eq;exact h2 k a q ea eq
  ·rw [DU (by omega)] at ea
   rw [DU (by omega),ql] at eq;have ek:k-as.length=0:=by
    have:=(Ah.mp ea).1;simp at this;omega
   rw [ek] at ea eq;cases ea;cases eq;exact ⟨b,n,m,hz,hb⟩
def Ws (C:Addr)(H:Hp)(A:Ad)(root:V)(ch:List Nat->Nat)(rdy:List Int)(g:List (List Nat)):Prop:=∃ (rows:List V) (as:List Addr) (fr un:List Int) (kp ka:List (List Key×V)),Wk C H A root rows (as.map V.ref) fr un kp ka/\rows.length<=2*g.length/\kk kp=kk (hv ch g)/\(∀ kv∈kp,∃ i,kv.2=.int i/\i∈rdy)/\fr.length+kp.length=rdy.length/\(∀ i∈fr,i∈rdy)/\ka.length<=g.length /\
 (∀ q,valV ka (pk q)=if cnt g q=0 then none else some (.int ((cnt g q:Nat):Int)))/\Sts H ch g as/\as.length<=g.length
def pG (C:Addr):Sp:=λvs H Q _=>∃ (A:Ad) (w:Str) (pa:Addr) (y:List Nat) (j:Nat) (root:V) (ch:List Nat->Nat) (nd:List Nat->Int) (rdy:List Int) (g:List (List Nat)),vs=[.ref A.p,.str w,.ref pa]/\H pa=some (.tup (pth (y++[j])))/\Ws C H A root ch rdy g/\Hf H 62 root ch nd/\Wh ch nd/\Lg ch (g++[y++[j]])/\WOk ch g w (y++[j]) /\
 (hv ch (g++[y++[j]])).length<=rdy.length/\g.length<=100/\rdy.length<=100/\∀ H',Ws C H' A root ch rdy (g++[y++[j]])->Kw A H H'->Q .non H'
def aF9 {H:Hp}{n:Nat}{c:V}{ch:List Nat->Nat}{nd:List Nat->Int}{p:List Nat}(h:Hf H n c (shf p ch) (shf p nd))(c0:ch p≠0):∃ a x m q vs,c=.ref a/\H a=some (.tup [.str "recipe",.str x,.ref m,.ref q])/\H q=some (.tup vs)/\vs.length=ch p:=by
 cases n with
 |zero=>exact h.elim
 |succ n=>
  rcases h.2 with ⟨a,m,x,e,ha,z,_⟩|⟨a,m,q,x,vs,e,ha,hq,l1,l2,cl,_⟩
  ·have z:ch (p++[])=0:=z
   rw [AL] at z;exact absurd z c0
  ·have cl:ch (p++[])=vs.length:=cl
   rw [AL] at cl;exact ⟨a,x,m,q,vs,e,ha,hq,cl.symm⟩
section
variable {P:AF}{w:World}{K:Ab}{mg:Str->Option Value}{base:Heap}
def lP:FnScope ["self","word","path","above","part","phial"] ["self","word","path"] (aJ rF):=fnScOk (by decide +kernel)
def aAh {f C aO:Addr}{fd:AM}(F:Fun K "take_step" "Work.take_step" rF f fd)(L:Cl K mg C)(mO:mg "ONE" = some (.ref aO))(cP:Cal P w K mg base CX0 2 "part_at" ["tree","path"] iG)(mW:MCal P w K mg base CX0 2 C "own_phial" ["self","path"] (aCt C))(mN:MCal P w K mg base CX0 2 C "note_arrival" ["self","path"] (pK C)):FnOk P w K mg base CX0 3 f fd ["self","word","path"] (pG C):=by
 refine F.ok lP (λvs H Q E h=>?_) (λcdv A' outer s H vs Q E hr h=>?_)
 ·obtain ⟨_,_,_,_,_,_,_,_,_,_,rfl,_⟩:=h
  rfl
 ·obtain ⟨A,wo,pa,y,j,root,ch,nd,rdy,g,rfl,hpa,⟨rows,as,fr,un,kp,ka,B,rl,ek,vals,fl,frin,kal,kav,st,asl⟩,hf,wh,lg,wok,hvl,gl,rdl0,k⟩:=h
  refine ⟨_,(aD (aK (i:=3) lP.nd rfl (Or.inl rfl) (zU aCv (pv 2) aDc (aDb (fY dO aG))))
   (aD (bK (aM cV (pv 1) bD (aV _))
    (aD (aK (i:=4) lP.nd rfl (Or.inl rfl) (aL cP hr rfl aS (aA (bU (pv 0) rfl) (aA (pv 2) aC))))
    (aH (bB (cO Ak AB AA aX (bU (pv 0) rfl) (aA (aT (aA bD (aA (aDg L.cl mW hr aS (pv 0) (aA (pv 3) aC)) (aA (pit 4 1) (aA (pit 4 2) aC))))) aC)))))
    (aH (bK (aM cV (pv 1) bD (aV _))
     (aH (pW (iE hr) (bU (pv 0) rfl) (pv 3) (rN (iE hr) (bU (pv 0) rfl) (pv 2) ⟨rfl,rfl,rfl,rfl⟩) rfl))
     (aD (aK (i:=5) lP.nd rfl (Or.inl rfl) (rN (iE hr) (bU (pv 0) rfl) (pv 2) ⟨rfl,rfl,rfl,rfl⟩))
     (aD (bB (cO Ak AB AA aX (bU (pv 0) rfl) (aA (aT (aA bD (aA (pv 5) (aA (jC (iE hr) (bU (pv 0) rfl) (pv 3) (λ_ _=>rfl)) (aA (eU (v:=.ref aO) rfl mO rfl) aC))))) aC)))
     (aH (bB (cO Ak PySem.F.slot_list_insert PySem.F.type_list_insert tQ (bU (pv 0) rfl) (aA aG (aA (pv 5) aC))))))))))
   (aH (bB (aDg L.cl mN hr aS (pv 0) (aA (pv 3) aC)))))),?_⟩
  refine cut3 ?_
  intros
  obtain ⟨vq,nq,no,kd⟩:=lg g (y++[j]) [] rfl;have lgg:=lg.init;have vy:=(Vp.app.mp vq).1;have yj:=(Vp.app.mp vq).2;have c0:ch y≠0:=by omega
  have ynot:y∉g:=λm=>no ((lgg.mem m).2.2 j yj);have pkne:pk y≠pk (y++[j]):=λz=>by
   have:=congrArg DB (kM z);simp at this
  have hvk:kk (hv ch (g++[y++[j]]))=kk (putK (if ch (y++[j])=0 then hv ch g else bS (hv ch g) (pk (y++[j]))) (pk y) (.bl true)):=by
   rw [qJ];unfold hvS;rw [CA]
  have klen:∀ {a b:List (List Key×V)},kk a=kk b->a.length=b.length:=λ{a b} e=>by
   have:=congrArg DB e
   simpa using this
  have kpl:kp.length<=100:=by
   rw [klen ek];have:=aF8 (ch:=ch) (g:=g);omega
  have iny:pk y∈kk (hv ch g)↔∃ k,y++[k]∈g:=by
   rw [kT lgg];exact ⟨λh=>h.1,λh=>⟨h,ynot⟩⟩
  obtain ⟨dx,h0⟩:=B.ob;refine ⟨_,rfl,_,rfl,_,rfl,pa,_,rfl,hpa,λpb H1 s1 hpb=>?_⟩;rw [aBf,CA] at hpb;have B1:=B.keep s1;have hpa1:=s1 _ _ hpa;obtain ⟨dx1,h1⟩:=B1.ob;obtain ⟨m,u,_,ap,hu⟩:=(hf.keep s1.tk).at vq;dsimp only [dW];refine fU (λσ' H'=>∃ (v4 v5:Option V) (rows':List V) (fr' un':List Int) (kp':List (List Key×V)) (i:Int),σ'=[some (.ref A.p),some (.str wo),some (.ref pa),some (.ref pb),v4,v5]/\Wk C H' A root rows' (as.map V.ref) fr' un' kp' ka/\Kw A H1 H'/\rows'.length<=rows.length+2/\kk kp'=kk (hv ch (g++[y++[j]])) /\
   (∀ kv∈kp',∃ i,kv.2=.int i/\i∈rdy)/\fr'.length+kp'.length=rdy.length/\(∀ i∈fr',i∈rdy)/\valV kp' (pk y)=some (.int i)) (λσ' H2 hh=>?_) (λN hN=>?_)
  ·obtain ⟨v4,v5,rows',fr',un',kp',i,rfl,B2,K2,rl',ek',vals',fl',frin',hi⟩:=hh
   obtain ⟨dx2,h2⟩:=B2.ob;have tk2:=B1.tk K2;have tkA:=s1.tk.trans tk2;obtain ⟨m2,u2,_,ap2,hu2⟩:=(hf.keep tkA).at vy;obtain ⟨a,x,mm,q,vs,rfl,ha,hq,lv⟩:=aF9 hu2 c0;have st2:=st.keep tkA;have kavn:∀ q',valV (putK ka (pk y) (.int ((cnt g y+1:Nat):Int))) (pk q')=if cnt (g++[y++[j]]) q'=0 then none else some (.int ((cnt (g++[y++[j]]) q':Nat):Int)):=λq'=>by
    rw [eY,iP]
    by_cases e:q'=y
    ·rw [e,if_pos rfl,if_pos rfl,if_neg (by omega)]
    ·rw [if_neg (λz=>e (kM z)),if_neg e,kav q']
     rfl
   have kal':(putK ka (pk y) (.int ((cnt g y+1:Nat):Int))).length<=(g++[y++[j]]).length:=by
    have:=eK ka (pk y) (.int ((cnt g y+1:Nat):Int));rw [Aq];show _<=g.length+1;omega
   have gl1:(g++[y++[j]]).length=g.length+1:=by simp
   refine ⟨_,rfl,A.p,dx2,_,rfl,h2,(by kernel_rfl),_,rfl,A,pb,y,cnt g y,root,.ref a,ch y,i,rows',as.map V.ref,fr',un',kp',ka,rfl,tk2 _ _ hpb,B2,ap2,⟨a,x,mm,q,vs,rfl,ha,hq,lv⟩,by omega,by rw [Ac];omega,kav y,hi,λH3 ne B3 K3=>?_,λz n3 H3 eq nz hz B3 K3=>?_⟩
   ·exact k H3 ⟨rows',as,fr',un',kp',_,B3,by rw [gl1];omega,ek',vals',fl',frin',kal',kavn,(st2.keep (B2.tk K3)).step lg,by rw [gl1];omega⟩ (((Kw.of s1).trans K2).trans K3)
   ·have e1:as.map V.ref++[V.ref z]=(as++[z]).map V.ref:=by rw [Ax];rfl
    rw [e1] at B3;exact k H3 ⟨rows',as++[z],fr',un',kp',_,B3,by rw [gl1];omega,ek',vals',fl',frin',kal',kavn,(st2.keep (B2.tk K3)).more lg vy c0 eq hz (B2.tk K3 _ _ (tk2 _ _ hpb)),by rw [gl1,Aq];show as.length+1<=_;omega⟩ (((Kw.of s1).trans K2).trans K3)
  by_cases cq:ch (y++[j])=0
  ·-- a ware is put in
   have ew:=wok.1 cq;subst ew;obtain ⟨a,mm,x,yk,r,rfl,ha,_⟩:=qK hu;refine ⟨_,rfl,rfl,_,rfl,iteT ?_⟩;refine ⟨_,rfl,A.p,C,dx1,_,_,rfl,h1,L.cl,L.nT,aEo,_,rfl,root,.ref a,pa,y++[j],rfl,hpa1,ap,?_⟩;refine ⟨_,rfl,A.p,C,dx1,_,_,rfl,h1,L.cl,L.nR,uN,.inl ⟨rfl,_,SqL.of B1.r⟩,_,rfl,A.p,dx1,_,rfl,h1,(by kernel_rfl),_,rfl,A,pb,y,root,rows,as.map V.ref,fr,un,kp,ka,rfl,hpb,B1,by omega,by omega,?_⟩;rw [if_pos cq] at hvk
   by_cases inn:pk y∈kk kp
   ·obtain ⟨v,hv'⟩:=BY.mp (gL.mpr inn)
    obtain ⟨i,ei,hi⟩:=vals _ (lA hv');have ei:v=.int i:=ei;subst ei;refine .inl ⟨_,hv',?_⟩;refine ⟨a,_,_,rfl,SqT.of ha,rfl,a,_,_,rfl,SqT.of ha,rfl,zLn4,λz nz=>?_⟩;have sz:=Same.upd (o:=.tup [.str "draw",.int i,.str x,.ref mm]) nz;have B2:=B1.keep sz;refine ⟨A.lr,_,_,rfl,rfl,B2.r,aP (by omega),hN _ _ ⟨_,_,_,fr,un,kp,i,rfl,B2.rows',(Kw.of sz).r,by rw [Aq];show rows.length+1<=_;omega,?_,vals,fl,frin,hv'⟩⟩;rw [hvk,aB4 (ek▸inn),ek]
   ·have hn:valV kp (pk y)=none:=by
     cases e:valV kp (pk y) with
     |none=>rfl
     |some v=>exact absurd (gL.mp (by rw [e];rfl)) inn
    have l1:(hv ch (g++[y++[j]])).length=kp.length+1:=by
     have:=congrArg DB hvk;rw [kQ (ek▸inn)] at this;rw [klen ek]
     simpa using this
    obtain ⟨f1,fr1,rfl⟩:∃ f1 fr1,fr=f1::fr1:=by
     cases fr with
     |nil=>rw [Ep] at fl;omega
     |cons a b=>exact ⟨a,b,rfl⟩
    refine .inr ⟨hn,f1,fr1,rfl,λrows2 un2 H2 rl2 B2 K2=>?_⟩;have tk2:=B1.tk K2;refine ⟨a,_,_,rfl,SqT.of (tk2 _ _ ha),rfl,a,_,_,rfl,SqT.of (tk2 _ _ ha),rfl,zLn4,λz nz=>?_⟩;have sz:=Same.upd (o:=.tup [.str "draw",.int f1,.str x,.ref mm]) nz;have B3:=B2.keep sz;have ekn:kk (putK kp (pk y) (.int f1))=kk (hv ch (g++[y++[j]])):=by rw [hvk,kQ inn,kQ (ek▸inn),ek]
    refine ⟨A.lr,_,_,rfl,rfl,B3.r,aP (by omega),hN _ _ ⟨_,_,_,fr1,un2,_,f1,rfl,B3.rows',(K2.trans (Kw.of sz)).r,by rw [Aq];show rows2.length+1<=_;omega,ekn,λkv hk=>?_,?_,λi hi=>frin i (Au _ hi),by rw [eY,if_pos rfl]⟩⟩
    ·rcases vM hk with e|e
     ·exact ⟨f1,e,frin f1 (Az ..)⟩
     ·exact vals kv e
    ·rw [klen ekn,l1]
     rw [AI] at fl;omega
  ·have w2:=wok.2 cq
   rw [CA] at w2;rw [if_neg cq] at hvk;have nput:wo ≠ "put":=by
    by_cases z:∃ k,y++[k]∈g
    ·rw [w2.1 z];decide
    ·rw [w2.2 z];decide
   have bp:decide (V.str wo=V.str "put")=false:=decide_eq_false λe=>nput (by injection e);have inq:pk (y++[j])∈kk kp:=by
    rw [ek,kT lgg];exact ⟨⟨0,kd 0 (by omega)⟩,no⟩
   obtain ⟨v,hv'⟩:=BY.mp (gL.mpr inq);obtain ⟨i,ei,hi⟩:=vals _ (lA hv');have ei:v=.int i:=ei;subst ei;have ekd:kk (bS kp (pk (y++[j])))=kk (bS (hv ch g) (pk (y++[j]))):=by rw [jO,jO,ek]
   have dlen:(bS kp (pk (y++[j]))).length+1=kp.length:=by
    have nd1:(kk kp).Nodup:=by rw [ek];exact aF7 g
    have:∀ {l:List (List Key)} {k:List Key},l.Nodup->k∈l->(l.filter λx=>decide (x≠k)).length+1=l.length:=λ{l k}=>by
     induction l with
     |nil=>intro _ h;cases h
     |cons a l ih=>
      intro nd h;rw [CC] at nd
      by_cases e:a=k
      ·subst e
       rw [Bp,if_neg (by simp)];have:(l.filter λx=>decide (x≠a))=l:=List.filter_eq_self.mpr λx hx=>by
        simp;intro z;exact nd.1 (z▸hx)
       rw [this];rfl
      ·rw [Bp,if_pos (by simpa using e),AI,AI]
       have:=ih nd.2 ((Aw.mp h).resolve_left λz=>e z.symm);omega
    have:=this nd1 inq;rw [<- jO] at this
    simpa using this
   refine ⟨_,rfl,rfl,_,rfl,?_⟩;rw [bp];refine iteF ?_
   by_cases z:∃ k,y++[k]∈g
   ·-- what was made is poured in
    have ew:=w2.1 z;subst ew;refine ⟨_,rfl,rfl,_,rfl,iteF ?_⟩;refine ⟨_,rfl,A.p,C,dx1,_,_,rfl,h1,L.cl,L.nP,iQ,A.dp,rfl,.inr ⟨_,.inl B1.d⟩,_,rfl,_,pk (y++[j]),pa,.int i,B1.d,rfl,pkv hpa1,hv',?_⟩;have B2:Wk C (upd H1 A.dp (.dT (bS kp (pk (y++[j]))))) A root rows (as.map V.ref) fr un (bS kp (pk (y++[j]))) ka:=B1.kp';have K2:Kw A H1 (upd H1 A.dp (.dT (bS kp (pk (y++[j]))))):=Kw.refl.d;generalize upd H1 A.dp (.dT (bS kp (pk (y++[j]))))=H2 at B2 K2 ⊢;obtain ⟨dx2,h2⟩:=B2.ob;have tk2:=B1.tk K2;have iny':pk y∈kk (bS kp (pk (y++[j]))):=by
     rw [jO];exact Ba.mpr ⟨by rw [ek];exact iny.mpr z,by simpa using pkne⟩
    obtain ⟨v2,hv2⟩:=BY.mp (gL.mpr iny');have vals2:∀ kv∈bS kp (pk (y++[j])),∃ i,kv.2=.int i/\i∈rdy:=λkv hk=>vals kv (Ba.mp hk).1;obtain ⟨i2,ei2,hi2⟩:=vals2 _ (lA hv2);have ei2:v2=.int i2:=ei2;subst ei2;refine ⟨_,rfl,A.p,C,dx2,_,_,rfl,h2,L.cl,L.nR,uN,.inl ⟨rfl,_,SqL.of B2.r⟩,_,rfl,_,rfl,A.p,C,dx2,_,_,rfl,h2,L.cl,L.nP,iQ,_,rfl,A.dp,_,rfl,(by rw [<- hv2];exact DGet.t B2.d (pkv (tk2 _ _ hpb))),zLn4,λt nt=>?_⟩;have sz:=Same.upd (o:=.tup [.str "pour",.int i,.int i2,.ref aO]) nt;have B3:=B2.keep sz;refine ⟨A.lr,_,_,rfl,rfl,B3.r,aP (by omega),?_⟩;have B4:Wk C (upd (upd H2 t (.tup [.str "pour",.int i,.int i2,.ref aO])) A.lr (.lst (rows++[.ref t]))) A root (rows++[.ref t]) (as.map V.ref) fr un (bS kp (pk (y++[j]))) ka:=B3.rows';have K4:Kw A H1 (upd (upd H2 t (.tup [.str "pour",.int i,.int i2,.ref aO])) A.lr (.lst (rows++[.ref t]))):=(K2.trans (Kw.of sz)).r;generalize upd (upd H2 t (.tup [.str "pour",.int i,.int i2,.ref aO])) A.lr (.lst (rows++[.ref t]))=H4 at B4 K4 ⊢;obtain ⟨dx4,h4⟩:=B4.ob;refine ⟨_,rfl,A.p,C,dx4,_,_,rfl,h4,L.cl,L.nF,aEr,.inl ⟨rfl,_,SqL.of B4.f⟩,_,rfl,A.lf,_,_,rfl,rfl,B4.f,aP (by rw [Ac];omega),?_⟩;have B5:Wk C (upd H4 A.lf (.lst ((i::fr).map V.int))) A root (rows++[.ref t]) (as.map V.ref) (i::fr) un (bS kp (pk (y++[j]))) ka:=B4.fr';refine hN _ _ ⟨_,_,_,i::fr,un,_,i2,rfl,B5,K4.f,by rw [Aq];show rows.length+1<=_;omega,?_,vals2,by rw [AI];omega,λi' hi'=>?_,hv2⟩
    ·rw [hvk,aB4 (ekd▸iny'),ekd]
    ·rcases Aw.mp hi' with e|e
     ·exact e▸hi
     ·exact frin i' e
   ·-- what was made is kept
    have ew:=w2.2 z;subst ew;refine ⟨_,rfl,rfl,_,rfl,iteT ?_⟩;refine ⟨_,rfl,A.p,C,dx1,_,_,rfl,h1,L.cl,L.nP,iQ,A.dp,rfl,.inr ⟨_,.inl B1.d⟩,_,rfl,_,pk (y++[j]),pa,.int i,B1.d,rfl,pkv hpa1,hv',?_⟩;have B2:Wk C (upd H1 A.dp (.dT (bS kp (pk (y++[j]))))) A root rows (as.map V.ref) fr un (bS kp (pk (y++[j]))) ka:=B1.kp';have K2:Kw A H1 (upd H1 A.dp (.dT (bS kp (pk (y++[j]))))):=Kw.refl.d;generalize upd H1 A.dp (.dT (bS kp (pk (y++[j]))))=H2 at B2 K2 ⊢;obtain ⟨dx2,h2⟩:=B2.ob;have tk2:=B1.tk K2;have niny:pk y∉kk (bS kp (pk (y++[j]))):=λh=>by
     rw [jO] at h;have:=(Ba.mp h).1;rw [ek] at this;exact z (iny.mp this)
    have ekn:kk (putK (bS kp (pk (y++[j]))) (pk y) (.int i))=kk (hv ch (g++[y++[j]])):=by rw [hvk,kQ niny,kQ (ekd▸niny),ekd]
    have l1:(putK (bS kp (pk (y++[j]))) (pk y) (.int i)).length=kp.length:=by
     have e:(kk (putK (bS kp (pk (y++[j]))) (pk y) (.int i))).length=_:=congrArg DB (kQ (v:=.int i) niny);rw [Aq,Ac,Ac] at e;have e2:(putK (bS kp (pk (y++[j]))) (pk y) (.int i)).length=(bS kp (pk (y++[j]))).length+1:=e;omega
    refine ⟨_,rfl,A.p,C,dx2,_,_,rfl,h2,L.cl,L.nP,iQ,_,rfl,A.dp,_,rfl,DPut.t B2.d (pkv (tk2 _ _ hpb)) (aP (by omega)),?_⟩;refine hN _ _ ⟨_,_,rows,fr,un,_,i,rfl,B2.kp',K2.d,by omega,ekn,λkv hk=>?_,by omega,frin,by rw [eY,if_pos rfl]⟩
    rcases vM hk with e|e
    ·exact ⟨i,e,hi⟩
    ·exact vals kv (Ba.mp e).1
end
section
variable {P:AF}{w:World}{K:Ab}{mg:Str->Option Value}{base:Heap}
def dY {H:Hp}{p z:Addr}{o o':HO}{b:Addr}{u:HO}(n:H z=none)(bp:b≠p)(h:H b=some u):upd (upd H z o) p o' b=some u:=by rw [aE bp,aE (aI h n)];exact h
def kW {H:Hp}{p z:Addr}{o o' u:HO}(n:H z=none)(h:H p=some u):upd (upd H z o) p o' z=some o:=by rw [aE (aI h n).symm];exact aB
def aE8:FnScope ["self","tree","ready","unclean"] ["self","tree","ready","unclean"] (aJ zE):=fnScOk (by decide +kernel)
def aDw {f C:Addr}{fd:AM}(F:Fun K "__init__" "Work.__init__" zE f fd)(T:Txt mg)(L:Cl K mg C):FnOk P w K mg base CX0 1 f fd ["self","tree","ready","unclean"] (pN C):=by
 refine F.ok aE8 (λvs H Q E h=>?_) (λcdv A outer s H vs Q E hr h=>?_)
 ·obtain ⟨_,_,_,_,_,_,_,rfl,_⟩:=h
  rfl
 ·obtain ⟨p,dx,rd,ul,root,rs,us,rfl,hp,hrd,hul,k⟩:=h
  refine ⟨_,(aD (iX (pv 0) (pv 1) rfl) (aD (iX (pv 0) (bC aC) rfl) (aD (iX (pv 0) (bC aC) rfl)
   (aD (iX (pv 0) (bY eV rfl T.list' jT (aA (pv 2) aC)) rfl) (aD (iX (pv 0) (bY eV rfl T.list' jT (aA (pv 3) aC)) rfl)
   (aD (iX (pv 0) rO rfl) (aH (iX (pv 0) rO rfl)))))))),?_⟩
  refine cut7 ?_
  intros
  have rdp:rd≠p:=bG hrd hp (by intro z;cases z);have ulp:ul≠p:=bG hul hp (by intro z;cases z);refine ⟨_,rfl,_,rfl,p,C,dx,_,rfl,hp,L.cl,L.nT,(by show 0<1000;decide),?_⟩;generalize e1:putF "tree" root []=s1;have z1:s1.length=1:=by rw [<- e1];rfl
  generalize g1:upd H p (.ins C dx s1)=H1;have p1:H1 p=some (.ins C dx s1):=by rw [<- g1];exact aB
  have o1:∀ b o,H b=some o->b≠p->H1 b=some o:=λb o h n=>by rw [<- g1,aE n];exact h
  refine ⟨zLn0,λlr nlr=>?_⟩;refine ⟨_,rfl,p,C,dx,_,rfl,(by rw [aE (aI p1 nlr)];exact p1),L.cl,L.nR,by omega,?_⟩;generalize e2:putF "rows" (.ref lr) s1=s2;have z2:s2.length=2:=by rw [<- e2,<- e1];rfl
  generalize g2:upd (upd H1 lr (.lst [])) p (.ins C dx s2)=H2;have p2:H2 p=some (.ins C dx s2):=by rw [<- g2];exact aB
  have o2:∀ b o,H b=some o->b≠p->H2 b=some o:=λb o h n=>by rw [<- g2];exact dY nlr n (o1 b o h n)
  have hlr1:H2 lr=some (.lst []):=by rw [<- g2];exact kW nlr p1
  refine ⟨zLn0,λls nls=>?_⟩;refine ⟨_,rfl,p,C,dx,_,rfl,(by rw [aE (aI p2 nls)];exact p2),L.cl,L.nS,by omega,?_⟩;generalize e3:putF "stands" (.ref ls) s2=s3;have z3:s3.length=3:=by rw [<- e3,<- e2,<- e1];rfl
  generalize g3:upd (upd H2 ls (.lst [])) p (.ins C dx s3)=H3;have p3:H3 p=some (.ins C dx s3):=by rw [<- g3];exact aB
  have o3:∀ b o,H b=some o->b≠p->H3 b=some o:=λb o h n=>by rw [<- g3];exact dY nls n (o2 b o h n)
  have hls2:H3 ls=some (.lst []):=by rw [<- g3];exact kW nls p2
  have hlr2:H3 lr=some (.lst []):=by rw [<- g3];exact dY nls (bG hlr1 p2 (by intro z;cases z)) hlr1
  refine ⟨_,rfl,rd,_,rfl,.inl (SqL.of (o3 _ _ hrd rdp)),λlf nlf=>?_⟩;refine ⟨_,rfl,p,C,dx,_,rfl,(by rw [aE (aI p3 nlf)];exact p3),L.cl,L.nF,by omega,?_⟩;generalize e4:putF "free" (.ref lf) s3=s4;have z4:s4.length=4:=by rw [<- e4,<- e3,<- e2,<- e1];rfl
  generalize g4:upd (upd H3 lf (.lst (rs.map V.int))) p (.ins C dx s4)=H4;have p4:H4 p=some (.ins C dx s4):=by rw [<- g4];exact aB
  have o4:∀ b o,H b=some o->b≠p->H4 b=some o:=λb o h n=>by rw [<- g4];exact dY nlf n (o3 b o h n)
  have hlf3:H4 lf=some (.lst (rs.map V.int)):=by rw [<- g4];exact kW nlf p3
  have hlr3:H4 lr=some (.lst []):=by rw [<- g4];exact dY nlf (bG hlr2 p3 (by intro z;cases z)) hlr2
  have hls3:H4 ls=some (.lst []):=by rw [<- g4];exact dY nlf (bG hls2 p3 (by intro z;cases z)) hls2
  refine ⟨_,rfl,ul,_,rfl,.inl (SqL.of (o4 _ _ hul ulp)),λlu nlu=>?_⟩;refine ⟨_,rfl,p,C,dx,_,rfl,(by rw [aE (aI p4 nlu)];exact p4),L.cl,L.nU,by omega,?_⟩;generalize e5:putF "unclean" (.ref lu) s4=s5;have z5:s5.length=5:=by rw [<- e5,<- e4,<- e3,<- e2,<- e1];rfl
  generalize g5:upd (upd H4 lu (.lst (us.map V.int))) p (.ins C dx s5)=H5;have p5:H5 p=some (.ins C dx s5):=by rw [<- g5];exact aB
  have o5:∀ b o,H b=some o->b≠p->H5 b=some o:=λb o h n=>by rw [<- g5];exact dY nlu n (o4 b o h n)
  have hlu4:H5 lu=some (.lst (us.map V.int)):=by rw [<- g5];exact kW nlu p4
  have hlr4:H5 lr=some (.lst []):=by rw [<- g5];exact dY nlu (bG hlr3 p4 (by intro z;cases z)) hlr3
  have hls4:H5 ls=some (.lst []):=by rw [<- g5];exact dY nlu (bG hls3 p4 (by intro z;cases z)) hls3
  have hlf4:H5 lf=some (.lst (rs.map V.int)):=by rw [<- g5];exact dY nlu (bG hlf3 p4 (by intro z;cases z)) hlf3
  refine λdp ndp=>?_;refine ⟨_,rfl,p,C,dx,_,rfl,(by rw [aE (aI p5 ndp)];exact p5),L.cl,L.nP,by omega,?_⟩;generalize e6:putF "phial_of" (.ref dp) s5=s6;have z6:s6.length=6:=by rw [<- e6,<- e5,<- e4,<- e3,<- e2,<- e1];rfl
  generalize g6:upd (upd H5 dp (.dT [])) p (.ins C dx s6)=H6;have p6:H6 p=some (.ins C dx s6):=by rw [<- g6];exact aB
  have o6:∀ b o,H b=some o->b≠p->H6 b=some o:=λb o h n=>by rw [<- g6];exact dY ndp n (o5 b o h n)
  have hdp5:H6 dp=some (.dT []):=by rw [<- g6];exact kW ndp p5
  have hlr5:H6 lr=some (.lst []):=by rw [<- g6];exact dY ndp (bG hlr4 p5 (by intro z;cases z)) hlr4
  have hls5:H6 ls=some (.lst []):=by rw [<- g6];exact dY ndp (bG hls4 p5 (by intro z;cases z)) hls4
  have hlf5:H6 lf=some (.lst (rs.map V.int)):=by rw [<- g6];exact dY ndp (bG hlf4 p5 (by intro z;cases z)) hlf4
  have hlu5:H6 lu=some (.lst (us.map V.int)):=by rw [<- g6];exact dY ndp (bG hlu4 p5 (by intro z;cases z)) hlu4
  refine λda nda=>?_;refine ⟨_,rfl,p,C,dx,_,rfl,(by rw [aE (aI p6 nda)];exact p6),L.cl,L.nA,by omega,?_⟩;generalize e7:putF "arrived" (.ref da) s6=s7;have z7:s7.length=7:=by rw [<- e7,<- e6,<- e5,<- e4,<- e3,<- e2,<- e1];rfl
  generalize g7:upd (upd H6 da (.dT [])) p (.ins C dx s7)=H7;have p7:H7 p=some (.ins C dx s7):=by rw [<- g7];exact aB
  have o7:∀ b o,H b=some o->b≠p->H7 b=some o:=λb o h n=>by rw [<- g7];exact dY nda n (o6 b o h n)
  have hda6:H7 da=some (.dT []):=by rw [<- g7];exact kW nda p6
  have hlr6:H7 lr=some (.lst []):=by rw [<- g7];exact dY nda (bG hlr5 p6 (by intro z;cases z)) hlr5
  have hls6:H7 ls=some (.lst []):=by rw [<- g7];exact dY nda (bG hls5 p6 (by intro z;cases z)) hls5
  have hlf6:H7 lf=some (.lst (rs.map V.int)):=by rw [<- g7];exact dY nda (bG hlf5 p6 (by intro z;cases z)) hlf5
  have hlu6:H7 lu=some (.lst (us.map V.int)):=by rw [<- g7];exact dY nda (bG hlu5 p6 (by intro z;cases z)) hlu5
  have hdp6:H7 dp=some (.dT []):=by rw [<- g7];exact dY nda (bG hdp5 p6 (by intro z;cases z)) hdp5
  refine k ⟨p,lr,ls,lf,lu,dp,da⟩ _ rfl ⟨⟨dx,by rw [p7,<- e7,<- e6,<- e5,<- e4,<- e3,<- e2,<- e1];exact congrArg (λl=>some (HO.ins C dx l)) aEq⟩,hlr6,hls6,hlf6,hlu6,hdp6,hda6,⟨aI hlr1 nls,aI hlr2 nlf,aI hlr3 nlu,aI hls2 nlf,aI hls3 nlu,aI hlf3 nlu,aI hdp5 nda⟩⟩ λb o h n=>⟨o7 b o h n,n,aI (o1 b o h n) nlr,aI (o2 b o h n) nls,aI (o3 b o h n) nlf,aI (o4 b o h n) nlu,aI (o5 b o h n) ndp,aI (o6 b o h n) nda⟩
end
def LvE (H:Hp):List Addr->List Str->Prop:=Paired λe x=>∃ m:V,H e=some (.tup [.str x,m])
theorem LvE.keep {H H':Hp}{es:List Addr}{xs:List Str}(h:LvE H es xs)(t:Tk H H'):LvE H' es xs:=by
 induction h with
 |nil=>exact .nil
 |cons h _ ih=>
  obtain ⟨m,e⟩:=h;exact .cons ⟨m,t _ _ e⟩ ih
theorem LvE.app {H:Hp}{es es':List Addr}{xs xs':List Str}(h:LvE H es xs)(h':LvE H es' xs'):LvE H (es++es') (xs++xs'):=by
 induction h with
 |nil=>exact h'
 |cons h _ ih=>exact .cons h ih
def fT (n:Nat):Sp:=λvs H Q _=>∃ (v:V) (ch:List Nat->Nat) (nm:List Nat->Str),vs=[v]/\Hn H n v ch nm/\(pre ch n []).length<=100/\∀ (es:List Addr) l H',Same H H'->H l=none->H' l=some (.lst (es.map V.ref))->LvE H' es (lvs n ch nm)->Q (.ref l) H'
def zN {ch:List Nat->Nat}{n k:Nat}(h:k<ch []):(pre (λr=>ch (k::r)) n []).length<=(pre ch (n+1) []).length:=by
 show _<=([]::(Ay (ch [])).flatMap λk=>pre ch n [k]).length;rw [AI,iN];have m:(pre ch n [k]).length∈(Ay (ch [])).map λk=>(pre ch n [k]).length:=AY.mpr ⟨k,Bv.mpr h,rfl⟩;have e:(pre (λr=>ch (k::r)) n []).length=(pre ch n [k]).length:=by rw [eT,Ac]
 have le:∀ {l:List Nat} {x:Nat},x∈l->x<=l.sum:=λ{l x}=>by
  induction l with
  |nil=>intro h;cases h
  |cons a l ih=>
   intro h;rw [List.sum_cons]
   rcases Aw.mp h with h|h
   ·omega
   ·have:=ih h
    omega
 have:=le m;omega
def aA0 {n i:Nat}{ch:List Nat->Nat}{nm:List Nat->Str}(h:i<=ch [])(c0:ch []≠0):((Ay i).flatMap λk=>lvs n (λr=>ch (k::r)) (λr=>nm (k::r))).length<=(lvs (n+1) ch nm).length:=by
 have e:lvs (n+1) ch nm=(Ay (ch [])).flatMap λk=>lvs n (λr=>ch (k::r)) (λr=>nm (k::r)):=by
  show (if ch []=0 then _ else _)=_;rw [if_neg c0]
 rw [e];have:=EE i (Ay (ch []));rw [List.take_range,Nat.min_eq_left h] at this;rw [<- this,List.flatMap_append,Aq];omega
theorem LvE.len {H:Hp}{es:List Addr}{xs:List Str}(h:LvE H es xs):es.length=xs.length:=CH h
section
variable {P:AF}{w:World}{K:Ab}{mg:Str->Option Value}{base:Heap}
def wQ {k:Nat}{f:Addr}{fd:AM}:FnOk P w K mg base CX0 k f fd ["one"] (fT 0):=⟨λvs H Q E ⟨_,_,_,_,h,_⟩=>h.elim,λA outer s H args us vs Q E _ _ _ _ ⟨_,_,_,_,h,_⟩=>h.elim⟩
def lR:FnScope ["one","found","part"] ["one"] (aJ sLeaves):=fnScOk (by decide +kernel)
def wJ {k n:Nat}{f:Addr}{fd:AM}(F:Fun K "leaves" "leaves" sLeaves f fd)(cL:Cal P w K mg base CX0 k "leaves" ["one"] (fT n)):FnOk P w K mg base CX0 (k+1) f fd ["one"] (fT (n+1)):=by
 refine F.ok lR (λvs H Q E h=>?_) (λcdv A outer s H vs Q E hr h=>?_)
 ·obtain ⟨_,_,_,rfl,_⟩:=h
  rfl
 ·obtain ⟨v,ch,nm,rfl,hn,n100,k'⟩:=h
  refine ⟨_,(aD (bK (aM cV (pit 0 0) bD (aV _)) (aH (aU (bC (aA (aT (aA (pit 0 1) (aA (pit 0 2) aC))) aC)))) aY)
   (aD (aK (i:=1) lR.nd rfl (Or.inl rfl) (bC aC))
   (aD (bP AQ rfl (gY (pit 0 3)) (aR (i:=2) lR.nd rfl (Or.inl rfl))
    (aH (bB (cO Ak PySem.F.slot_list_extend PySem.F.type_list_extend nQ (pv 1) (aA (aL cL hr rfl aS (aA (pv 2) aC)) aC)))))
   (aH (aU (pv 1)))))),?_⟩
  refine cut4 ?_
  intros
  rcases hn with ⟨p,m,x,rfl,hp,c0,ex⟩|⟨p,m,q,x,vs,rfl,hp,hq,l1,l2,cl,_,hc⟩
  ·refine ⟨p,_,_,rfl,SqT.of hp,rfl,rfl,_,rfl,iteT ⟨p,_,_,rfl,SqT.of hp,rfl,p,_,_,rfl,SqT.of hp,rfl,zLn2,λz nz=>⟨zLn1,λl nl=>?_⟩⟩⟩
   have s1:=Same.upd (o:=.tup [.str x,.ref m]) nz;have s2:=Same.upd (o:=.lst [.ref z]) nl;refine k' [z] l _ (s1.trans s2) (s1.free nl) aB ?_;have e:lvs (n+1) ch nm=[x]:=by
    show (if ch []=0 then _ else _)=_;rw [if_pos c0,ex]
   rw [e];exact .cons ⟨_,s2 _ _ aB⟩ .nil
  ·refine ⟨p,_,_,rfl,SqT.of hp,rfl,rfl,_,rfl,iteF ⟨zLn0,λl nl=>?_⟩⟩
   have s1:=Same.upd (o:=.lst []) nl;have hl0:upd H l (.lst []) l=some (.lst []):=aB;generalize upd H l (.lst [])=H1 at s1 hl0 ⊢;have c0:ch []≠0:=by omega
   have lv:=qH (n:=n+1) (ch:=ch) (nm:=nm);refine ⟨p,_,_,rfl,SqT.of (s1 _ _ hp),rfl,q,rfl,⟨_,SqT.of (s1 _ _ hq)⟩,?_⟩;refine aA7 (xs:=vs) (λi σ H'=>∃ (es:List Addr) (v2:Option V),σ=[some (.ref p),some (.ref l),v2]/\Same H H'/\H' l=some (.lst (es.map V.ref))/\LvE H' es ((Ay i).flatMap λk=>lvs n (λr=>ch (k::r)) (λr=>nm (k::r))))
    ⟨[],none,rfl,s1,hl0,.nil⟩ (λi σ H' _ ⟨_,_,_,sm,_⟩=>SqT.of (sm _ _ hq)) ?_ ?_
   ·intro i c σ H2 D hN hi hh
    obtain ⟨es,v2,rfl,s2,hl2,lv2⟩:=hh;have il:=(Ah.mp hi).1;refine ⟨_,rfl,.inl ⟨rfl,_,SqL.of hl2⟩,_,rfl,c,_,_,rfl,(hc i c hi).keep s2.tk,Bh (zN (by omega)) n100,λes' l' H3 s3 nl' hl' lv3=>?_⟩;have hl3:=s3 _ _ hl2;have e1:(Ay (i+1)).flatMap (λk=>lvs n (λr=>ch (k::r)) (λr=>nm (k::r)))=((Ay i).flatMap λk=>lvs n (λr=>ch (k::r)) (λr=>nm (k::r)))++lvs n (λr=>ch (i::r)) (λr=>nm (i::r)):=by
     rw [List.range_succ,List.flatMap_append];simp
    have b1:=aA0 (n:=n) (i:=i+1) (nm:=nm) (show i+1<=ch [] by omega) c0;have l2':=lv2.len;have l3':=lv3.len;rw [e1,Aq] at b1;refine ⟨l,l',_,_,rfl,rfl,hl3,hl',(by rw [Ac,Ac];exact bL (by omega)),?_⟩;have em:es.map V.ref++es'.map V.ref=(es++es').map V.ref:=by rw [Ax]
    rw [em];have tk:Tk H3 (upd H3 l (.lst ((es++es').map V.ref))):=Tk.lst hl3;refine hN _ _ ⟨es++es',_,rfl,sm_own (s2.trans s3) nl,aB,?_⟩;rw [e1];exact ((lv2.keep (s3.tk.trans tk))).app (lv3.keep tk)
   ·intro σ H2 hh
    obtain ⟨es,v2,rfl,s2,hl2,lv2⟩:=hh;refine ⟨_,rfl,k' es l H2 s2 nl hl2 ?_⟩;have e:lvs (n+1) ch nm=(Ay (ch [])).flatMap λk=>lvs n (λr=>ch (k::r)) (λr=>nm (k::r)):=by
     show (if ch []=0 then _ else _)=_;rw [if_neg c0]
    rw [e,cl];exact lv2
end
def RmV (H:Hp)(v:V)(y:Int×Int):Prop:=∃ m,v=.ref m/\H m=some (.tup [.int y.1,.int y.2])/\0<=y.1/\1<=y.2/\Bt 9000 y.1/\Bt 9000 y.2
theorem RmV.keep {H H':Hp}{v:V}{y:Int×Int}(h:RmV H v y)(t:Tk H H'):RmV H' v y:=by
 obtain ⟨m,e,h1,r⟩:=h;exact ⟨m,e,t _ _ h1,r⟩
def Am.rm {H:Hp}{m:Addr}{n:Nat}(h:Am H m n)(l:n<=140):∃ y,RmV H (.ref m) y:=by
 obtain ⟨t,b,e,h1,h2,h3,h4⟩:=h;exact ⟨(t,b),m,rfl,e,h1,h2,h3.mono (by omega),h4.mono (by omega)⟩
def lsB (x y:Int×Int):Bool:=decide (x.1*y.2<y.1*x.2)
def kH:Sp:=λvs H Q _=>∃ (u v:V) (x y:Int×Int),vs=[u,v]/\RmV H u x/\RmV H v y/\Q (.bl (lsB x y)) H
structure Bn (H:Hp)(b r q:Addr)(rs us:List V)(rv:List (Int×Int))(ps:List (Str×Str)):Prop where
 hp:H b=some (.tup [.ref r,.ref q])
 hr:H r=some (.tup rs)
 hq:H q=some (.tup us)
 rm:Paired (RmV H) rs rv
 pt:Paired (λ(v:V) (y:Str×Str)=>(Wr y.1/\Wr y.2)/\∃ z,v=.ref z/\H z=some (.tup [.str y.1,.str y.2])) us ps
 l8:rs.length<=8
def nM {α β:Type}{F:α->β->Prop}{a:List α}{b:List β}(h:Paired F a b):∀ {i:Nat} {x:α},a[i]?=some x->∃ y,b[i]?=some y/\F x y:=by
 induction h with
 |nil=>intro i x e;cases e
 |cons h _ ih=>
  intro i x e;cases i with
  |zero=>cases e;exact ⟨_,rfl,h⟩
  |succ i=>exact ih e
def pZ {α β:Type}{F G:α->β->Prop}(fg:∀ a b,F a b->G a b){a:List α}{b:List β}(h:Paired F a b):Paired G a b:=by
 induction h with
 |nil=>exact .nil
 |cons h _ ih=>exact .cons (fg _ _ h) ih
theorem Bn.keep {H H':Hp}{b r q:Addr}{rs us:List V}{rv:List (Int×Int)}{ps:List (Str×Str)}(h:Bn H b r q rs us rv ps)(t:Tk H H'):Bn H' b r q rs us rv ps:=
 ⟨t _ _ h.hp,t _ _ h.hr,t _ _ h.hq,pZ (λ_ _ x=>x.keep t) h.rm,pZ (λ_ _ ⟨w,z,e,x⟩=>⟨w,z,e,t _ _ x⟩) h.pt,h.l8⟩
def pairOf:List V->List (Str×Str)->List Str->V
 |u::us,p::ps,xs=>if p.1∈xs/\p.2∈xs then u else pairOf us ps xs
 |_,_,_=>.non
theorem jD {us:List V}{ps:List (Str×Str)}{xs:List Str}{i:Nat}{u:V}{p:Str×Str}(hu:us[i]?=some u)(hp:ps[i]?=some p):pairOf (us.drop i) (ps.drop i) xs=if p.1∈xs/\p.2∈xs then u else pairOf (us.drop (i+1)) (ps.drop (i+1)) xs:=by
 obtain ⟨h1,e1⟩:=Ah.mp hu;obtain ⟨h2,e2⟩:=Ah.mp hp;rw [Cq h1,Cq h2,e1,e2];rfl
theorem dZ {ps:List (Str×Str)}{xs:List Str}:pairOf [] ps xs=.non:=by
 cases ps<;>rfl
theorem jE {xs xs':List Str}(h:∀ x,x∈xs↔x∈xs'):∀ (us:List V) (ps:List (Str×Str)),pairOf us ps xs=pairOf us ps xs'
 |[],_=>by rw [dZ,dZ]
 |u::us,[]=>rfl
 |u::us,p::ps=>by
  unfold pairOf;simp only [h];rw [jE h us ps]
theorem jF {H:Hp}:∀ {us:List V} {ps:List (Str×Str)} {xs:List Str},Paired (λ(v:V) (y:Str×Str)=>(Wr y.1/\Wr y.2)/\∃ z,v=.ref z/\H z=some (.tup [.str y.1,.str y.2])) us ps->pairOf us ps xs=.non\/∃ z x y,pairOf us ps xs=.ref z/\H z=some (.tup [.str x,.str y])/\Wr x/\Wr y
 |_,_,xs,.nil=>.inl (by rw [dZ])
 |_,_,xs,.cons (a:=u) (b:=p) ⟨w,z,e,hz⟩ t=>by
  unfold pairOf
  by_cases c:p.1∈xs/\p.2∈xs
  ·rw [if_pos c]
   exact .inr ⟨z,_,_,e,hz,w.1,w.2⟩
  ·rw [if_neg c]
   exact jF t
def lJ (K:Ab):Sp:=λvs H Q _=>∃ (p r q:Addr) (rs us:List V) (rv:List (Int×Int)) (ps:List (Str×Str)) (nm:Addr) (xs:List Str),vs=[.ref p,.ref nm]/\Bn H p r q rs us rv ps/\SqL K H nm (xs.map V.str)/\Q (pairOf us ps xs) H
section
variable {P:AF}{w:World}{K:Ab}{mg:Str->Option Value}{base:Heap}
def aE7:FnScope ["one","other"] ["one","other"] (aJ sLess):=fnScOk (by decide +kernel)
def aDv {f:Addr}{fd:AM}(F:Fun K "less" "less" sLess f fd):FnOk P w K mg base CX0 1 f fd ["one","other"] kH:=by
 refine F.ok aE7 (λvs H Q E h=>?_) (λcdv A outer s H vs Q E hr h=>?_)
 ·obtain ⟨_,_,_,_,rfl,_⟩:=h
  rfl
 ·obtain ⟨u,v,x,y,rfl,⟨m,rfl,hm,a1,a2,a3,a4⟩,⟨m',rfl,hm',b1,b2,b3,b4⟩,k⟩:=h
  refine ⟨_,(aH (aU (cZ qA (aN cQ (pit 0 0) (pit 1 1)) (aN cQ (pit 1 0) (pit 0 1)) (aV _)))),?_⟩;exact ⟨m,_,_,rfl,SqT.of hm,rfl,m',_,_,rfl,SqT.of hm',rfl,_,_,rfl,rfl,⟨a3.mono (by decide),b4.mono (by decide)⟩,m',_,_,rfl,SqT.of hm',rfl,m,_,_,rfl,SqT.of hm,rfl,_,_,rfl,rfl,⟨b3.mono (by decide),a4.mono (by decide)⟩,_,_,rfl,rfl,k⟩
def aCz:FnScope ["_law_one","_law_other"] ["_law_one","_law_other"] (aJ sUnder):=fnScOk (by decide +kernel)
def aAe {f:Addr}{fd:AM}(F:Fun K "_law_under" "_law_under" sUnder f fd):FnOk P w K mg base CX0 1 f fd ["_law_one","_law_other"] kH:=by
 refine F.ok aCz (λvs H Q E h=>?_) (λcdv A outer s H vs Q E hr h=>?_)
 ·obtain ⟨_,_,_,_,rfl,_⟩:=h
  rfl
 ·obtain ⟨u,v,x,y,rfl,⟨m,rfl,hm,a1,a2,a3,a4⟩,⟨m',rfl,hm',b1,b2,b3,b4⟩,k⟩:=h
  refine ⟨_,(aH (aU (cZ qA (aN cQ (pit 0 0) (pit 1 1)) (aN cQ (pit 1 0) (pit 0 1)) (aV _)))),?_⟩;exact ⟨m,_,_,rfl,SqT.of hm,rfl,m',_,_,rfl,SqT.of hm',rfl,_,_,rfl,rfl,⟨a3.mono (by decide),b4.mono (by decide)⟩,m',_,_,rfl,SqT.of hm',rfl,m,_,_,rfl,SqT.of hm,rfl,_,_,rfl,rfl,⟨b3.mono (by decide),a4.mono (by decide)⟩,_,_,rfl,rfl,k⟩
def rE:FnScope ["bench","names","pair"] ["bench","names"] (aJ sPairIn):=fnScOk (by decide +kernel)
def wG {f:Addr}{fd:AM}(F:Fun K "pair_in" "pair_in" sPairIn f fd):FnOk P w K mg base CX0 1 f fd ["bench","names"] (lJ K):=by
 refine F.ok rE (λvs H Q E h=>?_) (λcdv A outer s H vs Q E hr h=>?_)
 ·obtain ⟨_,_,_,_,_,_,_,_,_,rfl,_⟩:=h
  rfl
 ·obtain ⟨p,r,q,rs,us,rv,ps,nm,xs,rfl,bn,hn,k⟩:=h
  refine ⟨_,(aD (bP AQ rfl (gY (pit 0 1)) (aR (i:=2) rE.nd rfl (Or.inl rfl))
    (aH (bK (PW.pt (gX (aM dH (pit 2 0) (pv 1) rfl) (eS (aM dH (pit 2 1) (pv 1) rfl)))) (aH (aU (pv 2))) aY)))
   (aH (aU gZ))),?_⟩
  have hq:SqT K H q us:=SqT.of bn.hq;refine ⟨p,_,_,rfl,SqT.of bn.hp,rfl,q,rfl,⟨_,hq⟩,?_⟩;refine gN (xs:=us) (λi σ H'=>∃ v2:Option V,σ=[some (.ref p),some (.ref nm),v2]/\pairOf us ps xs=pairOf (us.drop i) (ps.drop i) xs/\H'=H) ⟨none,rfl,rfl,rfl⟩ ?_ ?_ ?_
  ·rintro i σ H' hi ⟨_,rfl,_,rfl⟩
   exact hq
  ·rintro i v σ H2 hv ⟨v2,rfl,e,rfl⟩
   obtain ⟨y,hy,_,z,rfl,hz⟩:=nM bn.pt hv;have hz':SqT K H2 z [.str y.1,.str y.2]:=SqT.of hz;rw [jD hv hy] at e;refine ⟨z,_,_,rfl,hz',rfl,_,rfl,nm,_,rfl,.inl hn,rfl,cI xs,_,rfl,ite2 (λh1=>?_) (λh1=>?_)⟩
   ·have m1:=dU.mp h1
    refine ⟨z,_,_,rfl,hz',rfl,_,rfl,nm,_,rfl,.inl hn,rfl,cI xs,_,rfl,ite2 (λh2=>?_) (λh2=>?_)⟩
    ·rw [if_pos ⟨m1,dU.mp h2⟩] at e
     rw [e] at k;exact ⟨_,rfl,k⟩
    ·rw [if_neg λz=>h2 (dU.mpr z.2)] at e
     exact ⟨_,rfl,e,rfl⟩
   ·rw [if_neg λz=>h1 (dU.mpr z.1)] at e
    exact ⟨_,rfl,e,rfl⟩
  ·rintro σ H2 ⟨v2,rfl,e,rfl⟩
   rw [Eg,dZ] at e;rw [e] at k;exact k
end
end K45
namespace SX
open PySem PySem.Spec PyProof.Rows
def byT (w:World):Bool:=w.params.followText "set-order"
def kv:Value->Str
 |.str x _=>x
 |_=>⟨#[]⟩
def tV (t:BN)(es:Array (Int×Value))(c:Int)(x:Value):(layNew t es c x).2.1.led=t.led:=by
 unfold layNew;split
 ·unfold BN.orStandIn
  simp only;split<;>rfl
 ·rfl
def aA1 {m f v:Nat}{l p:Bool}{r:BN×Array Nat}(h:BN.laid m f v l p hs=some r):r.1.led=l/\r.1.plain=p:=by
 unfold BN.laid at h;cases e:BN.layClean m hs with
 |none=>rw [e] at h;cases h
 |some o=>
  rw [e] at h;cases h;exact ⟨rfl,rfl⟩
def vL (t:BN)(es:Array (Int×Value))(n:Nat)(hp:t.plain=false):(relayAll t es n).2.1.led=t.led/\(relayAll t es n).2.1.plain=false:=by
 unfold relayAll;split
 ·next t' o e=>
  have q:=aA1 (show BN.laid _ _ _ t.led t.plain _=some _ from e);simp only;split
  ·exact ⟨q.1,q.2.trans hp⟩
  ·exact ⟨rfl,rfl⟩
 ·exact ⟨rfl,rfl⟩
def setO (es:Array (Int×Value))(ep:Nat)(t:BN):Obj:={ cls:=.type "set",dict:=none,data:=.set es ep t,slots:=#[] }
structure SetS (P:AF)(w:World)(h:Heap)(a:Addr)(ks:List Str):Prop where
 ex:∃ es ep t,h.get? a=some (setO es ep t)/\ElemsOf (strKind P w) es.toList/\t.fits es.size=true/\t.led=(!byT w)/\(t.plain=false\/es.size=0)/\(es.toList.map λe=>kv e.2).Perm ks
 nd:ks.Nodup
 lt:ks.length<scanBound
def dd (ks:List Str)(x:Str):List Str:=if x∈ks then ks else ks++[x]
def ddl (ss:List Str):List Str:=ss.foldl dd []
theorem aGg :y∈dd ks x↔y∈ks\/y=x:=by
 unfold dd;split
 ·next h=>exact ⟨.inl,λz=>z.elim id λe=>e▸h⟩
 ·simp
def sL (h:ks.Nodup):(dd ks x).Nodup:=by
 unfold dd;split
 ·exact h
 ·next n=>
  rw [DR];refine ⟨h,by simp,λa ha b hb=>?_⟩;rw [Al.mp hb];exact λe=>n (e▸ha)
def aCe :(dd ks x).length<=ks.length+1:=by
 unfold dd;split
 ·omega
 ·simp
theorem aBe (ss:List Str)(x:Str):ddl (ss++[x])=dd (ddl ss) x:=by unfold ddl;rw [List.foldl_append];rfl
theorem mH:∀ (ss acc:List Str),acc.Nodup->(ss.foldl dd acc).Nodup/\(∀ y,y∈ss.foldl dd acc↔y∈acc\/y∈ss)/\(ss.foldl dd acc).length<=acc.length+ss.length
 |[],acc,h=>⟨h,λy=>by simp,by simp⟩
 |x::r,acc,h=>by
  obtain ⟨a,b,c⟩:=mH r (dd acc x) (sL h);refine ⟨a,λy=>?_,?_⟩
  ·rw [List.foldl_cons,b,aGg,Aw]
   exact or_assoc
  ·rw [List.foldl_cons,AI]
   have:=aCe (ks:=acc) (x:=x);omega
def ddl_nodup (ss:List Str):(ddl ss).Nodup:=(mH ss [] Cp).1
theorem ddl_mem :y∈ddl ss↔y∈ss:=((mH ss [] Cp).2.1 y).trans (by simp)
def aEc (ss:List Str):(ddl ss).length<=ss.length:=by
 have h:=(mH ss [] Cp).2.2;rw [Ep,Nat.zero_add] at h;exact h
def aCc (el:ElemsOf (strKind P w) es)(h:e∈es):∃ t,e.2=.str (kv e.2) t:=by
 obtain ⟨⟨k,hk,_⟩,_⟩:=el e h;obtain ⟨t,ht⟩:=Value.isStrOf_shape (x:=k) (v:=e.2) hk;exact ⟨t,by rw [ht];rfl⟩
def aGb (el:ElemsOf (strKind P w) es)(pm:(es.map λe=>kv e.2).Perm ks)(x:Str):x∈ks↔∃ e∈es,(strKind P w).is x e.2=true:=by
 rw [<- pm.mem_iff,AY];constructor
 ·rintro ⟨e,he,rfl⟩
  obtain ⟨t,ht⟩:=aCc el he;exact ⟨e,he,by rw [ht];exact strKind_is P w _ t⟩
 ·rintro ⟨e,he,h⟩
  obtain ⟨t,ht⟩:=Value.isStrOf_shape (x:=x) (v:=e.2) h;exact ⟨e,he,by rw [ht];rfl⟩
section
variable {P:AF}{w:World}{A:Around}{E:Value->Shared->Prop}{s:Shared}
theorem SetS.stored {h:Heap}{a:Addr}{es es':Array (Int×Value)}{ep:Nat}{t t':BN}{ks:List Str}(ho:h.get? a=some (setO es ep t))(el:ElemsOf (strKind P w) es'.toList)(hf:t'.fits es'.size=true)(hl:t'.led=(!byT w))(hp:t'.plain=false)
  (pm:(es'.toList.map λe=>kv e.2).Perm ks) (nd:ks.Nodup) (lt:ks.length<scanBound):(h.update a (Obj.putSet es' t')).get? a=some (setO es' (ep+1) t')/\SetS P w (h.update a (Obj.putSet es' t')) a ks:=by
 have hg:(h.update a (Obj.putSet es' t')).get? a=some (setO es' (ep+1) t'):=by
  have:=BB (Obj.putSet es' t') ho (by rw [putSet_of es' t' rfl];rfl);rw [putSet_of es' t' rfl] at this;exact this
 exact ⟨hg,⟨_,_,_,hg,el,hf,hl,.inl hp,pm⟩,nd,lt⟩
def rA {g:Bool->Sem Unit}(hg:∀ (b:Bool) (s1:Shared) (Q':Unit->Shared->Prop),Q' () s1->wpAny (model P w) A (g b) Q' E s1){a:Addr}{es es1:Array (Int×Value)}{ep:Nat}{t t2:BN}{ks:List Str}{wd:Bool}{R:Option Bool->Shared->Prop}
  (ho:s.heap.get? a=some (setO es ep t)) (el:ElemsOf (strKind P w) es1.toList) (hf:t2.fits es1.size=true) (hl:t2.led=(!byT w)) (hp:t2.plain=false) (pm:(es1.toList.map λe=>kv e.2).Perm ks) (nd:ks.Nodup) (lt:ks.length<scanBound)
  (h:∀ h',Bq a s.heap h'->SetS P w h' a ks->R (some true) { s with heap:=h' }) :
  wpAny (model P w) A (do
    storeSet a es1 t2
    if (!wd&&t2.tooFull)=true then do
      g (relayAll t2 es1 (DO es1.size)).2.2;storeSet a (relayAll t2 es1 (DO es1.size)).1 (relayAll t2 es1 (DO es1.size)).2.1;pure (some true)
     else pure (some true)) R E s:=by
 have sz:es1.size=ks.length:=by rw [<- BL,<- Ac (f:=λe=>kv e.2),pm.length_eq]
 refine Aa (wpAny_storeSet_of ho rfl ?_ (EO (by omega)));obtain ⟨o1,S1⟩:=SetS.stored (P:=P) (w:=w) ho el hf hl hp pm nd lt;have b1:=Cd s.heap a (Obj.putSet es1 t2);split
 ·have p2:=relayAll_perm t2 es1 (DO es1.size)
  have f2:=relayAll_fits t2 es1 (DO es1.size);have l2:=vL t2 es1 (DO es1.size) hp;generalize relayAll t2 es1 (DO es1.size)=r at p2 f2 l2 ⊢;obtain ⟨es2,t3,gv⟩:=r;dsimp only at p2 f2 l2 ⊢;have pm2:=(p2.map λe=>kv e.2).trans pm;have sz2:es2.size=ks.length:=by rw [<- BL,<- Ac (f:=λe=>kv e.2),pm2.length_eq]
  refine Aa (hg _ _ _ ?_);refine Aa (wpAny_storeSet_of o1 rfl ?_ (EO (by omega)));obtain ⟨_,S2⟩:=SetS.stored (P:=P) (w:=w) o1 (el.perm p2) f2 (l2.1.trans hl) l2.2 pm2 nd lt;exact Ag (h _ (b1.trans (Cd _ a _)) S2)
 ·exact Ag (h _ b1 S1)
def add_str {a:Addr}{tk:Tok}(S:SetS P w s.heap a ks)(hr:ks.length+1<scanBound)(h:∀ b h',Bq a s.heap h'->SetS P w h' a (dd ks x)->Q b { s with heap:=h' }) :
  wpAny (model P w) A (setAddHashed a (.str x tk) ((strKind P w).hash x)) Q E s:=by
 have S0:=S;obtain ⟨⟨es,ep,t,ho,el,hf,hl,hp,pm⟩,nd,lt⟩:=S;have sz:es.size=ks.length:=by rw [<- BL,<- Ac (f:=λe=>kv e.2),pm.length_eq]
 have key:=strKind_is P w x tk;have hsc:(Value.str x tk).scannable=true:=rfl;unfold setAddHashed setAddHashedIn;refine BE (Aa (Eb ho rfl hf ?_));dsimp only;rw [byScan_of (knd:=strKind P w) hsc (by omega) el];simp only [↓reduceIte];unfold setAddByScan;refine Aa (Aa (Dp (Aa (wpAny_setScan_of key ho rfl hf el ?_))));have mem:=aGb el pm x;cases q:List.findIdx? (λe=>(strKind P w).is x e.2) es.toList with
 |some j=>
  dsimp only;obtain ⟨hj,hpj,_⟩:=List.findIdx?_eq_some_iff_getElem.mp q;have hin:x∈ks:=mem.mpr ⟨es.toList[j],EJ hj,hpj⟩;refine Ag (Ag ?_);have e:dd ks x=ks:=by unfold dd;rw [if_pos hin]
  exact h false s.heap (Bq.refl a s.heap) (by rw [e];exact S0)
 |none=>
  dsimp only;have hin:x∉ks:=λz=>by
   obtain ⟨e,he,hpe⟩:=mem.mp z;have:=List.findIdx?_eq_none_iff.mp q e he;rw [hpe] at this;cases this
  have e:dd ks x=ks++[x]:=by unfold dd;rw [if_neg hin]
  have hgw:∀ (b:Bool) {s1:Shared} {Q':Unit->Shared->Prop},Q' () s1->wpAny (model P w) A (match b with|true=>rule "set.scan.the-table-gave-way" | false=>pure ()) Q' E s1:=λb s1 Q' z=>by
   cases b
   ·exact Ag z
   ·exact Dp z
  have lp:=layNew_perm t es ((strKind P w).hash x) (.str x tk);have lf:=layNew_fits t es ((strKind P w).hash x) (.str x tk);have ll:=tV t es ((strKind P w).hash x) (.str x tk);generalize layNew t es ((strKind P w).hash x) (.str x tk)=r at lp lf ll ⊢;obtain ⟨es1,t1,wd,gv⟩:=r;dsimp only at lp lf ll ⊢;rw [Array.toList_push] at lp;have el1:ElemsOf (strKind P w) es1.toList:=(el.push key hsc).perm lp;have pm1:(es1.toList.map λe=>kv e.2).Perm (dd ks x):=by
   rw [e];refine (lp.map _).trans ?_;rw [Ax];exact pm.append_right _
  have nd1:=sL (x:=x) nd;have lt1:(dd ks x).length<scanBound:=by have:=aCe (ks:=ks) (x:=x);omega
  refine Aa (hgw _ ?_);split
  ·refine Aa ?_
   rw [hashByValue_scannable 8 hsc];refine Ag ?_;refine rA (ks:=dd ks x) ?_ ho el1 (BN.fits_plain_off lf) (ll.trans hl) rfl pm1 nd1 lt1 ?_
   ·intro b s1 Q' z
    cases b
    ·exact Ag z
    ·exact Dp z
   ·intro h' sb S'
    exact Ag (h _ h' sb S')
  ·next np=>
   refine Aa (Ag ?_);simp only [↓reduceIte];refine rA (ks:=dd ks x) ?_ ho el1 lf (ll.trans hl) (by simpa using np) pm1 nd1 lt1 ?_
   ·intro b s1 Q' z
    cases b
    ·exact Ag z
    ·exact Dp z
   ·intro h' sb S'
    exact Ag (h _ h' sb S')
end
theorem SetS.at {a:Addr}(S:SetS P w h a ks)(k:∀ o,h.get? a=some o->h'.get? a=some o):SetS P w h' a ks:=by
 obtain ⟨⟨es,ep,t,ho,r⟩,nd,lt⟩:=S;exact ⟨⟨es,ep,t,k _ ho,r⟩,nd,lt⟩
theorem uU:∀ {vs:List Value} {ss:List Str},StrsAre vs ss->∀ (i:Nat) (v:Value),vs[i]?=some v->∃ x t,ss[i]?=some x/\v=.str x t
 |_,_,.nil,i,v,h=>by simp at h
 |_,_,.cons y t hr,0,v,h=>by simp at h;exact ⟨y,t,rfl,h.symm⟩
 |_,_,.cons y t hr,i+1,v,h=>by
  obtain ⟨x,u,h1,h2⟩:=uU hr i v (by simpa using h);exact ⟨x,u,by simpa using h1,h2⟩
section
variable {P:AF}{w:World}{A:Around}{R:Result->Shared->Prop}{I:Addr}{fp wr:List Addr}{G:Array GenState->Array GenState->Prop}{n:Nat}{Pr:Nat->Value->Prop}{St:Nat->Shared->Prop}
def yS (W:WalksS P w A.in1 I fp wr G n Pr St)(a:Addr)(haf:a∉fp)(ss:List Str)(hl:ss.length=n)(hval:∀ i v,Pr i v->∃ x t,ss[i]?=some x/\v=.str x t)(hb:n+1<scanBound) :
  ∀ (k i:Nat) (s:Shared),n-i=k->i<=n->St i s->SetS P w s.heap a (ddl (ss.take i))->(∀ s',Moved (a::wr) G s s'->SetS P w s'.heap a (ddl ss)->R (.ok (.ret .none)) s') ->
   DE (model P w) A (.builtin "set.update.loop" ⟨[.ref a,.ref I],[]⟩) R s:=by
 have haw:a∉wr:=λh=>haf (W.sub _ h);have sub:∀ b∈wr,b∈a::wr:=λb hb=>Au _ hb;intro k
 induction k with
 |zero=>
  intro i s hk hi st S q;obtain rfl:i=n:=by omega
  refine Dq F.entry_set_update_loop ?_;rw [CY Fs _];show wpAny _ A.in1 (pyNext (.ref I) >>= _) _ _ s;refine Aa (W.done s _ _ st λs' hm=>?_);show wpAny _ A.in1 (ret BI) _ _ s';refine Ag (q s' (hm.mono sub) ?_);rw [Dw (by omega)] at S;exact S.at λo e=>hm.heap a o haw e
 |succ k ih=>
  intro i s hk hi st S q;have lt:i<n:=by omega
  refine Dq F.entry_set_update_loop ?_;rw [CY Fs _];show wpAny _ A.in1 (pyNext (.ref I) >>= _) _ _ s;refine Aa (W.item i s _ _ lt st λv s' hP st' hm=>?_);obtain ⟨x,t,hx,rfl⟩:=hval i v hP;have S':SetS P w s'.heap a (ddl (ss.take i)):=S.at λo e=>hm.heap a o haw e;show wpAny _ A.in1 (holding [Value.str x t] (setAdd a (.str x t)) >>= _) _ _ s';refine Aa (BE ?_);unfold setAdd;refine BE ?_;refine Aa ((strKind P w).pyHash (k:=x) (strKind_is _ _ _ _) ?_);have room:(ddl (ss.take i)).length+1<scanBound:=by
   have h1:=aEc (ss.take i);rw [CL] at h1;omega
  refine add_str (s:={ s' with toks:=s'.toks+1 }) S' room λb h' sb S2=>?_;have S3:SetS P w h' a (ddl (ss.take (i+1))):=by
   have e:ss.take (i+1)=ss.take i++[x]:=by rw [List.take_succ,hx];rfl
   rw [e,aBe];exact S2
  refine Ag ⟨Fe Fs _,ih (i+1) _ (by omega) lt (W.frame _ s' _ _ st' (Cb _) λb hb o e=>?_) S3 λs2 m2 z2=>?_⟩
  ·rw [sb.2 b (λh:b=a=>haf (by rw [<- h];exact hb))];exact e
  ·refine q s2 (Moved.trans W.gtrans ((hm.mono sub).then_heap (Cb _) λb o hb e=>?_) m2) z2
   rw [sb.2 b (λh:b=a=>hb (by rw [h];exact Az))];exact e
end
section
variable {P:AF}{w:World}{A:Around}{E:Value->Shared->Prop}{s:Shared}
abbrev jH (w:World):Obj:=setO #[] 0 (.fresh 0 0 (!byT w))
def aD1 (v:Value)(h:Q1 (.ref s.heap.objs.size) { s with heap:=s.heap.push (jH w) }) :
  DE (model P w) A (.call (.builtin "set.__new__") ⟨[.type "set",v],[]⟩) (wants Q1 E) s:=by
 refine codeAny_of_tree ?_;show wpAny _ A.in1 (do checkBuiltinCall "set.__new__" ⟨[.type "set",v],[]⟩;again (.builtin "set.__new__" ⟨[.type "set",v],[]⟩)) _ _ s;refine Aa (Di (F.newCall_set_1 v) (Ag ⟨Fe F.plain_set_new _,Dq F.entry_set_new ?_⟩));rw [CY F.plain_set_new _];unfold AU.«set.__new__» AU.Frozenset.newClass;have sub:=sub_set_self;obtain ⟨hp,g,d,tk,os⟩:=s;dsimp only
 wp_walk
 refine El (Ag ?_);dsimp only;simp only [newObj];refine Aa (wpAny_alloc (Ag ?_));exact Ag h
def aAu (h:Heap):SetS P w (h.push (jH w)) h.objs.size []:=
 ⟨⟨#[],0,_,An _ rfl,λe he=>by simp at he,rfl,rfl,.inr rfl,.refl _⟩,Cp,by decide⟩
def call_set_strs (hh:A.handled=none)(hl:s.heap.IsList l its)(hi:StrsAre its.toList ss)(hb:its.size+1<scanBound)(h:∀ (h':Heap) (tk:Nat),SetS P w h' s.heap.objs.size (ddl ss)->(∀ b o,s.heap.get? b=some o->h'.get? b=some o)->Q (.ref s.heap.objs.size) { s with heap:=h',toks:=tk }) :
  wpAny (model P w) A (call (.type "set") [.ref l]) Q E s:=by
 obtain ⟨c,tl,hmro⟩:=Es.mro;have hmade:=Es.made;have hsub:=Es.sub;refine EM (codeAny_of_tree ?_);show wpAny _ _ (callAny (.type "set") _) _ _ _;refine Ag ⟨Fh _ (by decide +kernel),Dq F.entry_type_call ?_⟩;rw [Around.under_plain (weight_type_call_type "set" [.ref l] []) rfl];have h1:=Es.notType;have h2:=Es.canCreate;have hct:=F.typeCall_set_1 (.ref l)
 repeat (any_goals (first|assumption|wp_step))
 refine CZ (aD1 (.ref l) (E:=E) (Q1:=λobj s1=>obj=.ref s.heap.objs.size/\s1={ s with heap:=s.heap.push (jH w) }) ⟨rfl,rfl⟩) λr s1 hr=>?_;cases r with
 |error e=>exact hr
 |ok fl=>
  cases fl with
  |ret obj=>
   obtain ⟨rfl,rfl⟩:=hr;have hS:(s.heap.push (jH w)).get? s.heap.objs.size=some (jH w):=An _ rfl;have hT:Shared.TypeIs { s with heap:=s.heap.push (jH w) } (.ref s.heap.objs.size) "set":=⟨_,hS,rfl⟩;have hli:=Es.init.lookup;have hbi:=Es.init.bind (.ref s.heap.objs.size)
   repeat (any_goals (first|assumption|wp_step))
   refine CZ (Dj (R:=wants (λr s2=>r=.none/\∃ h' tk,s2={ s with heap:=h',toks:=tk }/\SetS P w h' s.heap.objs.size (ddl ss)/\(∀ b o,s.heap.get? b=some o->h'.get? b=some o)) E) Es.init.plain F.entry_set_init (check_set_init_1 hT ?_)) λr2 s2 hr2=>?_
   ·obtain ⟨ol,hol,hcl,nl,hdl⟩:=hl
    obtain ⟨ocls,odict,odata,oslots⟩:=ol;simp only at hcl hdl;subst hcl;subst hdl;have hol':(s.heap.push (jH w)).get? l=some { cls:=.type "list",dict:=odict,data:=.seq its nl,slots:=oslots }:=Ae _ hol;have hsls:=F.sub_list_set;have hslf:=F.sub_list_frozenset;have hne:(Da "list" == Da "dict")=false:=by decide
    have hl1:(s.heap.push (jH w)).IsList l its:=⟨_,hol',rfl,nl,rfl⟩;unfold AU.«set.__init__» noKeywords AU.Frozenset.updateFrom;generalize hPI:pyIter=PI
    wp_walk
    subst hPI;refine wpAny_pyIter_list hl1 ?_;refine Aa (wpAny_runValue ?_);have hlS:l<s.heap.objs.size:=Ar hol;have hh3:A.in1.in1.in1.handled=none:=by simp [hh]
    have hz:(s.heap.push (jH w)).objs.size=s.heap.objs.size+1:=CT ..;have hneI:l≠(s.heap.push (jH w)).objs.size:=by
     rw [hz];exact AG (Co hlS)
    have haf:s.heap.objs.size∉[(s.heap.push (jH w)).objs.size,l]:=by
     simp only [Aw,List.not_mem_nil,or_false,not_or];rw [hz];exact ⟨AG (CO _),Nat.ne_of_gt hlS⟩
    have hlen:ss.length=its.size:=by rw [<- BL];exact (StrsAre.length hi).symm
    refine yS ((Walks.list hh3 _ l hneI its).toS) s.heap.objs.size haf ss hlen (λi v hv=>uU hi i v (by rw [Cr];exact hv)) hb (its.size-0) 0 _ (by omega) (Bi _) ⟨⟨_,An _ rfl,rfl,rfl⟩,(hl1.push _)⟩ ((aAu s.heap).at λo e=>Ae _ e) λs' hm S'=>?_;obtain ⟨h',g',d',tk',os'⟩:=s';have eg:g'=s.gens:=hm.gens;have ed:d'=s.drawn:=hm.drawn;have eo:os'=s.os:=hm.os;subst eg;subst ed;subst eo;show wpAny _ _ _ _ _ _;refine Ag ?_;show wpAny _ _ (ret BI) _ _ _;refine Ag ⟨rfl,h',tk',rfl,S',λb o e=>?_⟩;have hb0:=Ar e;refine hm.heap b o ?_ (Ae _ (Ae _ e));simp only [Aw,List.not_mem_nil,or_false,not_or];rw [hz];exact ⟨AG hb0,AG (Co hb0)⟩
   ·cases r2 with
    |error e=>exact hr2
    |ok f2=>
     cases f2 with
     |ret r=>
      obtain ⟨rfl,h',tk,rfl,S',hk'⟩:=hr2
      repeat (any_goals (first|assumption|wp_step))
      exact h _ _ S' hk'
     |_=>exact hr2.elim
  |_=>exact hr.elim
end
def dM:Slot "set_iterator" "__next__" "set_iterator.__next__":=.of (owner:="set_iterator") (n:="__next__") (by rw [typeLookup_type,builtinLookup_eq_fast];kernel_rfl) (by decide +kernel) (by decide +kernel) (by decide +kernel) (by first|exact .inl (by decide +kernel)|exact .inr (by decide +kernel)) (by rw [isSubtype_type];kernel_rfl)
def iO:entryFor table "set_iterator.__next__" = some AU.«set_iterator.__next__»:=entryFor_of_tree (by kernel_rfl)
def mL (a:Value):argsOk "set_iterator.__next__" ⟨[a],[]⟩:=by unfold argsOk;kernel_rfl
def rD:Slot "set_iterator" "__iter__" "set_iterator.__iter__":=.of (owner:="set_iterator") (n:="__iter__") (by rw [typeLookup_type,builtinLookup_eq_fast];kernel_rfl) (by decide +kernel) (by decide +kernel) (by decide +kernel) (by first|exact .inl (by decide +kernel)|exact .inr (by decide +kernel)) (by rw [isSubtype_type];kernel_rfl)
def oN:entryFor table "set.__iter__" = some AU.«frozenset.__iter__»:=entryFor_alias (id':="frozenset.__iter__") (by kernel_rfl) rfl (by decide +kernel) (by kernel_rfl)
def itO (f:Value)(i:Int)(n ep:Nat)(a:Addr):Obj:={ cls:=.type "set_iterator",dict:=none,data:=.fields #[f,.int i 0,.ref a,.int n 0,.int ep 0],slots:=#[] }
theorem gP {α:Type}:∀ {l:List α} {i:Nat} (h:i<l.length),(l[i]::l.eraseIdx i).Perm l
 |[],_,h=>by simp at h
 |x::l,0,h=>by simp
 |x::l,i+1,h=>by
  have:=gP (l:=l) (i:=i) (by simpa using h);simp only [List.getElem_cons_succ,Fq];exact (EF.swap _ _ _).trans (this.cons x)
section
variable {P:AF}{w:World}{A:Around}{E:Value->Shared->Prop}{s:Shared}
def uH {n:Nat}(hn:n≠0)(h:∀ i d',i<n->Q i { s with drawn:=d' }):wpAny (model P w) A (choose src n) Q E s:=
 λ_ _ _=>⟨hn,h _ _ (Nat.mod_lt _ (by omega))⟩
theorem oO {α:Type}:∀ (n:Nat) (xs:List α) (s:Shared) (Q:List α->Shared->Prop),xs.length=n->(∀ ys d',ys.Perm xs->Q ys { s with drawn:=d' })->wpAny (model P w) A (drawOrder n xs) Q E s
 |0,xs,s,Q,hl,h=>by
  obtain rfl:xs=[]:=Cc.mp hl;unfold drawOrder;exact Ag (h [] s.drawn (.refl _))
 |n+1,[],s,Q,hl,h=>by cases hl
 |n+1,x::xs,s,Q,hl,h=>by
  unfold drawOrder;refine Aa (uH (by simp) λi d' hi=>?_);have e:(x::xs)[i]?=some (x::xs)[i]:=Af hi;simp only [e];have el:((x::xs).eraseIdx i).length=n:=by rw [List.length_eraseIdx_of_lt hi];simpa using hl
  refine Aa (oO n _ _ _ el λys d2 pm=>Ag ?_);exact h _ d2 ((pm.cons _).trans (gP hi))
theorem vR {α:Type}(nx:Nat->Nat):∀ (n k:Nat) (l:List α) (o:Array α),l.length=n->(pickOrder.go nx n k l o).toList.Perm (o.toList++l)
 |0,k,l,o,h=>by
  obtain rfl:l=[]:=Cc.mp h;unfold pickOrder.go;rw [AL]
 |n+1,k,l,o,h=>by
  have lt:nx k%l.length<l.length:=Nat.mod_lt _ (by omega);unfold pickOrder.go;rw [Af lt];dsimp only;refine (vR nx n (k+1) _ _ (by rw [List.length_eraseIdx_of_lt lt];omega)).trans ?_;rw [Array.toList_push,Bo];exact EF.append_left _ (gP lt)
def vQ {α:Type}(nx:Nat->Nat)(xs:Array α):(pickOrder nx xs).toList.Perm xs.toList:=by
 have:=vR nx xs.size 0 xs.toList #[] (by simp)
 simpa [pickOrder] using this
def pR {a:Addr}{ep:Nat}{t:BN}(ho:s.heap.get? a=some (setO es ep t))(hf:t.fits es.size=true)(h:Q (!byT w&&(!t.plain&&decide (es.size > 1))) s):wpAny (model P w) A (setDrawn a) Q E s:=by
 unfold setDrawn;refine Aa (Eb ho rfl hf ?_);unfold setsByText;refine Aa (Aa (El (Ag ?_)));exact Ag h
def uW (hh:A.handled=none)(hQ:∀ h',(∀ b o,s.heap.get? b=some o->h'.get? b=some o)->Q none { s with heap:=h' }) :
  wpAny (model P w) A.in1 (do raiseNew (<- newExc (.type "StopIteration") [])) (λ(fin:Fin) s'=>∃ v,fin=.done (.ret v)/\wpAny (model P w) A (pure (some v)) Q E s') (λe s'=>wpAny (model P w) A (do if <- isInstance e (.type "StopIteration") then pure none else throw e) Q E s') s:=by
 refine Aa ?_;simp only [newExc,newTuple];refine Aa (Be ?_ (by size_fits));refine Aa (m:=firstArgMember _ _) (Di (a:=BI) (by first|rfl|(simp only [firstArgMember];rfl)) ?_);refine Be ?_ (by size_fits);simp only [raiseNew];refine Aa (wpAny_handled ?_);rw [show A.in1.handled=none from hh];refine Aa (Ag (wpAny_throw ?_));refine Aa (wpAny_isInstance (T:="StopIteration") (b:=true) ⟨_,An _ rfl,rfl⟩ isSubtype_stop ?_);exact Ag (hQ _ λb o e=>Ae _ (Ae _ e))
end
def xZ:entryFor table "set_iterator.__iter__" = some AU.«dict_keyiterator.__iter__»:=entryFor_alias (id':="dict_keyiterator.__iter__") (by kernel_rfl) rfl (by decide +kernel) (by kernel_rfl)
def aBj (a:Value):argsOk "set_iterator.__iter__" ⟨[a],[]⟩:=by unfold argsOk;kernel_rfl
abbrev IP (ord:List Value)(i:Nat)(v:Value):Prop:=ord[i]?=some v
section
variable {P:AF}{w:World}{A:Around}{E:Value->Shared->Prop}{s:Shared}{a I:Addr}{es:Array (Int×Value)}{ep:Nat}{t:BN}
def vE {f:Value}{i:Int}{n:Nat}(hI:s.heap.get? I=some (itO f i n ep a))(h:Q (.ref I) s):wpAny (model P w) A (pyIter (.ref I)) Q E s:=by
 refine wpAny_pyIter_slot ⟨_,hI,rfl⟩ rD (BG rD ⟨_,hI,rfl⟩ xZ ?_ (aBj _));show wpAny _ _ (ret (.ref I)) _ _ s;exact Ag ⟨_,rfl,"set_iterator",_,⟨_,hI,rfl⟩,dM.lookup,h⟩
def lN {f x:Value}{i:Int}{n k:Nat}(hI:s.heap.get? I=some (itO f i n ep a))(hk:k<5)(h:∀ h',h'.get? I=some { cls:=.type "set_iterator",dict:=none,data:=.fields (#[f,.int i 0,.ref a,.int n 0,.int ep 0].setIfInBounds k x),slots:=#[] }->Bq I s.heap h'->Q () { s with heap:=h' }) :
  wpAny (model P w) A (setField (.ref I) k x) Q E s:=wpAny_setField_rec hI hk h
def mQ (hh:A.handled=none)(ne:a≠I)(hf:t.fits es.size=true)(ord:List Value)(sl:Nat->Nat)(hx:∀ (A:Around) (E:Value->Shared->Prop) (i:Nat) (s:Shared) (Q:Option (Value×Nat)->Shared->Prop),i<=ord.length->s.heap.get? a=some (setO es ep t)->Q (ord[i]?.map λv=>(v,sl (i+1))) s->wpAny (model P w) A (setNext a (sl i) i ep) Q E s) :
  Walks P w A I [I,a] [I] ord.length (IP ord) (λi h=>h.get? I=some (itO (.int (sl i) 0) i es.size ep a)/\h.get? a=some (setO es ep t)) where
 sub:=λb hb=>by simp at hb;simp [hb]
 frame:=λi h h' st k=>⟨k I (by simp) _ st.1,k a (by simp) _ st.2⟩
 self:=λi s Q E st hQ=>vE st.1 hQ
 item:=λi s Q E hi st hQ=>by
  obtain ⟨hI,ho⟩:=st;unfold pyNext;refine Aa (Fc (BR (name:=DF "__next__") ⟨_,hI,rfl⟩ dM (BG dM ⟨_,hI,rfl⟩ iO ?_ (mL _))));show wpAny _ _ (fieldsOf (.ref I) >>= _) _ _ s;refine Aa (wpAny_fieldsOf hI rfl ?_);show wpAny _ _ (setEntries a >>= _) _ _ s;refine Aa (Et ho rfl hf ?_);dsimp only;rw [if_neg (by simp)];simp only [Bz];refine Aa (hx _ _ i s _ (Nat.le_of_lt hi) ho ?_);rw [Af hi];dsimp only [Option.map];refine Aa (lN hI (by decide) λh1 g1 b1=>?_);refine Aa (wpAny_setField_rec (k:=1) g1 (by simp) λh2 g2 b2=>?_);refine Ag ⟨_,rfl,Ag (hQ _ h2 s.toks (Af hi) ⟨?_,?_⟩ λb o hb e=>?_)⟩
  ·rw [g2]
   rfl
  ·rw [b2.2 a ne,b1.2 a ne]
   exact ho
  ·have hb':b≠I:=by simpa using hb
   show h2.get? b=some o;rw [b2.2 b hb',b1.2 b hb'];exact e
 done:=λs Q E st hQ=>by
  obtain ⟨hI,ho⟩:=st;unfold pyNext;refine Aa (Fc (BR (name:=DF "__next__") ⟨_,hI,rfl⟩ dM (BG dM ⟨_,hI,rfl⟩ iO ?_ (mL _))));show wpAny _ _ (fieldsOf (.ref I) >>= _) _ _ s;refine Aa (wpAny_fieldsOf hI rfl ?_);show wpAny _ _ (setEntries a >>= _) _ _ s;refine Aa (Et ho rfl hf ?_);dsimp only;rw [if_neg (by simp)];simp only [Bz];refine Aa (hx _ _ ord.length s _ (Ao _) ho ?_);rw [Bu (Ao _)];dsimp only [Option.map];refine Aa (lN hI (by decide) λh1 g1 b1=>?_);refine uW hh λh2 k2=>hQ h2 s.toks λb o hb e=>k2 b o ?_;have hb':b≠I:=by simpa using hb
  show h1.get? b=some o;rw [b1.2 b hb'];exact e
def sU (hh:A.handled=none)(ne:a≠I)(nt:tp≠I)(hf:t.fits es.size=true)(pl:List Nat)(ord:List Value)(ol:ord.length=pl.length)(hp:∀ (i p:Nat),pl[i]?=some p->∃ x v,es[p]?=some (x,v)/\ord[i]?=some v) :
  Walks P w A I [I,a,tp] [I] ord.length (IP ord) (λi h=>h.get? I=some (itO (.ref tp) i es.size ep a)/\h.get? a=some (setO es ep t)/\h.get? tp=some { cls:=.type "tuple",dict:=none,data:=.seq (pl.map λ(p:Nat)=>rawInt p).toArray,slots:=#[] }) where
 sub:=λb hb=>by simp at hb;simp [hb]
 frame:=λi h h' st k=>⟨k I (by simp) _ st.1,k a (by simp) _ st.2.1,k tp (by simp) _ st.2.2⟩
 self:=λi s Q E st hQ=>vE st.1 hQ
 item:=λi s Q E hi st hQ=>by
  obtain ⟨hI,ho,ht⟩:=st;obtain ⟨p,hpl⟩:∃ p,pl[i]?=some p:=⟨_,Af (by omega)⟩;obtain ⟨x,v,he,hv⟩:=hp i p hpl;unfold pyNext;refine Aa (Fc (BR (name:=DF "__next__") ⟨_,hI,rfl⟩ dM (BG dM ⟨_,hI,rfl⟩ iO ?_ (mL _))));show wpAny _ _ (fieldsOf (.ref I) >>= _) _ _ s;refine Aa (wpAny_fieldsOf hI rfl ?_);show wpAny _ _ (setEntries a >>= _) _ _ s;refine Aa (Et ho rfl hf ?_);dsimp only;rw [if_neg (by simp)];refine Aa (wpAny_seqItems ht rfl ?_);dsimp only;have hq:((pl.map λ(p:Nat)=>rawInt p).toArray)[(BP (i:Int))]?=some (.int p 0):=by
   rw [Bz,List.getElem?_toArray,Aj,hpl];rfl
  rw [hq];dsimp only;simp only [Bz];refine Aa ?_;unfold setNextDrawn;refine Aa (Eb ho rfl hf ?_);dsimp only;rw [if_neg (by simp),he];refine Ag ?_;refine Aa (lN hI (by decide) λh1 g1 b1=>?_);refine Ag ⟨_,rfl,Ag (hQ _ h1 s.toks hv ⟨?_,?_,?_⟩ λb o hb e=>?_)⟩
  ·rw [g1]
   rfl
  ·rw [b1.2 a ne]
   exact ho
  ·rw [b1.2 tp nt]
   exact ht
  ·have hb':b≠I:=by simpa using hb
   show h1.get? b=some o;rw [b1.2 b hb'];exact e
 done:=λs Q E st hQ=>by
  obtain ⟨hI,ho,ht⟩:=st;unfold pyNext;refine Aa (Fc (BR (name:=DF "__next__") ⟨_,hI,rfl⟩ dM (BG dM ⟨_,hI,rfl⟩ iO ?_ (mL _))));show wpAny _ _ (fieldsOf (.ref I) >>= _) _ _ s;refine Aa (wpAny_fieldsOf hI rfl ?_);show wpAny _ _ (setEntries a >>= _) _ _ s;refine Aa (Et ho rfl hf ?_);dsimp only;rw [if_neg (by simp)];refine Aa (wpAny_seqItems ht rfl ?_);dsimp only;have hq:((pl.map λ(p:Nat)=>rawInt p).toArray)[(BP (ord.length:Int))]?=none:=by
   rw [Bz,List.getElem?_toArray,Aj,Bu (by omega)];rfl
  rw [hq];dsimp only;refine Aa (lN hI (by decide) λh0 g0 b0=>?_);refine Aa (wpAny_setField_rec (k:=2) g0 (by simp) λh1 g1 b1=>?_);refine uW hh λh2 k2=>hQ h2 s.toks λb o hb e=>k2 b o ?_;have hb':b≠I:=by simpa using hb
  show h1.get? b=some o;rw [b1.2 b hb',b0.2 b hb'];exact e
end
section
variable {P:AF}{w:World}{A:Around}{E:Value->Shared->Prop}{s:Shared}{a I:Addr}{es:Array (Int×Value)}{ep:Nat}{t:BN}
def wR {sl i:Nat}(hb:byT w=true)(hf:t.fits es.size=true)(ho:s.heap.get? a=some (setO es ep t))(h:Q ((pickOrder (w.params.setOrder a ep) es)[i]?.map λe=>(e.2,sl)) s):wpAny (model P w) A (setNext a sl i ep) Q E s:=by
 unfold setNext;refine Aa (Eb ho rfl hf ?_);dsimp only;unfold setsByText;refine Aa (Aa (El (Ag ?_)));show wpAny _ _ (if byT w=true then _ else _) _ _ s;rw [if_pos hb,if_neg (by simp)];refine Aa ?_;unfold setWalk;refine Aa (Eb ho rfl hf ?_);dsimp only;unfold setsByText;refine Aa (Aa (El (Ag ?_)));show wpAny _ _ (if byT w=true then _ else _) _ _ s;rw [if_pos hb];refine Aa (El (Ag ?_));exact Ag h
def aAw {sl i:Nat}(hb:byT w=false)(hf:t.fits es.size=true)(hl:t.led=true)(h1:es.size<=1)(ho:s.heap.get? a=some (setO es ep t))(h:Q (match es[DQ t.place sl]?,t.place[DQ t.place sl]? with|some (_,x),some j=>some (x,j+1)|_,_=>none) s):wpAny (model P w) A (setNext a sl i ep) Q E s:=by
 unfold setNext;refine Aa (Eb ho rfl hf ?_);dsimp only;unfold setsByText;refine Aa (Aa (El (Ag ?_)));show wpAny _ _ (if byT w=true then _ else _) _ _ s;rw [if_neg (by rw [hb];decide)];show wpAny _ _ (if (!t.plain&&decide (es.size > 1))=true then _ else _) _ _ s;rw [if_neg (by rw [decide_eq_false (by omega)];simp)];show wpAny _ _ (bind (if (!t.led&&!es.isEmpty)=true then _ else _) _) _ _ s;rw [if_neg (by rw [hl];simp)];refine Aa (Ag ?_);exact Ag h
theorem lF {P:AF}{w:World}{es:List (Int×Value)}(el:ElemsOf (strKind P w) es):∀ {l:List (Int×Value)},(∀ e∈l,e∈es)->StrsAre (l.map (·.2)) (l.map λe=>kv e.2)
 |[],_=>.nil
 |e::l,h=>by
  obtain ⟨t,ht⟩:=aCc el (h e (Az ..));have:=lF el (l:=l) λx hx=>h x (Au _ hx);rw [Bb,Bb,ht];exact .cons _ _ this
def iY {α:Type}(es:Array α){pl:List Nat}(pm:pl.Perm (Ay es.size)):(pl.filterMap λp=>es[p]?).Perm es.toList:=by
 have:=pm.filterMap λp=>es[p]?;rw [filterMap_getElem?_range] at this;exact this
theorem nJ {α:Type}(es:Array α):∀ {pl:List Nat},(∀ p∈pl,p<es.size)->∀ (i p:Nat),pl[i]?=some p->∃ e,es[p]?=some e/\(pl.filterMap λp=>es[p]?)[i]?=some e
 |[],_,i,p,h=>by simp at h
 |q::pl,hlt,i,p,h=>by
  have hq:=hlt q (Az ..);have eq:es[q]?=some es[q]:=Fi hq;rw [CD,eq];cases i with
  |zero=>
   simp at h;subst h;exact ⟨_,eq,rfl⟩
  |succ i=>
   simp only [List.getElem?_cons_succ] at h ⊢;exact nJ es (λp hp=>hlt p (Au _ hp)) i p h
theorem places_len {α:Type}(es:Array α):∀ {pl:List Nat},(∀ p∈pl,p<es.size)->(pl.filterMap λp=>es[p]?).length=pl.length
 |[],_=>rfl
 |q::pl,hlt=>by
  have eq:es[q]?=some (es[q]'(hlt q (Az ..))):=Fi _;rw [CD,eq];simp only [AI];rw [places_len es λp hp=>hlt p (Au _ hp)]
def aA2 {ks:List Str}{Q:Value->Shared->Prop}(hh:A.handled=none)(S:SetS P w s.heap a ks)
  (h:∀ I fp St ord h' d',Walks P w A I fp [I] ord.length (IP ord) St->St 0 h'->(∀ b o,s.heap.get? b=some o->h'.get? b=some o)->(∀ b∈fp,s.heap.objs.size<=b\/b=a)->s.heap.objs.size<=I->StrsAre ord (ord.map kv)->(ord.map kv).Perm ks->Q (.ref I) { s with heap:=h',drawn:=d' }) :
  wpAny (model P w) A (pyIter (.ref a)) Q E s:=by
 obtain ⟨⟨es,ep,t,ho,el,hf,hl,hp,pm⟩,nd,lt⟩:=S;have la:a<s.heap.objs.size:=Ar ho;refine wpAny_pyIter_slot ⟨_,ho,rfl⟩ F.slot_set_iter (BG F.slot_set_iter ⟨_,ho,rfl⟩ oN ?_ (F.args_set_iter_1 _));show wpAny _ _ (AU.Frozenset.sizeOf a >>= _) _ _ s;refine Aa (Aa (Et ho rfl hf (Ag ?_)));refine Aa (pR ho hf ?_)
 by_cases hd:(!byT w&&(!t.plain&&decide (es.size > 1)))=true
 ·rw [if_pos hd]
  refine Aa (oO es.size (Ay es.size) s _ Dg λpl d' pp=>?_);refine Aa (Be ?_ ?hz)
  case hz=>
   show ((pl.map λ(p:Nat)=>rawInt p).toArray).size<=AE;rw [Ai,Ac,pp.length_eq,Dg];have:es.size=ks.length:=by rw [<- BL,<- Ac (f:=λe=>kv e.2),pm.length_eq]
   exact EO (by omega)
  refine Aa (wpAny_setEpoch_of (o:=setO es ep t) (Ae _ ho) rfl hf ?_);refine Aa (Be (Ag ⟨_,rfl,"set_iterator",_,⟨_,An _ rfl,rfl⟩,dM.lookup,?_⟩));have hlt:∀ p∈pl,p<es.size:=λp hp=>Bv.mp (pp.mem_iff.mp hp);have sz:=λ(h:Heap) (o:Obj)=>CT h o;refine h _ _ _ ((pl.filterMap λp=>es[p]?).map (·.2)) _ d' (sU hh (a:=a) (tp:=s.heap.objs.size) ?_ ?_ hf pl _ (by rw [Ac,places_len es hlt]) λi p hi=>?_) ⟨An _ rfl,Ae _ (Ae _ ho),Ae _ (An _ rfl)⟩ (λb o e=>Ae _ (Ae _ e)) (λb hb=>?_) ?_ ?_ ?_
  ·rw [sz]
   exact AG (Co la)
  ·rw [sz]
   exact AG (CO _)
  ·obtain ⟨e,h1,h2⟩:=nJ es hlt i p hi
   exact ⟨e.1,e.2,h1,by rw [Aj,h2];rfl⟩
  ·simp only [Aw,List.not_mem_nil,or_false] at hb
   rcases hb with rfl|rfl|rfl
   ·left
    rw [sz];exact Cb _
   ·exact .inr rfl
   ·exact .inl (Ao _)
  ·rw [sz]
   exact Cb _
  ·rw [Bw]
   exact lF el λe he=>(iY es pp).mem_iff.mp he
  ·rw [Bw]
   exact ((iY es pp).map _).trans pm
 ·rw [if_neg hd]
  refine Aa (Ag ?_);refine Aa (wpAny_setEpoch_of ho rfl hf ?_);refine Aa (Be (Ag ⟨_,rfl,"set_iterator",_,⟨_,An _ rfl,rfl⟩,dM.lookup,?_⟩));have fpk:∀ b∈[s.heap.objs.size,a],s.heap.objs.size<=b\/b=a:=λb hb=>by
   simp only [Aw,List.not_mem_nil,or_false] at hb
   rcases hb with rfl|rfl
   ·exact .inl (Ao _)
   ·exact .inr rfl
  cases hb:byT w with
  |true=>
   have pk:=vQ (w.params.setOrder a ep) es;refine h _ _ _ ((pickOrder (w.params.setOrder a ep) es).toList.map (·.2)) _ s.drawn (mQ hh (a:=a) (AG la) hf _ (λ_=>0) λA E i s Q _ ho h=>wR hb hf ho ?_) ⟨An _ rfl,Ae _ ho⟩ (λb o e=>Ae _ e) fpk (Ao _) ?_ ?_
   ·rw [Aj,Cr,Option.map_map] at h
    exact h
   ·rw [Bw]
    exact lF el λe he=>pk.mem_iff.mp he
   ·rw [Bw]
    exact (pk.map _).trans pm
  |false=>
   have s1:es.size<=1:=by
    rcases hp with hp|hp
    ·rw [hb,hp] at hd
     by_cases z:es.size > 1
     ·exact absurd (by rw [decide_eq_true z];rfl) hd
     ·omega
    ·omega
   rw [hb] at hl;refine h _ _ _ (es.toList.map (·.2)) _ s.drawn (mQ hh (a:=a) (AG la) hf _ (λi=>if i=0 then 0 else t.place.getD 0 0+1) λA E i s Q hi ho h=>aAw hb hf hl s1 ho ?_) ⟨An _ rfl,Ae _ ho⟩ (λb o e=>Ae _ e) fpk (Ao _) ?_ ?_
   ·have hpl:t.place.size=es.size:=by
     simp only [BN.fits,BV,beq_iff_eq] at hf;exact hf.1
    rw [Ac,BL] at hi;generalize t.place=pl at *
    obtain ⟨pl⟩:=pl;obtain ⟨es⟩:=es
    match es,pl,hpl,i,hi with
    |[],[],_,0,_=>exact h
    |[e],[p],_,0,_=>exact h
    |[e],[p],_,1,_=>
     have e1:DQ #[p] (p+1)=1:=by simp [DQ,DQ.go]
     simp only [Nat.one_ne_zero,if_false];show Q (match (#[e]:Array _)[DQ #[p] (p+1)]?,(#[p]:Array _)[DQ #[p] (p+1)]? with|some (_,x),some j=>some (x,j+1)|_,_=>none) s;rw [e1];exact h
    |_::_::_,_,_,_,_=>simp at s1
   ·rw [Bw]
    exact lF el λe he=>he
   ·rw [Bw]
    exact pm
end
section
variable {P:AF}{w:World}{A:Around}{E:Value->Shared->Prop}{s:Shared}{a:Addr}{ks:List Str}
def SetS.type (S:SetS P w s.heap a ks):s.TypeIs (.ref a) "set":=by
 obtain ⟨⟨es,ep,t,ho,_⟩,_,_⟩:=S;exact ⟨_,ho,rfl⟩
def aA3 (hT:s.TypeIs (.ref a) "set")(h:Q false s):wpAny (model P w) A (AU.List.listLengthHint (.ref a)) Q E s:=by
 unfold AU.List.listLengthHint;refine Aa (wpAny_specialOf hT PySem.F.slot_set_len.lookup ?_);generalize hid:("set.__len__":String)=id0
 wp_delta
 rw [show splitId id0=some ("set","__len__") from by subst hid;decide +kernel];subst hid;refine Aa (wpAny_isInstance (T:="set") (b:=true) hT (by rw [isSubtype_type];kernel_rfl) ?_);refine wpAny_ite_split (λz=>absurd z (by decide)) (λ_=>?_);refine wpAny_ite_split (λ_=>?_) (λz=>absurd (by decide +kernel) z);exact Aa (wpAny_typeOf hT (Ag h))
def uB {c:Nat}(hh:A.handled=none)(S:SetS P w s.heap a ks)(ne:L≠a)(res:Value)(hL:s.heap.get? L=some { cls:=.type "list",data:=.seq #[] c })(hR:∀ h' d' tk acc c' ks',(∀ b o,b≠L->s.heap.get? b=some o->h'.get? b=some o)->h'.get? L=some { cls:=.type "list",dict:=none,data:=.seq acc c',slots:=#[] }->StrsAre acc.toList ks'->ks'.Perm ks->R (.ok (.ret res)) { s with heap:=h',drawn:=d',toks:=tk }) :
  wpAny (model P w) A.in1 (EB (.ref L) (.ref a) res) (λfin s'=>match fin with|.done f=>R (.ok f) s'|.again c'=>c'.quiet=true/\DE (model P w) A c' R s') (λe s'=>R (.error e) s') s:=by
 have lL:=Ar hL;have lt:=S.lt;unfold EB;refine Aa (wpAny_typeOf (T:="set") S.type ?_);have h1:AU.List.listSameRef (.ref L) (.ref a)=false:=by simp [AU.List.listSameRef,ne]
 have h2:(Da "set" == Da "list")=false:=by decide
 have h3:(Da "set" == Da "tuple")=false:=by decide
 simp only [h1,h2,h3,Bool.or_false,BS,if_false];refine Aa (aA2 (A:=A.in1) hh S λI fp St ord h0 d' W st keep hfp hI hs pm=>?_);have hLf:L∉fp:=λz=>by
  rcases hfp L z with z|z
  ·exact absurd lL (Nat.not_lt.mpr z)
  ·exact ne z
 have on:ord.length<=AE:=by
  have:=pm.length_eq;rw [Ac] at this;exact EO (by omega)
 have hT0:({ s with heap:=h0,drawn:=d' }:Shared).TypeIs (.ref a) "set":=(S.at (h':=h0) λo e=>keep _ o e).type (s:={ s with heap:=h0,drawn:=d' });have key:∀ (h:Heap) (c1 tk:Nat),St 0 h->(∀ b o,b≠L->s.heap.get? b=some o->h.get? b=some o)->h.get? L=some { cls:=.type "list",data:=.seq #[] c1 } ->
   DE (model P w) A (.builtin "list.extend.loop" ⟨[.ref L,.ref I,res],[]⟩) R { s with heap:=h,drawn:=d',toks:=tk }:=by
  intro h c1 tk hst hk hL1;refine codeAny_extend_loopS W.toS on L hLf res ord.length 0 _ #[] c1 rfl (Bi _) hst hL1 (ItemsOf.nil _) λs' acc c' hm hL' hacc=>?_;rw [Moved.eq_with hm];have ea:acc.toList=ord:=Dh λi=>by
   rw [Cr];cases q:acc[i]? with
   |none=>
    have:acc.size<=i:=Array.getElem?_eq_none_iff.mp q;rw [Bu (by rw [<- hacc.1];exact this)]
   |some v=>exact (hacc.2 i v q).symm
  refine hR s'.heap d' s'.toks acc c' _ (λb o hb e=>hm.heap b o (λz=>?_) (hk b o hb e)) hL' (by rw [ea];exact hs) pm
  rcases Aw.mp z with z|z
  ·exact hb z
  ·exact absurd (Ar e) (by rw [Al.mp z];exact Nat.not_lt.mpr hI)
 have hL1:=keep _ _ hL;refine Aa (BE (aA3 hT0 ?_));refine wpAny_ite_split (λ_=>?_) (λ_=>Ag ⟨Fe PySem.F.plain_extend_loop _,key _ c s.toks st (λb o _ e=>keep b o e) hL1⟩);refine Aa (Dp ?_);refine Aa ?_;show wpAny _ _ (updateSeq L (·.push .none) >>= λ_=>updateSeq L (·.pop)) _ _ _;refine Aa (wpAny_updateSeq hL1 rfl ?_);have hL2:=BB (Br (·.push BI)) hL1 rfl;refine wpAny_updateSeq (hz:=by seq_fits) hL2 rfl ?_;have hL3:=BB (Br (·.pop)) hL2 rfl;refine Ag ⟨Fe PySem.F.plain_extend_loop _,key _ _ s.toks ?_ (λb o hb e=>?_) hL3⟩
 ·refine W.frame 0 _ _ st λb hb o e=>?_
  have hbL:b≠L:=λh=>hLf (h▸hb);exact (Bg _ _ (BU hbL)).trans ((Bg _ _ (BU hbL)).trans e)
 ·exact (Bg _ _ (BU hb)).trans ((Bg _ _ (BU hb)).trans (keep b o e))
def qU (hh:A.handled=none)(S:SetS P w s.heap a ks)(h:∀ h' d' tk acc ks',(∀ b o,s.heap.get? b=some o->h'.get? b=some o)->StrsAre acc ks'->ks'.Perm ks->R acc { s with heap:=h',drawn:=d',toks:=tk }):wpAny (model P w) A (collect (.ref a)) R E s:=by
 obtain ⟨⟨es,ep,t,ho,_⟩,_,_⟩:=id S;have la:=Ar ho;unfold collect;refine Aa (wpAny_runValue (Dq entry_proto_collect' ?_));rw [CY PySem.F.plain_proto_collect _];show wpAny _ A.in1 (newList [] >>= λl=>again (.builtin "list.__iadd__" ⟨[l,.ref a],[]⟩)) _ _ s;refine Aa (Be ?_);refine Ag ⟨Fe PySem.F.plain_list_iadd _,Dq entry_list_iadd' ?_⟩;rw [CY PySem.F.plain_list_iadd _];have hL:(s.heap.push { cls:=.type "list",data:=.seq ([]:List Value).toArray }).get? s.heap.objs.size=some { cls:=.type "list",data:=.seq #[] }:=An _ rfl;show wpAny _ A.in1 (EB (.ref s.heap.objs.size) (.ref a) (.ref s.heap.objs.size)) _ _ _;have key:=uB (P:=P) (w:=w) (A:=A) (s:={ s with heap:=s.heap.push { cls:=.type "list",data:=.seq ([]:List Value).toArray } }) (ks:=ks)
  (R:=λ(q:Result) (s':Shared)=>∃ h' d' tk acc c' ks',q=.ok (.ret (.ref s.heap.objs.size))/\s'={ s with heap:=h',drawn:=d',toks:=tk }/\(∀ b o,s.heap.get? b=some o->h'.get? b=some o)/\h'.get? s.heap.objs.size=some { cls:=.type "list",dict:=none,data:=.seq acc c',slots:=#[] }/\StrsAre acc.toList ks'/\ks'.Perm ks)
  hh (S.at λo e=>Ae _ e) (Nat.ne_of_gt la) (.ref s.heap.objs.size) hL λh' d' tk acc c' ks' k k2 k3 k4=>⟨h',d',tk,acc,c',ks',rfl,rfl,λb o e=>k b o (AG (Ar e)) (Ae _ e),k2,k3,k4⟩
 refine BH key (λfin s' x=>?_) λe s' x=>?_
 ·cases fin with
  |done f=>
   obtain ⟨h',d',tk,acc,c',ks',e,rfl,k,k2,k3,k4⟩:=x;cases e;show wpAny _ A (load s.heap.objs.size >>= _) _ _ _;exact Aa (wpAny_load k2 (Ag (h h' d' tk acc.toList ks' k k3 k4)))
  |again c1=>
   refine ⟨x.1,CZ x.2 λq s2 y=>?_⟩;obtain ⟨h',d',tk,acc,c',ks',rfl,rfl,k,k2,k3,k4⟩:=y;show wpAny _ A (load s.heap.objs.size >>= _) _ _ _;exact Aa (wpAny_load k2 (Ag (h h' d' tk acc.toList ks' k k3 k4)))
 ·obtain ⟨_,_,_,_,_,_,e',_⟩:=x
  cases e'
def sorted_set (hh:A.handled=none)(S:SetS P w s.heap a ks)(h:∀ (h':Heap) d' (tk:Nat) (acc:List Value) (ks':List Str),(∀ b o,s.heap.get? b=some o->h'.get? b=some o)->StrsAre acc ks'->ks'.Perm ks ->
   wpAny (model P w) A.in1 (call (.builtin "list.sort") [.ref h'.objs.size]) (λ_ s'=>Q (.ref h'.objs.size) s') E { s with heap:=h'.push (seqObj "list" acc.toArray 0),drawn:=d',toks:=tk }) :
  wpAny (model P w) A (call (.builtin "sorted") [.ref a]) Q E s:=by
 have lt:=S.lt;refine Calls.call_function_entry kind_sorted plain_sorted entry_sorted (args_sorted1 _) ?_;unfold AU.«sorted»;refine Aa (m:=checkCount "sorted" 1 1 _) (Ag ?_);refine Aa (qU (A:=A.in1) hh S λh' d' tk acc ks' keep hs pm=>?_);have hl:acc.length<=AE:=by
  rw [StrsAre.length hs,pm.length_eq];exact EO lt
 refine Aa (wpAny_newList ?_ hl);refine Aa (BE (BH (h h' d' tk acc ks' keep hs pm) (λ_ s' x=>?_) λ_ _ e=>e));exact Ag ⟨_,rfl,x⟩
end
end SX
namespace L2
open PySem PySem.Spec PyProof.Rows
abbrev SetT (X:Cx)(a:Addr)(ks:List Str):HO:=.ext λh=>SX.SetS X.prog X.w h a ks
section
variable {X:Cx}
def Inv.drawn {σ:St}{s:Shared}(I:Inv X pins σ H s)(d':Drawn):Inv X pins σ H { s with drawn:=d' }:=
 ⟨I.ok,I.os,I.bare,I.base,I.loc,I.cell,I.free,I.freeC,I.pin,I.hok,I.len⟩
def aG3 (X:Cx):List V->Hp->VK->Prop:=λxs H Q=>∃ a,∃ ss:List Str,xs=[.ref a]/\SqL X.K H a (ss.map V.str)/\ss.length<1000/\∀ p,H p=none->Q (.ref p) (upd H p (SetT X p (SX.ddl ss)))
def yI (hc:X.calm=true):eX X (.type "set") (aG3 X):=by
 intro pins s σ H xs us Q I r h;obtain ⟨a,ss,rfl,hq,h1,q⟩:=h;obtain ⟨u,rfl,rx⟩:=vals1 r;cases rx;obtain ⟨its,r',pl,hz⟩:=I.list hq;have hl:=r'.length;rw [Ac] at hl;refine SX.call_set_strs (I.ok.hd hc) pl.isList (by simpa using kG r') (by rw [Ai];unfold scanBound;omega) λh' tk S k=>?_;obtain ⟨⟨es,ep,t,ho,_⟩,_,_⟩:=id S;exact ⟨.ref s.heap.objs.size,_,I.laid (a:=s.heap.objs.size) (o:=SetT X s.heap.objs.size (SX.ddl ss)) (t':=tk) k (Ao _) ⟨S,⟨_,ho⟩,λh1 h2 p k=>p.at k⟩,rfl,q _ (I.hok.fresh (Ao _))⟩
def zK (X:Cx):List V->Hp->VK->Prop:=λxs H Q=>∃ a,∃ ks:List Str,xs=[.ref a]/\H a=some (SetT X a ks)/\ks.length<64/\∀ (p:Addr) (ss':List Str),ss'.Perm ks->sortedS ss'=true->H p=none->Q (.ref p) (upd H p (.lst (ss'.map V.str)))
def oQ (hc:X.calm=true):eX X (.builtin "sorted") (zK X):=by
 intro pins s σ H xs us Q I r h;obtain ⟨a,ks,rfl,hH,h64,q⟩:=h;obtain ⟨u,rfl,rx⟩:=vals1 r;cases rx;obtain ⟨S,_,_⟩:=I.hok a _ hH;refine SX.sorted_set (I.ok.hd hc) S λh' d' tk acc ks' keep hS pm=>?_;have hlen:=pm.length_eq;have hal:=StrsAre.length hS;have hoL:(h'.push (seqObj "list" acc.toArray 0)).get? h'.objs.size=some (seqObj "list" acc.toArray 0):=An _ rfl;refine BG slot_list_sort ⟨_,hoL,rfl⟩ entry_list_sort (list_sort_treeK strKind_oneLt hoL hS.keysOf (λv₁ v₂ rest e=>keyKind_strs (by rw [<- e];exact hS)) (by omega) λst' hp hs=>⟨_,rfl,?_⟩) (args_list_sort _);obtain ⟨ss',a1,a2,a3⟩:=sorted_out_str hS hp hs;obtain ⟨e,he⟩:∃ e,(sortedHeap (h'.push (seqObj "list" acc.toArray 0)) h'.objs.size acc ((arrOf st').map (·.2))).get? h'.objs.size=some (seqObj "list" ((arrOf st').map (·.2)) e):=sortedHeap_at hoL;have I1:=(I.drawn d').kept (t':=tk) keep;refine ⟨.ref h'.objs.size,_,I1.laid (a:=h'.objs.size) (o:=.lst (ss'.map V.str)) (t':=tk) (λb o hb'=>?_) (Ao _) (nW (its:=((arrOf st').map (·.2)).toList) (e:=e) (eQ a1) ?_ (by rw [DV];exact he)),rfl,q _ ss' (a2.trans pm) a3 (I1.hok.fresh (Ao _))⟩
 ·have lt:=Ar hb'
  rw [sortedHeap_old (AG lt) (by rw [CT];exact Co lt)];exact Ae _ hb'
 ·rw [Ac,a2.length_eq]
  exact bL (by omega)
end
def yZ {n:Nat}(h:n<=3000):n<AE:=Fj h (by decide)
def oP {β:Type}{J:It}{xs:List V}{D:Addr}{g:TG}{tt:TT}{te:TE}{σ0:St}{QD:Hp->Prop}{H1:Hp}(Y:Ys J xs H1)(rs:List β)(el:xs.length=rs.length)(p:β->Bool)(Pr:β->V->Hp->Prop)(hP:∀ r y H H',Pr r y H->Tk H H'->Pr r y H')(hD:H1 D=none)(hl:xs.length<=3000)
  (hs:∀ (i:Nat) x r H' (R1:VK) (R2:Hp->Prop),xs[i]?=some x->rs[i]?=some r->Same H1 H'->(p r=true->∀ y H4,Same H' H4->Pr r y H4->R1 y H4)->(p r=false->∀ H4,Same H' H4->R2 H4)->g x σ0 H' λσ2 H2=>Keep σ0 σ2/\tt σ2 H2 λb H3=>if b=true then te σ2 H3 R1 else R2 H3)
  (hd:∀ ys H',Same H1 H'->H' D=some (.lst ys)->Paired (λy r=>Pr r y H') ys (rs.filter p)->QD H') :
  ∃ W:Nat->Nat->List V->Hp->Prop,(∃ m,W 0 m [] (upd H1 D (.lst [])))/\∀ i m ys H,W i m ys H->H D=some (.lst ys)/\ys.length<AE /\
   ((J.stop i H/\QD H)\/(J.go i H/\∀ x H',J.yld i H x H'->g x σ0 H' λσ2 H2=>Keep σ0 σ2/\tt σ2 H2 λb H3=>
    if b=true then te σ2 H3 λy H4=>H4 D=some (.lst ys)/\∃ m',m'<m/\W (i+1) m' (ys++[y]) (upd H4 D (.lst (ys++[y]))) else ∃ m',m'<m/\W (i+1) m' ys H3)):=by
 refine ⟨λi m ys H=>m=xs.length-i/\i<=xs.length/\Same H1 H/\H D=some (.lst ys)/\Paired (λy r=>Pr r y H) ys ((rs.take i).filter p),⟨_,rfl,Bi _,Same.upd hD,aB,.nil⟩,?_⟩
 rintro i m ys H ⟨rfl,hi,sm,hDH,pr⟩
 have yl:ys.length<=i:=by
  rw [CH pr];refine Bh (BM _ _) ?_;rw [CL];exact Nat.min_le_left ..
 refine ⟨hDH,yZ (by omega),?_⟩
 by_cases hlt:i<xs.length
 ·refine .inr ⟨Y.go i H sm hlt,λx H' y=>?_⟩
  obtain ⟨rfl,hx⟩:=Y.yld i H x H' sm hlt y;obtain ⟨r,hr⟩:∃ r,rs[i]?=some r:=⟨_,Af (by omega)⟩;have et:(rs.take (i+1)).filter p=(rs.take i).filter p++if p r=true then [r] else []:=by
   rw [Dd,hr,CP]
   congr 1
   show List.filter p [r]=_
   by_cases e:p r=true
   ·rw [if_pos e,List.filter_cons_of_pos e];rfl
   ·rw [if_neg e,List.filter_cons_of_neg e];rfl
  refine hs i x r H' _ _ hx hr sm (λhp y H4 s4 py=>?_) λhp H4 s4=>?_
  ·have hD4:=s4 _ _ hDH
   have tk:Tk H4 (upd H4 D (.lst (ys++[y]))):=Tk.lst hD4;refine ⟨hD4,xs.length-(i+1),by omega,rfl,hlt,λb o hb=>?_,aB,?_⟩
   ·rw [aE (aI hb hD)]
    exact s4 _ _ (sm _ _ hb)
   ·rw [et,if_pos hp]
    exact Paired.snoc (Paired.mapP pr λ_ _ z=>hP _ _ _ _ (hP _ _ _ _ z (Same.tk s4)) tk) (hP _ _ _ _ py tk)
  ·refine ⟨xs.length-(i+1),by omega,rfl,hlt,sm.trans s4,s4 _ _ hDH,?_⟩
   rw [et,if_neg (by rw [hp];decide),AL];exact Paired.mapP pr λ_ _ z=>hP _ _ _ _ z (Same.tk s4)
 ·have e:i=xs.length:=by omega
  subst e;rw [el,Ef] at pr;exact .inl ⟨Y.stop _ H sm (Ao _),hd ys H sm hDH pr⟩
end L2
namespace K45
open PySem PySem.Spec PyProof.Rows L2 GM TM TR
def aFq {α:Type}{H:Hp}{f:α->Str}{ys:List V}{rs:List α}(h:Paired (λy r=>y=V.str (f r)) ys rs):ys=(rs.map f).map V.str:=by
 induction h with
 |nil=>rfl
 |cons e _ ih=>rw [e,ih];rfl
def eR:Sp:=λvs H Q _=>∃ (root:V) (ch:List Nat->Nat) (nm:List Nat->Str) (W:List Str),vs=[root]/\Hn H 62 root ch nm/\(pre ch 62 []).length<=100/\(∀ x∈lvs 62 ch nm,x∈W)/\W.length<=6/\∀ (ss:List Str) l H',Same H H'->H l=none->H' l=some (.lst (ss.map V.str))->(∀ x,x∈ss↔x∈lvs 62 ch nm)->Q (.ref l) H'
def pF:Sp:=λvs H Q _=>∃ (root:V) (ch:List Nat->Nat) (nm:List Nat->Str) (W:List Str) (p r q:Addr) (rs us:List V) (rv:List (Int×Int)) (ps:List (Str×Str)),vs=[.ref p,root]/\Bn H p r q rs us rv ps/\Hn H 62 root ch nm/\(pre ch 62 []).length<=100/\(∀ x∈lvs 62 ch nm,x∈W)/\W.length<=6/\∀ H',Same H H'->Q (pairOf us ps (lvs 62 ch nm)) H'
def aGj:Ck "set" = some (.type "set"):=by decide +kernel
def ndPP:(["_law_path","_law_part"]:List Str).Nodup:=by decide +kernel
def aEb {H:Hp}{ch:List Nat->Nat}{nm:List Nat->Str}{e:Addr}{ks:List Nat}(h:EnN H ch nm 62 e ks):∃ pa a y x r,H e=some (.tup [.ref pa,.ref a])/\H a=some (.tup (.str y::.str x::r))/\((y = "ware" /\ ch ks=0/\nm ks=x)\/(y = "recipe" /\ ch ks≠0)):=by
 obtain ⟨pa,v,n,he,hpa,hn,ln⟩:=h;have e1:shf ks ch []=ch ks:=by show ch (ks++[])=_;rw [AL]
 have e2:shf ks nm []=nm ks:=by show nm (ks++[])=_;rw [AL]
 cases n with
 |zero=>exact hn.elim
 |succ n=>
  rcases hn with ⟨p,m,x,rfl,hp,c0,ex⟩|⟨p,m,q,x,vs,rfl,hp,hq,l1,l2,cl,_⟩
  ·exact ⟨pa,p,_,x,_,he,hp,.inl ⟨rfl,e1▸c0,e2▸ex⟩⟩
  ·exact ⟨pa,p,_,x,_,he,hp,.inr ⟨rfl,by rw [<- e1];omega⟩⟩
section
variable {P:AF}{w:World}{K:Ab}{mg:Str->Option Value}{base:Heap}
def vG:FnScope ["_law_root_here"] ["_law_root_here"] (aJ sWaresIn):=fnScOk (by decide +kernel)
def tL {f:Addr}{fd:AM}(F:Fun K "_law_wares_in" "_law_wares_in" sWaresIn f fd)(T:Txt mg)(cP:Cal P w K mg base CX0 1 "_law_paths" ["_law_root_here"] pJ):FnOk P w K mg base CX0 2 f fd ["_law_root_here"] eR:=by
 refine F.ok vG (λvs H Q E h=>?_) (λcdv A outer s H vs Q E hr h=>?_)
 ·obtain ⟨_,_,_,_,rfl,_⟩:=h
  rfl
 ·obtain ⟨root,ch,nm,W,rfl,hn,n100,hW,w6,k⟩:=h
  refine ⟨_,(aH (aU (aQ (oQ rfl) rfl T.sorted' boot_sorted (aA (bY (yI rfl) rfl T.set' aGj (aA
   (lV (N':=["_law_path","_law_part"]) (cl:=[]) (g:=gTup K 2 (mD (dW 0) (mD (dW 1) gNil))) (λ_=>[none,none]) rfl rfl (by decide +kernel) (by decide +kernel) (fF (by decide +kernel)) (λ_ _=>gE)
    (jA (aL cP hr rfl aS (aA (pv 0) aC))) (λ_ _ _ _ _=>fX rfl (bJ (aR (i:=0) ndPP rfl (Or.inl rfl) (Or.inr rfl)) (bJ (aR (i:=1) ndPP rfl (Or.inl rfl) (Or.inr rfl)) eI)))
    (λ_ _ _ _ _=>iL (aM cV (bE (gM (K:=K) rfl) (pv 1) aG (λ_ _=>rfl)) bD (aV _))) (λ_ _ _ _ _=>bE (gM (K:=K) rfl) (pv 1) aG (λ_ _=>rfl))) aC)) aC)))),?_⟩
  refine ⟨_,rfl,root,ch,nm,rfl,hn,n100,λfs l H1 s1 nl hl efs hfs=>?_⟩;have fl:fs.length<=100:=by
   have:=congrArg DB efs;rw [Ac] at this;omega
  refine ⟨l,rfl,⟨_,SqL.of hl⟩,λD hD=>?_⟩;refine oP (Ys.list (SqL.of hl)) fs (by rw [Ac]) (λf=>decide (ch f.2=0)) (λf y _=>y=.str (nm f.2)) (λ_ _ _ _ h _=>h) hD (by rw [Ac];omega) (λi x r H' R1 R2 hx hr' sm q1 q2=>?_) (λys H2 s2 hD2 pd=>?_)
  ·rw [Aj,hr'] at hx
   cases hx;obtain ⟨pa,a,y,x,rr,he,ha,alt⟩:=aEb ((hfs r (AJ hr')).keep sm.tk);refine ⟨r.1,_,rfl,SqT.of he,rfl,_,_,rfl,_,_,rfl,rfl,((Keep.refl _).set rfl).set rfl,_,rfl,a,_,0,.str y,rfl,rfl,SqT.of ha,aZ (j:=0) rfl,rfl,_,rfl,?_⟩
   rcases alt with ⟨rfl,c0,ex⟩|⟨rfl,c0⟩
   ·exact iteT ⟨_,rfl,a,_,1,.str x,rfl,rfl,SqT.of ha,aZ (j:=1) rfl,q1 (by simpa using c0) _ _ (Same.refl _) (by rw [ex])⟩
   ·exact iteF (q2 (by simpa using c0) _ (Same.refl _))
  ·have ey:=aFq (H:=H) (f:=λf:Addr×List Nat=>nm f.2) pd
   have el:(fs.filter λf=>decide (ch f.2=0)).map (λf=>nm f.2)=lvs 62 ch nm:=by
    rw [qG,<- efs,List.filter_map,Bw];rfl
   rw [el] at ey;rw [ey] at hD2;have ll:=qH (n:=62) (ch:=ch) (nm:=nm);refine ⟨D,lvs 62 ch nm,rfl,SqL.of hD2,by omega,λst nst=>?_⟩;have ss:=Same.upd (o:=SetT (cxOf CX0 P w K mg base ["_law_root_here"] "_law_wares_in" (aJ sWaresIn) f cdv A outer s H E) st (SX.ddl (lvs 62 ch nm))) nst;have dl:(SX.ddl (lvs 62 ch nm)).length<=6:=Bh (kP (SX.ddl_nodup _) λx hx=>hW x (SX.ddl_mem.mp hx)) w6;refine ⟨st,_,rfl,aB,by omega,λp ss' pm _ np=>?_⟩;have sA:=(s1.trans s2).trans ss;exact k ss' p _ (sA.trans (Same.upd np)) (sA.free np) aB λx=>by rw [pm.mem_iff,SX.ddl_mem]
def pS:FnScope ["_law_bench","_law_root_here","_law_mine","_law_pair"] ["_law_bench","_law_root_here"] (aJ sTouch):=fnScOk (by decide +kernel)
def aAf {f:Addr}{fd:AM}(F:Fun K "_law_touch" "_law_touch" sTouch f fd)(cW:Cal P w K mg base CX0 2 "_law_wares_in" ["_law_root_here"] eR):FnOk P w K mg base CX0 3 f fd ["_law_bench","_law_root_here"] pF:=by
 refine F.ok pS (λvs H Q E h=>?_) (λcdv A outer s H vs Q E hr h=>?_)
 ·obtain ⟨_,_,_,_,_,_,_,_,_,_,_,rfl,_⟩:=h
  rfl
 ·obtain ⟨root,ch,nm,W,p,r,q,rs,us,rv,ps,rfl,bn,hn,n100,hW,w6,k⟩:=h
  refine ⟨_,(aD (aK (i:=2) pS.nd rfl (Or.inl rfl) (aL cW hr rfl aS (aA (pv 1) aC)))
   (aD (bP AQ rfl (gY (pit 0 1)) (aR (i:=3) pS.nd rfl (Or.inl rfl))
    (aH (bK (PW.pt (gX (aM dH (pit 3 0) (pv 2) rfl) (eS (aM dH (pit 3 1) (pv 2) rfl)))) (aH (aU (pv 3))) aY)))
   (aH (aU gZ)))),?_⟩
  refine cut3 ?_
  intros
  refine ⟨_,rfl,root,ch,nm,W,rfl,hn,n100,hW,w6,λxs l H1 s1 nl hl em=>?_⟩;replace k:=k H1 s1;rw [<- jE em] at k;replace bn:=bn.keep s1.tk;have hn':SqL K H1 l (xs.map V.str):=SqL.of hl;have hq:SqT K H1 q us:=SqT.of bn.hq;refine ⟨p,_,_,rfl,SqT.of bn.hp,rfl,q,rfl,⟨_,hq⟩,?_⟩;refine gN (xs:=us) (λi σ H'=>∃ v2:Option V,σ=[some (.ref p),some root,some (.ref l),v2]/\pairOf us ps xs=pairOf (us.drop i) (ps.drop i) xs/\H'=H1) ⟨none,rfl,rfl,rfl⟩ ?_ ?_ ?_
  ·rintro i σ H' hi ⟨_,rfl,_,rfl⟩
   exact hq
  ·rintro i v σ H2 hv ⟨v2,rfl,e,rfl⟩
   obtain ⟨y,hy,_,z,rfl,hz⟩:=nM bn.pt hv;have hz':SqT K H2 z [.str y.1,.str y.2]:=SqT.of hz;rw [jD hv hy] at e;refine ⟨z,_,_,rfl,hz',rfl,_,rfl,l,_,rfl,.inl hn',rfl,cI xs,_,rfl,ite2 (λh1=>?_) (λh1=>?_)⟩
   ·have m1:=dU.mp h1
    refine ⟨z,_,_,rfl,hz',rfl,_,rfl,l,_,rfl,.inl hn',rfl,cI xs,_,rfl,ite2 (λh2=>?_) (λh2=>?_)⟩
    ·rw [if_pos ⟨m1,dU.mp h2⟩] at e
     rw [e] at k;exact ⟨_,rfl,k⟩
    ·rw [if_neg λz=>h2 (dU.mpr z.2)] at e
     exact ⟨_,rfl,e,rfl⟩
   ·rw [if_neg λz=>h1 (dU.mpr z.1)] at e
    exact ⟨_,rfl,e,rfl⟩
  ·rintro σ H2 ⟨v2,rfl,e,rfl⟩
   rw [Eg,dZ] at e;rw [e] at k;exact k
end
def PhV (H:Hp)(v:V)(e:Bool):Prop:=∃ a h n hs ns,v=.ref a/\H a=some (.tup [.ref h,.ref n])/\H h=some (.tup hs)/\e=hs.isEmpty/\H n=some (.tup ns)
theorem PhV.keep {H H':Hp}{v:V}{e:Bool}(h:PhV H v e)(t:Tk H H'):PhV H' v e:=by
 obtain ⟨a,h,n,hs,ns,e0,h1,h2,h3,h4⟩:=h;exact ⟨a,h,n,hs,ns,e0,t _ _ h1,t _ _ h2,h3,t _ _ h4⟩
def rdyL (es:List Bool)(rv:List (Int×Int))(y:Int×Int):List Nat:=(Ay rv.length).filter λk=>(es[k]?.getD false)&&!(lsB (rv[k]?.getD (0,1)) y)
structure Sd (H:Hp)(b r q l:Addr)(rs us vs:List V)(rv:List (Int×Int))(ps:List (Str×Str))(es:List Bool):Prop where
 bn:Bn H b r q rs us rv ps
 hl:H l=some (.lst vs)
 ph:Paired (PhV H) vs es
 ln:vs.length=rs.length
def pI:Sp:=λvs0 H Q _=>∃ (b r q l:Addr) (rs us vs:List V) (rv:List (Int×Int)) (ps:List (Str×Str)) (es:List Bool) (m:V) (y:Int×Int),vs0=[.ref b,.ref l,m]/\Sd H b r q l rs us vs rv ps es/\RmV H m y/\∀ D H',Same H H'->H D=none->H' D=some (.lst ((rdyL es rv y).map λ(k:Nat)=>V.int (k:Int)))->Q (.ref D) H'
def lI:Sp:=λvs0 H Q _=>∃ (b r q l:Addr) (rs us vs:List V) (rv:List (Int×Int)) (ps:List (Str×Str)) (es:List Bool) (t m:Addr) (u1 u2:V) (us':List V) (y:Int×Int),vs0=[.ref b,.ref l,.ref t]/\Sd H b r q l rs us vs rv ps es/\H t=some (.tup (u1::u2::.ref m::us'))/\RmV H (.ref m) y/\∀ D H',Same H H'->H D=none->H' D=some (.lst ((rdyL es rv y).map λ(k:Nat)=>V.int (k:Int)))->Q (.ref D) H'
def ndRd:(["phial","room","phials","much"]:List Str).Nodup:=by decide +kernel
section
variable {P:AF}{w:World}{K:Ab}{mg:Str->Option Value}{base:Heap}
def zA:FnScope ["bench","phials","much"] ["bench","phials","much"] (aJ sReadyP):=fnScOk (by decide +kernel)
def wD {f:Addr}{fd:AM}(F:Fun K "ready_phials" "ready_phials" sReadyP f fd)(T:Txt mg)(cL:Cal P w K mg base CX0 1 "less" ["one","other"] kH):FnOk P w K mg base CX0 2 f fd ["bench","phials","much"] pI:=by
 refine F.ok zA (λvs H Q E h=>?_) (λcdv A outer s H vs Q E hr h=>?_)
 ·obtain ⟨_,_,_,_,_,_,_,_,_,_,_,_,rfl,_⟩:=h
  rfl
 ·obtain ⟨b,r,q,l,rs,us,vs,rv,ps,es,m,y,rfl,sd,rm,k⟩:=h
  refine ⟨_,(aH (aU (fB (N':=["phial","room","phials","much"]) (g:=gTup K 2 (mD (dW 0) (mD (dW 1) gNil))) (λσ=>[none,none,some 1,some 2].map λt=>t.bind λj=>(σ[j]?).join) rfl rfl (by decide +kernel) (by decide +kernel)
      (tZ (sc:=aJ sReadyP) rfl (by decide +kernel)) (λ_ _ _=>gR (sc:=aJ sReadyP) (N:=["bench","phials","much"]) [none,none,some 1,some 2] rfl rfl rfl rfl (by decide +kernel))
    (lU rfl T.enum' (aA (pit 0 0) aC)) (λ_ _ _ _ _ _=>fX rfl (bJ (aR (i:=0) ndRd rfl (Or.inl rfl) (Or.inr rfl)) (bJ (aR (i:=1) ndRd rfl (Or.inl rfl) (Or.inr rfl)) eI)))
    (λ_ _ _ _ _ _=>iL (PW.pt (gX (aM (zZ (K:=K) rfl hr.units) (bE (gM (K:=K) rfl) (bE (rZ (K:=K) rfl) (pv 2) (pv 0) (λ_ _=>rfl)) aG (λ_ _=>rfl)) (aT aC) (aV _)) (eS (iW (eP (aL cL hr rfl aS (aA (pv 1) (aA (pv 3) aC)))))))))
    (λ_ _ _ _ _ _=>pv 0)))),?_⟩
  have rl:rs.length=rv.length:=CH sd.bn.rm;refine ⟨b,_,_,rfl,SqT.of sd.bn.hp,rfl,r,rfl,⟨_,SqT.of sd.bn.hr⟩,λD nD=>?_⟩;refine kX (SqT.of sd.bn.hr) (λk=>(es[k]?.getD false)&&!(lsB (rv[k]?.getD (0,1)) y)) nD (by have:=sd.bn.l8;omega) (λi x T1 Hx R1 R2 hx sm hT q1 q2=>?_) (λH1 s1 hD=>?_)
  ·obtain ⟨xv,hxv,rx⟩:=nM sd.bn.rm hx
   have il:=(Ah.mp hx).1;obtain ⟨v,hv⟩:∃ v,vs[i]?=some v:=⟨_,Af (by have:=sd.ln;omega)⟩;obtain ⟨e,he,pv⟩:=nM sd.ph hv;obtain ⟨a,h,n,hs,ns,rfl,h1,h2,rfl,h3⟩:=pv.keep sm.tk;have hl:=sm _ _ sd.hl;refine ⟨T1,_,rfl,SqT.of hT,rfl,_,_,rfl,_,_,rfl,rfl,((Keep.refl _).set rfl).set rfl,_,rfl,_,rfl,l,_,(i:Int),.ref a,rfl,rfl,SqL.of hl,aZ hv,a,_,0,.ref h,rfl,rfl,SqT.of h1,aZ (j:=0) rfl,zLn0,λz nz=>?_⟩;have sz:=Same.upd (o:=.tup []) nz;refine ⟨h,z,_,rfl,rfl,SqT.of (sz _ _ h2),SqT.of aB,_,rfl,?_⟩;rw [he,hxv] at q1 q2;cases hse:hs.isEmpty with
   |false=>
    rw [hse] at q2;exact iteF (q2 (by simp) _ sz)
   |true=>
    rw [hse] at q1 q2;refine iteT ⟨_,rfl,_,rfl,x,m,xv,y,rfl,(rx.keep (sm.tk.trans sz.tk)),rm.keep (sm.tk.trans sz.tk),_,rfl,?_⟩;cases hls:lsB xv y with
    |true=>
     rw [show (some xv).getD (0,1)=xv from rfl,hls] at q2;exact iteF (q2 (by simp) _ sz)
    |false=>
     rw [show (some xv).getD (0,1)=xv from rfl,hls] at q1;exact iteT ⟨_,rfl,q1 (by simp) _ sz⟩
  ·rw [rl] at hD
   exact k D H1 s1 nD hD
def pT:FnScope ["_law_bench","_law_phials","_law_root_here","_law_found","_law_k"] ["_law_bench","_law_phials","_law_root_here"] (aJ sReady):=fnScOk (by decide +kernel)
def aAj {f:Addr}{fd:AM}(F:Fun K "_law_ready" "_law_ready" sReady f fd)(T:Txt mg)(cU:Cal P w K mg base CX0 1 "_law_under" ["_law_one","_law_other"] kH):FnOk P w K mg base CX0 2 f fd ["_law_bench","_law_phials","_law_root_here"] lI:=by
 refine F.ok pT (λvs H Q E h=>?_) (λcdv A outer s H vs Q E hr h=>?_)
 ·obtain ⟨_,_,_,_,_,_,_,_,_,_,_,_,_,_,_,_,rfl,_⟩:=h
  rfl
 ·obtain ⟨b,r,q,l,rs,us,vs,rv,ps,es,t,m,u1,u2,us',y,rfl,sd,ht,rm,k⟩:=h
  refine ⟨_,(aD (aK (i:=3) pT.nd rfl (Or.inl rfl) (bC aC))
   (aD (bP AQ rfl (bT rfl T.range (aA (aQ bA rfl T.len BA (aA (pv 1) aC)) aC)) (aR (i:=4) pT.nd rfl (Or.inl rfl))
    (aH (bK (PW.pt (gX (aM (wB hr.units) (bE hJ (bE aW (pv 1) (pv 4) (λ_ _=>rfl)) aG (λ_ _=>rfl)) (aT aC) (aV _)) (eS (iW (eP (aL cU hr rfl aS (aA (bE hJ (pit 0 0) (pv 4) (λ_ _=>rfl)) (aA (pit 2 2) aC))))))))
     (aH (bB (cO Ak AB AA aX (pv 3) (aA (pv 4) aC))))
     aY)))
   (aH (aU (pv 3))))),?_⟩
  refine cut3 ?_
  intros
  have rl:rs.length=rv.length:=CH sd.bn.rm;have l8:=sd.bn.l8;have vl:=sd.ln;refine ⟨zLn0,λD nD=>?_⟩;have s0:=Same.upd (o:=.lst []) nD;refine ⟨_,rfl,l,_,rfl,.inl (SqL.of (s0 _ _ sd.hl)),_,rfl,by omega,by omega,?_⟩;rw [Bz];refine dD (λi σ H'=>∃ v4:Option V,σ=[some (.ref b),some (.ref l),some (.ref t),some (.ref D),v4]/\Same H H'/\H' D=some (.lst (((Ay i).filter λk=>(es[k]?.getD false)&&!(lsB (rv[k]?.getD (0,1)) y)).map λ(k:Nat)=>V.int (k:Int)))) ⟨none,rfl,s0,aB⟩ ?_ ?_
  ·intro i σ H1 D' hN hi hh
   obtain ⟨v4,rfl,s1,hD⟩:=hh;have e0:(0:Int)+(i:Int)=(i:Int):=by omega
   rw [e0];obtain ⟨x,hx⟩:∃ x,rs[i]?=some x:=⟨_,Af (by omega)⟩;obtain ⟨v,hv⟩:∃ v,vs[i]?=some v:=⟨_,Af (by omega)⟩;obtain ⟨xv,hxv,rx⟩:=nM sd.bn.rm hx;obtain ⟨e,he,pv⟩:=nM sd.ph hv;obtain ⟨a,h,n,hs,ns,rfl,h1,h2,rfl,h3⟩:=pv.keep s1.tk;refine ⟨_,rfl,_,rfl,l,_,(i:Int),.ref a,rfl,rfl,SqL.of (s1 _ _ sd.hl),aZ hv,a,_,_,_,rfl,rfl,SqT.of h1,rfl,zLn0,λz nz=>?_⟩;have sz:=Same.upd (o:=.tup []) nz;have s2:=s1.trans sz;have er:∀ p:Bool,((es[i]?.getD false)&&!(lsB (rv[i]?.getD (0,1)) y))=p->(Ay (i+1)).filter (λk=>(es[k]?.getD false)&&!(lsB (rv[k]?.getD (0,1)) y))=(Ay i).filter (λk=>(es[k]?.getD false)&&!(lsB (rv[k]?.getD (0,1)) y))++(if p=true then [i] else []):=λp hp=>by
    rw [List.range_succ,CP,Bp,hp];cases p<;>rfl
   refine ⟨h,z,_,rfl,rfl,SqT.of (sz _ _ h2),SqT.of aB,_,rfl,?_⟩;rw [he,hxv] at er;cases hse:hs.isEmpty with
   |false=>
    rw [hse] at er;refine iteF (hN _ _ ⟨_,rfl,s2,?_⟩);rw [er false rfl]
    simpa using sz _ _ hD
   |true=>
    rw [hse] at er;refine iteT ⟨b,_,_,rfl,SqT.of (s2 _ _ sd.bn.hp),rfl,_,rfl,r,_,(i:Int),x,rfl,rfl,SqT.of (s2 _ _ sd.bn.hr),aZ hx,t,_,_,rfl,SqT.of (s2 _ _ ht),rfl,x,.ref m,xv,y,rfl,rx.keep s2.tk,rm.keep s2.tk,_,rfl,?_⟩;cases hls:lsB xv y with
    |true=>
     refine iteF (hN _ _ ⟨_,rfl,s2,?_⟩);rw [er false (by rw [show (some xv).getD (0,1)=xv from rfl,hls];rfl)]
     simpa using sz _ _ hD
    |false=>
     have hD2:=sz _ _ hD;have fl:((Ay i).filter λk=>(es[k]?.getD false)&&!(lsB (rv[k]?.getD (0,1)) y)).length<=i:=by
      have:=BM (λk=>(es[k]?.getD false)&&!(lsB (rv[k]?.getD (0,1)) y)) (Ay i);rw [Dg] at this;exact this
     refine iteT ⟨_,rfl,.inl ⟨rfl,_,SqL.of hD2⟩,_,rfl,D,_,_,rfl,rfl,hD2,aP (by rw [Ac];omega),hN _ _ ⟨_,rfl,sm_own s2 nD,?_⟩⟩;rw [er true (by rw [show (some xv).getD (0,1)=xv from rfl,hls];rfl),aB];simp
  ·intro σ H1 hh
   obtain ⟨v4,rfl,s1,hD⟩:=hh;rw [vl,rl] at hD;exact ⟨_,rfl,k D H1 s1 nD hD⟩
end
def dP {a:Addr}{H H1 H2:Hp}(s:Same H H1)(h:SmB a H1 H2)(n:H a=none):Same H H2:=λb o e=>h b o (λz=>by rw [z,n] at e;cases e) (s b o e)
theorem zX {α β:Type}{F:α->β->Prop}:∀ {l:List α},(∀ v∈l,∃ y,F v y)->∃ r,Paired F l r
 |[],_=>⟨[],.nil⟩
 |a::l,h=>by
  obtain ⟨r,hr⟩:=zX (l:=l) λv hv=>h v (Au _ hv);obtain ⟨y,hy⟩:=h a (Az ..);exact ⟨y::r,.cons hy hr⟩
def RmE (H:Hp)(v:V):Prop:=∃ m,v=.ref m/\Am H m 101
def PhE (H:Hp)(v:V):Prop:=∃ e,PhV H v e
def PrE (H:Hp)(v:V):Prop:=∃ (y:Str×Str),(Wr y.1/\Wr y.2)/\∃ z,v=.ref z/\H z=some (.tup [.str y.1,.str y.2])
theorem RmE.keep {H H':Hp}{v:V}(h:RmE H v)(t:Tk H H'):RmE H' v:=by
 obtain ⟨m,e,a⟩:=h;exact ⟨m,e,a.keep t⟩
theorem PhE.keep {H H':Hp}{v:V}(h:PhE H v)(t:Tk H H'):PhE H' v:=h.imp λ_ x=>x.keep t
theorem PrE.keep {H H':Hp}{v:V}(h:PrE H v)(t:Tk H H'):PrE H' v:=by
 obtain ⟨y,w,z,e,a⟩:=h;exact ⟨y,w,z,e,t _ _ a⟩
def spBy:Sp:=λvs H Q _=>∃ (m1 m2:Addr) (n1 n2:Nat),vs=[.ref m1,.ref m2]/\Am H m1 n1/\Am H m2 n2/\1<=n1/\1<=n2/\n1+n2<=140/\∀ p H',Same H H'->H p=none->Am H' p (n1+n2)->Q (.ref p) H'
structure Rt (H:Hp)(t m:Addr)(u1 u2:V)(us':List V)(n:Nat):Prop where
 ht:H t=some (.tup (u1::u2::.ref m::us'))
 am:Am H m n
 n1:1<=n
 n2:n<=100
theorem Rt.keep {H H':Hp}{t m:Addr}{u1 u2:V}{us':List V}{n:Nat}(h:Rt H t m u1 u2 us' n)(k:Tk H H'):Rt H' t m u1 u2 us' n:=⟨k _ _ h.ht,h.am.keep k,h.n1,h.n2⟩
def lK (K:Ab):Sp:=λvs H Q _=>∃ (a t m w:Addr) (ns:List Int) (u1 u2:V) (us':List V) (n:Nat) (ws:List Str),vs=[.ref a,.ref t,.ref w]/\SqL K H a (ns.map V.int)/\Rt H t m u1 u2 us' n/\H w=some (.lst (ws.map V.str))/\ws.length=6 /\
 ∀ (p r l:Addr) (rs vs:List V) H',Same H H'->H l=none->H' p=some (.tup [.ref r,.ref l])->H' r=some (.tup rs)->(∀ v∈rs,RmE H' v)->H' l=some (.lst vs)->(∀ v∈vs,PhE H' v)->vs.length=rs.length->rs.length<=8->Q (.ref p) H'
section
variable {P:AF}{w:World}{K:Ab}{mg:Str->Option Value}{base:Heap}
def scBy:FnScope ["_law_one","_law_other"] ["_law_one","_law_other"] (aJ sBy):=fnScOk (by decide +kernel)
def aHa {f:Addr}{fd:AM}(F:Fun K "_law_by" "_law_by" sBy f fd)(cL:Cal P w K mg base CX0 1 "_law_lowest" ["_law_top","_law_bottom"] eD):FnOk P w K mg base CX0 2 f fd ["_law_one","_law_other"] spBy:=by
 refine F.ok scBy (λvs H Q E h=>?_) (λcdv A outer s H vs Q E hr h=>?_)
 ·obtain ⟨_,_,_,_,rfl,_⟩:=h
  rfl
 ·obtain ⟨m1,m2,n1,n2,rfl,⟨t1,b1,h1,t10,b11,st1,sb1⟩,⟨t2,b2,h2,t20,b21,st2,sb2⟩,l1,l2,l,k⟩:=h
  refine ⟨_,(aH (aU (aL cL hr rfl aS (aA (aN cQ (pit 0 0) (pit 1 0)) (aA (aN cQ (pit 0 1) (pit 1 1)) aC))))),?_⟩;have w1:∀ {x:Int},Bt (64*n1-1) x->Bt 1000000 x:=λh=>h.mono (by omega);have w2:∀ {x:Int},Bt (64*n2-1) x->Bt 1000000 x:=λh=>h.mono (by omega);have S1:=SqT.of (K:=K) h1;have S2:=SqT.of (K:=K) h2;refine ⟨m1,_,_,rfl,S1,rfl,m2,_,_,rfl,S2,rfl,_,_,rfl,rfl,⟨w1 st1,w2 st2⟩,m1,_,_,rfl,S1,rfl,m2,_,_,rfl,S2,rfl,_,_,rfl,rfl,⟨w1 sb1,w2 sb2⟩,?_⟩;have p1:0<=t1*t2:=Int.mul_nonneg t10 t20;have pb:1<=b1*b2:=Int.mul_pos (by omega) (by omega);have sb:Bt (64*(n1+n2)-1) (b1*b2):=(sb1.mul sb2).mono (by omega);have st:Bt (64*(n1+n2)-1) (t1*t2):=(st1.mul st2).mono (by omega);refine ⟨_,_,rfl,by omega,pb,sb.mono (by omega),λp H' sm np hp=>k p H' sm np ⟨_,_,hp,?_,?_,?_,?_⟩⟩
  ·exact DI (by omega) (Int.le_of_lt (qW (by omega)))
  ·have g:=qW (a:=t1*t2) (b:=b1*b2) (by omega)
   exact (EA g).mpr (by have:=sT (a:=t1*t2) (b:=b1*b2) (by omega);omega)
  ·exact st.div (by omega)
  ·exact sb.div (by omega)
def aCg (c:Int):0<=(if c<0 then -c else c):=by split<;>omega
theorem e6:(10:Int)^BP 6=1000000:=by decide +kernel
theorem e20:(10:Int)^BP 20=100000000000000000000:=by decide +kernel
def dF:FnScope ["_law_script","_law_root_here","_law_wares_here","_law_left","_law_rooms","_law_phials","_law_k","_law_top","_law_free","_law_some","_law_ware","_law_held"] ["_law_script","_law_root_here","_law_wares_here"] (aJ sFreeSt):=fnScOk (by decide +kernel)
def wK {f:Addr}{fd:AM}(F:Fun K "_law_free_stand" "_law_free_stand" sFreeSt f fd)(T:Txt mg)(cC:Cal P w K mg base CX0 2 "_law_cell_at" ["_law_script","_law_k"] (gU K))(cD:Cal P w K mg base CX0 2 "_law_digit" ["_law_left","_law_many"] fJ)(cL:Cal P w K mg base CX0 2 "_law_lowest" ["_law_top","_law_bottom"] eD)(cA:Cal P w K mg base CX0 2 "_law_add" ["_law_one","_law_other"] vD)(cB:Cal P w K mg base CX0 2 "_law_by" ["_law_one","_law_other"] spBy):FnOk P w K mg base CX0 3 f fd ["_law_script","_law_root_here","_law_wares_here"] (lK K):=by
 refine F.ok dF (λvs H Q E h=>?_) (λcdv A outer s H vs Q E hr h=>?_)
 ·obtain ⟨_,_,_,_,_,_,_,_,_,_,rfl,_⟩:=h
  rfl
 ·obtain ⟨a,t,m,wa,ns,u1,u2,us',n,ws,rfl,hS,rt,hw,w6,k⟩:=h
  refine ⟨_,(aD (aK (i:=3) dF.nd rfl (Or.inl rfl) (bC (aA (aQ gD rfl T.abs' oU (aA (aL cC hr rfl aS (aA (pv 0) (aA aG aC))) aC)) aC)))
   (aD (aK (i:=4) dF.nd rfl (Or.inl rfl) (bC aC))
   (aD (aK (i:=5) dF.nd rfl (Or.inl rfl) (bC aC))
   (aD (bP AQ rfl (bT rfl T.range (aA (aN bF aG (aL cD hr rfl aS (aA (pv 3) (aA aG aC)))) aC)) (aR (i:=6) dF.nd rfl (Or.inl rfl))
    (aD (aK (i:=7) dF.nd rfl (Or.inl rfl) (aN bF aG (aL cD hr rfl aS (aA (pv 3) (aA (aN jG aG aG) aC)))))
    (aD (aK (i:=8) dF.nd rfl (Or.inl rfl) (aL cL hr rfl aS (aA (pv 7) (aA (aN bF aG (aL cD hr rfl aS (aA (pv 3) (aA (aN jG aG aG) aC)))) aC))))
    (aD (aK (i:=9) dF.nd rfl (Or.inl rfl) (bC (aA (pit 1 2) (aA (pv 8) (aA (aL cA hr rfl aS (aA (pit 1 2) (aA (pv 8) aC))) (aA (aL cB hr rfl aS (aA (pit 1 2) (aA (aT (aA aG (aA aG aC))) aC))) (aA (aT (aA (aN jG aG aG) (aA aG aC))) aC)))))))
    (aD (bB (cO Ak AB AA aX (pv 4) (aA (bE aW (pv 9) (aL cD hr rfl aS (aA (pv 3) (aA aG aC))) (λ_ _=>rfl)) aC)))
    (aD (aK (i:=10) dF.nd rfl (Or.inl rfl) (bE aW (pv 2) (aL cD hr rfl aS (aA (pv 3) (aA aG aC))) (λ_ _=>rfl)))
    (aD (aK (i:=11) dF.nd rfl (Or.inl rfl) (aT (aA (aT (aA (pv 10) (aA (aL cB hr rfl aS (aA (bE aW (pv 4) (fY dO aG) (λ_ _=>rfl)) (aA (aT (aA aG (aA (aN bF aG (aL cD hr rfl aS (aA (pv 3) (aA aG aC)))) aC))) aC))) aC))) aC)))
    (aH (bB (cO Ak AB AA aX (pv 5) (aA (bE aW (bC (aA (aT (aA (aT aC) (aA (aT aC) aC))) (aA (aT (aA (aT aC) (aA (aT (aA (pv 10) aC)) aC))) (aA (aT (aA (pv 11) (aA (aT (aA (pv 10) aC)) aC))) aC)))) (aL cD hr rfl aS (aA (pv 3) (aA aG aC))) (λ_ _=>rfl)) aC)))))))))))
   (aH (aU (aT (aA (bY cE rfl T.tup' eN (aA (pv 4) aC)) (aA (pv 5) aC))))))))),?_⟩
  refine cut5 ?_
  intros
  refine ⟨_,rfl,a,ns,1,rfl,hS,by decide,λc=>⟨c,rfl,zLn1,λla nla=>?_⟩⟩;have c0':=aCg c;generalize (if c<0 then -c else c)=n0 at *
  have sl:=Same.upd (o:=.lst [.int n0]) nla;have lf0:Lf (upd H la (.lst [.int n0])) la:=⟨n0,aB,c0'⟩;generalize upd H la (.lst [.int n0])=H1 at sl lf0 ⊢;refine ⟨zLn0,λRo nRo=>?_⟩;have sR:=Same.upd (o:=.lst []) nRo;have hRo1:upd H1 Ro (.lst []) Ro=some (.lst []):=aB;have RoA:Ro≠la:=lf0.there nRo;have nRo0:H Ro=none:=sl.free nRo;have lf1:=lf0.keep sR;have s2:=sl.trans sR;generalize upd H1 Ro (.lst [])=H2 at sR hRo1 lf1 s2 ⊢;refine ⟨zLn0,λPl nPl=>?_⟩;have sP:=Same.upd (o:=.lst []) nPl;have hPl1:upd H2 Pl (.lst []) Pl=some (.lst []):=aB;have PlA:Pl≠la:=lf1.there nPl;have nPl0:H Pl=none:=s2.free nPl;have lf2:=lf1.keep sP;have hRo2:=sP _ _ hRo1;have RP:Ro≠Pl:=aI hRo1 nPl;have s3:=s2.trans sP;generalize upd H2 Pl (.lst [])=H3 at sP hPl1 lf2 hRo2 s3 ⊢;refine ⟨_,rfl,la,8,rfl,lf2,by decide,b9,λd H4 d0 dl sb lf4=>⟨_,_,rfl,rfl,_,rfl,by omega,by omega,?_⟩⟩;have s4:=dP s3 sb nla;have hRo4:=sb _ _ RoA hRo2;have hPl4:=sb _ _ PlA hPl1;refine dD (λi σ H'=>∃ (rs vs:List V) (v6 v7 v8 v9 v10 v11:Option V),σ=[some (.ref a),some (.ref t),some (.ref wa),some (.ref la),some (.ref Ro),some (.ref Pl),v6,v7,v8,v9,v10,v11]/\Same H H'/\Lf H' la/\H' Ro=some (.lst rs)/\H' Pl=some (.lst vs)/\(∀ v∈rs,RmE H' v)/\(∀ v∈vs,PhE H' v)/\rs.length=i/\vs.length=i)
   ⟨[],[],none,none,none,none,none,none,rfl,s4,lf4,hRo4,hPl4,(λ_ h=>nomatch h),(λ_ h=>nomatch h),rfl,rfl⟩ ?_ ?_
  ·intro i σ H5 D hN hi hh
   obtain ⟨rs,vs,v6,v7,v8,v9,v10,v11,rfl,s5,lf5,hRo5,hPl5,rok,pok,rl,vl⟩:=hh;have i8:i<8:=by
    have:i<((1:Int)+d-0).toNat:=by simpa using hi
    omega
   have six:∀ {x:Int},x=(10:Int)^BP 6->x=1000000:=λh=>h.trans e6;refine ⟨_,rfl,_,_,rfl,rfl,⟨by decide,by decide,bk⟩,la,_,rfl,lf5,(by show (1:Int)<=10^BP 6;rw [e6];decide),(by show Bt 9000 (10^BP 6);rw [e6];exact b9),λd1 H6 d10 d1l' sb6 lf6=>⟨_,_,rfl,rfl,?_⟩⟩;have d1l:d1<1000000:=by
    have:d1<(10:Int)^BP 6:=d1l';rwa [e6] at this
   refine ⟨_,rfl,_,rfl,_,_,rfl,rfl,⟨by decide,by decide,bk⟩,la,_,rfl,lf6,(by show (1:Int)<=10^BP 6;rw [e6];decide),(by show Bt 9000 (10^BP 6);rw [e6];exact b9),λd2 H7 d20 d2l' sb7 lf7=>⟨_,_,rfl,rfl,?_⟩⟩;have d2l:d2<1000000:=by
    have:d2<(10:Int)^BP 6:=d2l';rwa [e6] at this
   have sb57:=sb6.trans sb7;have s7:=dP s5 sb57 nla;have tk57:Tk H5 H7:=(iC sb6 lf5).trans (iC sb7 lf6);refine ⟨1+d1,1+d2,rfl,by omega,by omega,b9 (by omega) (by omega),λfr H8 s8 nfr hfr=>?_⟩;have s8':=s7.trans s8;have rm:=rW (t:=1+d1) (b:=1+d2) (by omega) (by omega) (cG 63 (c:=2000000) (by omega) (by omega)) (cG 63 (c:=2000000) (by omega) (by omega));have amF:Am H8 fr 1:=⟨_,_,hfr,Int.le_trans (by decide) rm.t1,rm.b1,rm.st,rm.sb⟩;have rt8:=rt.keep s8'.tk;have n1:=rt.n1;have n2:=rt.n2;refine ⟨t,_,_,rfl,SqT.of rt8.ht,rfl,_,rfl,t,_,_,rfl,SqT.of rt8.ht,rfl,_,rfl,m,fr,n,1,rfl,rt8.am,amF,n1,by decide,by omega,λq1 H9 s9 nq1 am1=>?_⟩;have rt9:=rt8.keep s9.tk;refine ⟨t,_,_,rfl,SqT.of rt9.ht,rfl,zLn2,λz1 nz1=>?_⟩;have t1:=Same.upd (o:=.tup [.int 999,.int 1000]) nz1;refine ⟨m,z1,n,1,rfl,rt9.am.keep t1.tk,⟨999,1000,aB,by decide,by decide,cG 63 (c:=2000) (by decide) (by decide),cG 63 (c:=2000) (by decide) (by decide)⟩,n1,by decide,by omega,λq2 HA sA nq2 am2=>?_⟩;have t2:=t1.trans sA;refine ⟨_,_,rfl,rfl,⟨by decide,by decide,bk⟩,zLn2,λz2 nz2=>?_⟩;have t3:=Same.upd (o:=.tup [.int ((10:Int)^BP 20),.int 1]) nz2;have am3:Am (upd HA z2 (.tup [.int ((10:Int)^BP 20),.int 1])) z2 2:=⟨_,_,aB,by rw [e20];decide,by decide,by rw [e20];exact cG 127 (c:=100000000000000000001) (by decide) (by decide),cG 127 (c:=2) (by decide) (by decide)⟩;refine ⟨zLn5,λso nso=>?_⟩;have t4:=Same.upd (o:=.lst [.ref m,.ref fr,.ref q1,.ref q2,.ref z2]) nso;have hso:upd (upd HA z2 (.tup [.int ((10:Int)^BP 20),.int 1])) so (.lst [.ref m,.ref fr,.ref q1,.ref q2,.ref z2]) so=some (.lst [.ref m,.ref fr,.ref q1,.ref q2,.ref z2]):=aB;have tAll:Same H8 (upd (upd HA z2 (.tup [.int ((10:Int)^BP 20),.int 1])) so (.lst [.ref m,.ref fr,.ref q1,.ref q2,.ref z2])):=s9.trans (t2.trans (t3.trans t4));have all5:∀ v∈[V.ref m,.ref fr,.ref q1,.ref q2,.ref z2],RmE (upd (upd HA z2 (.tup [.int ((10:Int)^BP 20),.int 1])) so (.lst [.ref m,.ref fr,.ref q1,.ref q2,.ref z2])) v:=λv hv=>by
    rcases Aw.mp hv with e|hv
    ·exact ⟨m,e,(rt8.am.keep tAll.tk).mono (by omega)⟩
    rcases Aw.mp hv with e|hv
    ·exact ⟨fr,e,(amF.keep tAll.tk).mono (by omega)⟩
    rcases Aw.mp hv with e|hv
    ·exact ⟨q1,e,(am1.keep (t2.trans (t3.trans t4)).tk).mono (by omega)⟩
    rcases Aw.mp hv with e|hv
    ·exact ⟨q2,e,(am2.keep (t3.trans t4).tk).mono (by omega)⟩
    ·exact ⟨z2,Al.mp hv,(am3.keep t4.tk).mono (by omega)⟩
   generalize upd (upd HA z2 (.tup [.int ((10:Int)^BP 20),.int 1])) so (.lst [.ref m,.ref fr,.ref q1,.ref q2,.ref z2])=HB at hso tAll all5 ⊢;have sB:=s8'.trans tAll;have sbB:SmB la H5 HB:=sb57.trans (SmB.of (s8.trans tAll));have lfB:=(lf7.keep s8).keep tAll;have hRoB:=sbB _ _ RoA hRo5;refine ⟨_,rfl,.inl ⟨rfl,_,SqL.of hRoB⟩,_,rfl,_,rfl,la,5,rfl,lfB,by decide,b9,λd3 HC d30 d3l sbC lfC=>?_⟩;obtain ⟨k3,rfl⟩:=Bc d30;have soA:so≠la:=by
    intro z;obtain ⟨_,e,_⟩:=lfB;rw [z,e] at hso;injection hso with hso;injection hso with hso;cases hso
   obtain ⟨x3,hx3⟩:∃ x,[V.ref m,.ref fr,.ref q1,.ref q2,.ref z2][k3]?=some x:=⟨_,Af (by show k3<5;omega)⟩;have tkBC:=iC sbC lfB;have rx3:=(all5 x3 (AJ hx3)).keep tkBC;have hRoC:=sbC _ _ RoA hRoB;refine ⟨so,_,_,x3,rfl,rfl,SqL.of (sbC _ _ soA hso),aZ hx3,Ro,_,_,rfl,rfl,hRoC,aP (by omega),?_⟩;have tkD:Tk HC (upd HC Ro (.lst (rs++[x3]))):=Tk.lst hRoC;have hRoD:upd HC Ro (.lst (rs++[x3])) Ro=some (.lst (rs++[x3])):=aB;have hPlD:upd HC Ro (.lst (rs++[x3])) Pl=some (.lst vs):=by rw [aE RP.symm];exact sbC _ _ PlA (sbB _ _ PlA hPl5)
   have lfD:=lfC.own (o:=.lst (rs++[x3])) RoA;have sC:Same H HC:=dP sB sbC nla;have sD:Same H (upd HC Ro (.lst (rs++[x3]))):=sm_own sC nRo0;have tk5D:Tk H5 (upd HC Ro (.lst (rs++[x3]))):=((tk57.trans s8.tk).trans (tAll.tk.trans tkBC)).trans tkD;have rx3D:=rx3.keep tkD;generalize upd HC Ro (.lst (rs++[x3]))=HD at tkD hRoD hPlD lfD sD tk5D rx3D ⊢;refine ⟨_,rfl,_,rfl,la,6,rfl,lfD,by decide,b9,λd4 HE d40 d4l sbE lfE=>?_⟩;obtain ⟨k4,rfl⟩:=Bc d40;obtain ⟨x4,hx4⟩:∃ x,ws[k4]?=some x:=⟨_,Af (by omega)⟩;have sE:=dP sD sbE nla;refine ⟨wa,_,_,.str x4,rfl,rfl,SqL.of (sE _ _ hw),aZ (by rw [Aj,hx4];rfl),?_⟩;have tkE:=iC sbE lfD;have hRoE:=sbE _ _ RoA hRoD;have hPlE:=sbE _ _ PlA hPlD;obtain ⟨m3,rfl,amx⟩:=rx3D.keep tkE;refine ⟨_,rfl,_,rfl,_,rfl,Ro,_,-1,.ref m3,rfl,rfl,SqL.of hRoE,mK _ _,_,rfl,la,9,rfl,lfE,by decide,b9,λd5 HF d50 d5l sbF lfF=>⟨_,_,rfl,rfl,zLn2,λz5 nz5=>?_⟩⟩;have tF:=Same.upd (o:=.tup [.int 1,.int (1+d5)]) nz5;have tkF:=iC sbF lfE;refine ⟨m3,z5,101,1,rfl,(amx.keep tkF).keep tF.tk,⟨1,1+d5,aB,by decide,by omega,cG 63 (c:=2000) (by decide) (by decide),cG 63 (c:=2000) (by omega) (by omega)⟩,by decide,by decide,by decide,λq5 HG sG nq5 am5=>⟨zLn2,λz6 nz6=>⟨zLn1,λhd nhd=>?_⟩⟩⟩;have tG:=tF.trans sG;have tH1:=Same.upd (o:=.tup [.str x4,.ref q5]) nz6;have tH2:=Same.upd (o:=.tup [.ref z6]) nhd;have tH:=tG.trans (tH1.trans tH2);have hhd:upd (upd HG z6 (.tup [.str x4,.ref q5])) hd (.tup [.ref z6]) hd=some (.tup [.ref z6]):=aB;have sbH:SmB la HE (upd (upd HG z6 (.tup [.str x4,.ref q5])) hd (.tup [.ref z6])):=sbF.trans (SmB.of tH);have lfH:=lfF.keep tH;have tkH:Tk HE (upd (upd HG z6 (.tup [.str x4,.ref q5])) hd (.tup [.ref z6])):=tkF.trans tH.tk;generalize upd (upd HG z6 (.tup [.str x4,.ref q5])) hd (.tup [.ref z6])=HI at hhd sbH lfH tkH ⊢;have hPlI:=sbH _ _ PlA hPlE;have hRoI:=sbH _ _ RoA hRoE;refine ⟨_,rfl,.inl ⟨rfl,_,SqL.of hPlI⟩,zLn0,λa1 na1=>⟨zLn0,λa2 na2=>⟨zLn2,λa3 na3=>?_⟩⟩⟩;have g1:=Same.upd (o:=.tup []) na1;have g2:=Same.upd (o:=.tup []) na2;have g3:=Same.upd (o:=.tup [.ref a1,.ref a2]) na3;have g13:=g1.trans (g2.trans g3);have c1:PhE (upd (upd (upd HI a1 (.tup [])) a2 (.tup [])) a3 (.tup [.ref a1,.ref a2])) (.ref a3):=⟨true,a3,a1,a2,[],[],rfl,aB,(g2.trans g3) _ _ aB,rfl,g3 _ _ aB⟩;generalize upd (upd (upd HI a1 (.tup [])) a2 (.tup [])) a3 (.tup [.ref a1,.ref a2])=HJ at g13 c1 ⊢;refine ⟨zLn0,λa4 na4=>⟨_,rfl,zLn1,λa5 na5=>⟨zLn2,λa6 na6=>?_⟩⟩⟩;have g4:=Same.upd (o:=.tup []) na4;have g5:=Same.upd (o:=.tup [.str x4]) na5;have g6:=Same.upd (o:=.tup [.ref a4,.ref a5]) na6;have g46:=g4.trans (g5.trans g6);have c2:PhE (upd (upd (upd HJ a4 (.tup [])) a5 (.tup [.str x4])) a6 (.tup [.ref a4,.ref a5])) (.ref a6):=⟨true,a6,a4,a5,[],_,rfl,aB,(g5.trans g6) _ _ aB,rfl,g6 _ _ aB⟩;generalize upd (upd (upd HJ a4 (.tup [])) a5 (.tup [.str x4])) a6 (.tup [.ref a4,.ref a5])=HK at g46 c2 ⊢;have hhdK:=(g13.trans g46) _ _ hhd;refine ⟨_,rfl,_,rfl,zLn1,λa7 na7=>⟨zLn2,λa8 na8=>⟨zLn3,λa9 na9=>?_⟩⟩⟩;have g7:=Same.upd (o:=.tup [.str x4]) na7;have g8:=Same.upd (o:=.tup [.ref hd,.ref a7]) na8;have g9:=Same.upd (o:=.lst [.ref a3,.ref a6,.ref a8]) na9;have g79:=g7.trans (g8.trans g9);have h9:upd (upd (upd HK a7 (.tup [.str x4])) a8 (.tup [.ref hd,.ref a7])) a9 (.lst [.ref a3,.ref a6,.ref a8]) a9=some (.lst [.ref a3,.ref a6,.ref a8]):=aB;have all3:∀ v∈[V.ref a3,.ref a6,.ref a8],PhE (upd (upd (upd HK a7 (.tup [.str x4])) a8 (.tup [.ref hd,.ref a7])) a9 (.lst [.ref a3,.ref a6,.ref a8])) v:=λv hv=>by
    rcases Aw.mp hv with e|hv
    ·exact e▸c1.keep (g46.trans g79).tk
    rcases Aw.mp hv with e|hv
    ·exact e▸c2.keep g79.tk
    ·rw [Al.mp hv]
     exact ⟨false,a8,hd,a7,_,_,rfl,g9 _ _ aB,g79 _ _ hhdK,rfl,(g8.trans g9) _ _ aB⟩
   have gA:=g13.trans (g46.trans g79);generalize upd (upd (upd HK a7 (.tup [.str x4])) a8 (.tup [.ref hd,.ref a7])) a9 (.lst [.ref a3,.ref a6,.ref a8])=HL at h9 all3 gA ⊢;have lfL:=lfH.keep gA;refine ⟨_,rfl,la,3,rfl,lfL,by decide,b9,λd6 HM d60 d6l sbM lfM=>?_⟩;obtain ⟨k6,rfl⟩:=Bc d60;obtain ⟨x6,hx6⟩:∃ x,[V.ref a3,.ref a6,.ref a8][k6]?=some x:=⟨_,Af (by show k6<3;omega)⟩;have a9A:a9≠la:=by
    intro z;obtain ⟨_,e,_⟩:=lfL;rw [z,e] at h9;injection h9 with h9;injection h9 with h9;cases h9
   have hPlM:=sbM _ _ PlA (gA _ _ hPlI);have tkM:=iC sbM lfL;have px6:=(all3 x6 (AJ hx6)).keep tkM;refine ⟨a9,_,_,x6,rfl,rfl,SqL.of (sbM _ _ a9A h9),aZ hx6,Pl,_,_,rfl,rfl,hPlM,aP (by omega),?_⟩;have tkN:Tk HM (upd HM Pl (.lst (vs++[x6]))):=Tk.lst hPlM;have tkEM:Tk HE HM:=(tkH.trans gA.tk).trans tkM;have tkAll:Tk H5 HM:=(tk5D.trans tkE).trans tkEM;have sM:Same H HM:=dP (dP sE (sbH.trans (SmB.of gA)) nla) sbM nla;refine hN _ _ ⟨rs++[.ref m3],vs++[x6],_,_,_,_,_,_,rfl,sm_own sM nPl0,lfM.own PlA,?_,aB,λv hv=>?_,λv hv=>?_,by simp [rl],by simp [vl]⟩
   ·rw [aE RP]
    exact sbM _ _ RoA (gA _ _ hRoI)
   ·rcases Av.mp hv with hv|hv
    ·exact ((rok v hv).keep tkAll).keep tkN
    ·rw [Al.mp hv]
     exact ⟨m3,rfl,(amx.keep tkEM).keep tkN⟩
   ·rcases Av.mp hv with hv|hv
    ·exact ((pok v hv).keep tkAll).keep tkN
    ·rw [Al.mp hv]
     exact px6.keep tkN
  ·intro σ H5 hh
   obtain ⟨rs,vs,v6,v7,v8,v9,v10,v11,rfl,s5,lf5,hRo5,hPl5,rok,pok,rl,vl⟩:=hh;refine ⟨_,rfl,Ro,_,rfl,.inl ⟨SqL.of hRo5,λr nr=>?_⟩⟩;have sr:=Same.upd (o:=.tup rs) nr;refine ⟨_,rfl,zLn2,λp np=>?_⟩;have sp:=Same.upd (o:=.tup [.ref r,.ref Pl]) np;have sA:=sr.trans sp;refine k p r Pl rs vs _ (s5.trans sA) nPl0 aB (sp _ _ aB) (λv hv=>(rok v hv).keep sA.tk) (sA _ _ hPl5) (λv hv=>(pok v hv).keep sA.tk) (by omega) ?_;have:rs.length=((1:Int)+d).toNat:=by simpa using rl
   omega
end
end K45
namespace L2
open PySem PySem.Spec PyProof.Rows
structure PSX (X:Cx)(st:Stmt)(t:TS):Prop where
 h:PS X st t
structure PSB (X:Cx)(l:List Stmt)(t:TS):Prop where
 h:PSs X l t
structure PEX (X:Cx)(e:Expr)(t:TE):Prop where
 h:PE X e t
structure PAX (X:Cx)(es:List Expr)(t:TA):Prop where
 h:PA X es t
section
variable {X:Cx}
end
section
variable {X:Cx}
end
end L2
namespace K45
open PySem PySem.Spec PyProof.Rows L2 GM TM TR
structure Tn (H:Hp)(root:V)(ch:List Nat->Nat)(nm:List Nat->Str)(W:List Str):Prop where
 hn:Hn H 62 root ch nm
 sz:(pre ch 62 []).length<=100
 nw:∀ x∈lvs 62 ch nm,x∈W
 w6:W.length<=6
theorem Tn.keep {H H':Hp}{root:V}{ch:List Nat->Nat}{nm:List Nat->Str}{W:List Str}(h:Tn H root ch nm W)(t:Tk H H'):Tn H' root ch nm W:=⟨h.hn.keep t,h.sz,h.nw,h.w6⟩
def pP (K:Ab):Sp:=λvs H Q _=>∃ (a w:Addr) (root:V) (ns:List Int) (ch:List Nat->Nat) (nm:List Nat->Str) (W ws:List Str),vs=[.ref a,root,.ref w]/\SqL K H a (ns.map V.int)/\Tn H root ch nm W/\H w=some (.lst (ws.map V.str))/\ws.length=6/\(∀ x∈ws,Wr x) /\
 ∀ (q:Addr) (us:List V) H',Same H H'->H' q=some (.tup us)->(∀ v∈us,PrE H' v)->Q (.ref q) H'
def pH (K:Ab):Sp:=λvs0 H Q _=>∃ (a t m w:Addr) (ns:List Int) (u1 u2:V) (us':List V) (n:Nat) (ch:List Nat->Nat) (nm:List Nat->Str) (W ws:List Str),vs0=[.ref a,.ref t,.ref w]/\SqL K H a (ns.map V.int)/\Rt H t m u1 u2 us' n/\Tn H (.ref t) ch nm W/\H w=some (.lst (ws.map V.str))/\ws.length=6/\(∀ x∈ws,Wr x) /\
 ∀ (p b r q l:Addr) (rs us vs:List V) (rv:List (Int×Int)) (ps:List (Str×Str)) (es:List Bool) H',Same H H'->H l=none->H' p=some (.tup [.ref b,.ref l])->Sd H' b r q l rs us vs rv ps es->Q (.ref p) H'
def aE4 {H:Hp}{b r q l:Addr}{rs us vs:List V}(hb:H b=some (.tup [.ref r,.ref q]))(hr:H r=some (.tup rs))(hq:H q=some (.tup us))(hl:H l=some (.lst vs))(rok:∀ v∈rs,RmE H v)(pok:∀ v∈vs,PhE H v)(uok:∀ v∈us,PrE H v)(e:vs.length=rs.length)(l8:rs.length<=8):∃ rv ps es,Sd H b r q l rs us vs rv ps es:=by
 obtain ⟨rv,h1⟩:=zX (F:=RmV H) (l:=rs) λv hv=>by
  obtain ⟨m,rfl,am⟩:=rok v hv;exact Am.rm am (by decide)
 obtain ⟨es,h2⟩:=zX (F:=PhV H) pok;obtain ⟨ps,h3⟩:=zX (F:=λ(v:V) (y:Str×Str)=>(Wr y.1/\Wr y.2)/\∃ z,v=.ref z/\H z=some (.tup [.str y.1,.str y.2])) uok;exact ⟨rv,ps,es,⟨hb,hr,hq,h1,h3,l8⟩,hl,h2,e⟩
def at6 {ss:List Str}{i:Nat}(h:i<ss.length)(hw:∀ x∈ss,Wr x):∃ x,Wr x/\atI (ss.map V.str) (i:Int)=some (.str x):=⟨ss[i],hw _ (EJ h),aZ (by rw [Aj,Af h];rfl)⟩
section
variable {P:AF}{w:World}{K:Ab}{mg:Str->Option Value}{base:Heap}
def eG:FnScope ["_law_script","_law_root_here","_law_wares_here","_law_left","_law_mine","_law_any_pair","_law_pairs","_law_some","_law_j","_law_k","_law_free"] ["_law_script","_law_root_here","_law_wares_here"] (aJ sFreeP):=fnScOk (by decide +kernel)
def aAq {f:Addr}{fd:AM}(F:Fun K "_law_free_pairs" "_law_free_pairs" sFreeP f fd)(T:Txt mg)(cC:Cal P w K mg base CX0 2 "_law_cell_at" ["_law_script","_law_k"] (gU K))(cD:Cal P w K mg base CX0 2 "_law_digit" ["_law_left","_law_many"] fJ)(cW:Cal P w K mg base CX0 2 "_law_wares_in" ["_law_root_here"] eR):FnOk P w K mg base CX0 3 f fd ["_law_script","_law_root_here","_law_wares_here"] (pP K):=by
 refine F.ok eG (λvs H Q E h=>?_) (λcdv A outer s H vs Q E hr h=>?_)
 ·obtain ⟨_,_,_,_,_,_,_,_,rfl,_⟩:=h
  rfl
 ·obtain ⟨a,wa,root,ns,ch,nm,W,ws,rfl,hS,tn,hw,w6,wW,k⟩:=h
  refine ⟨_,(aD (aK (i:=3) eG.nd rfl (Or.inl rfl) (bC (aA (aQ gD rfl T.abs' oU (aA (aL cC hr rfl aS (aA (pv 0) (aA aG aC))) aC)) aC)))
   (aD (aK (i:=4) eG.nd rfl (Or.inl rfl) (aL cW hr rfl aS (aA (pv 1) aC)))
   (aD (aK (i:=5) eG.nd rfl (Or.inl rfl) (cZ cV (aL cD hr rfl aS (aA (pv 3) (aA aG aC))) aG (aV _)))
   (aD (aK (i:=6) eG.nd rfl (Or.inl rfl) (bC aC))
   (aD (aK (i:=7) eG.nd rfl (Or.inl rfl) (aQ kZ rfl T.sorted' boot_sorted (aA (pv 2) aC)))
   (aD (bP AQ rfl (bT rfl T.range (aA aG aC)) (aR (i:=8) eG.nd rfl (Or.inl rfl))
    (aH (bP AQ rfl (iZ rfl T.range (aA (aN bF (pv 8) aG) (aA aG aC))) (aR (i:=9) eG.nd rfl (Or.inl rfl))
     (aD (aK (i:=10) eG.nd rfl (Or.inl rfl) (zV (cZ dQ (bE aW (pv 7) (pv 8) (λ_ _=>rfl)) (pv 4) rfl) (zV (cZ dQ (bE aW (pv 7) (pv 9) (λ_ _=>rfl)) (pv 4) rfl) (kO (pv 5)))))
     (aH (bK (PW.pt (gX (aM cV (aL cD hr rfl aS (aA (pv 3) (aA aG aC))) aG (aV _)) (eS (eP (pv 10)))))
      (aH (bB (cO Ak AB AA aX (pv 6) (aA (aT (aA (bE aW (pv 7) (pv 8) (λ_ _=>rfl)) (aA (bE aW (pv 7) (pv 9) (λ_ _=>rfl)) aC))) aC))))
      aY))))))
   (aH (aU (bY cE rfl T.tup' eN (aA (pv 6) aC)))))))))),?_⟩
  refine cut7 ?_
  intros
  refine ⟨_,rfl,a,ns,2,rfl,hS,by decide,λc=>⟨c,rfl,zLn1,λla nla=>?_⟩⟩;have c0':=aCg c;generalize (if c<0 then -c else c)=n0 at *
  have sl:=Same.upd (o:=.lst [.int n0]) nla;have lf0:Lf (upd H la (.lst [.int n0])) la:=⟨n0,aB,c0'⟩;generalize upd H la (.lst [.int n0])=H1 at sl lf0 ⊢;have tn1:=tn.keep sl.tk;refine ⟨_,rfl,root,ch,nm,W,rfl,tn1.hn,tn1.sz,tn1.nw,tn1.w6,λmi lm H2 s2 nlm hlm _=>?_⟩;have lmA:lm≠la:=lf0.there nlm;refine ⟨_,rfl,la,2,rfl,lf0.keep s2,by decide,b9,λd H3 d0 dl sb3 lf3=>⟨rfl,?_⟩⟩;have hlm3:=sb3 _ _ lmA hlm;have s3:=dP (sl.trans s2) sb3 nla;generalize decide (V.int d=V.int 1)=ap;refine ⟨zLn0,λPr nPr=>?_⟩;have sP:=Same.upd (o:=.lst []) nPr;have PrA:Pr≠la:=lf3.there nPr;have nPr0:H Pr=none:=s3.free nPr;have lf4:=lf3.keep sP;have hPr4:upd H3 Pr (.lst []) Pr=some (.lst []):=aB;have hlm4:=sP _ _ hlm3;have s4:=s3.trans sP;have PrM:Pr≠lm:=(aI hlm3 nPr).symm;generalize upd H3 Pr (.lst [])=H4 at lf4 hPr4 hlm4 s4 ⊢;refine ⟨_,rfl,wa,ws,rfl,SqL.of (s4 _ _ hw),by omega,λSo ss pm _ nSo=>?_⟩;have l6:ss.length=6:=by rw [pm.length_eq,w6]
  have sW:∀ x∈ss,Wr x:=λx hx=>wW x (pm.mem_iff.mp hx);have sS:=Same.upd (o:=.lst (ss.map V.str)) nSo;have SoA:So≠la:=lf4.there nSo;have SoP:So≠Pr:=(aI hPr4 nSo).symm;have hSo5:upd H4 So (.lst (ss.map V.str)) So=some (.lst (ss.map V.str)):=aB;have lf5:=lf4.keep sS;have hPr5:=sS _ _ hPr4;have hlm5:=sS _ _ hlm4;have s5:=s4.trans sS;generalize upd H4 So (.lst (ss.map V.str))=H5 at hSo5 lf5 hPr5 hlm5 s5 ⊢;refine ⟨_,rfl,by decide,by decide,?_⟩;refine dD (λj σ H'=>∃ (us:List V) (v8 v9 v10:Option V),σ=[some (.ref a),some root,some (.ref wa),some (.ref la),some (.ref lm),some (.bl ap),some (.ref Pr),some (.ref So),v8,v9,v10]/\Same H H'/\Lf H' la/\H' Pr=some (.lst us)/\H' So=some (.lst (ss.map V.str))/\H' lm=some (.lst (mi.map V.str))/\(∀ v∈us,PrE H' v)/\us.length<=6*j)
   ⟨[],none,none,none,rfl,s5,lf5,hPr5,hSo5,hlm5,(λ_ h=>nomatch h),Bi _⟩ ?_ ?_
  ·intro j σ H6 D hN hj hh
   obtain ⟨us,v8,v9,v10,rfl,s6,lf6,hPr6,hSo6,hlm6,uok,ul⟩:=hh;have j6:j<6:=by simpa using hj
   have e0:(0:Int)+(j:Int)=(j:Int):=by omega
   rw [e0];refine ⟨_,rfl,_,_,rfl,rfl,_,_,rfl,⟨by omega,by omega,by omega,by omega⟩,?_⟩;refine dD (λi σ H'=>∃ (us:List V) (v9 v10:Option V),σ=[some (.ref a),some root,some (.ref wa),some (.ref la),some (.ref lm),some (.bl ap),some (.ref Pr),some (.ref So),some (.int (j:Int)),v9,v10]/\Same H H'/\Lf H' la/\H' Pr=some (.lst us)/\H' So=some (.lst (ss.map V.str))/\H' lm=some (.lst (mi.map V.str))/\(∀ v∈us,PrE H' v)/\us.length<=6*j+i)
    ⟨us,v9,v10,rfl,s6,lf6,hPr6,hSo6,hlm6,uok,by omega⟩ ?_ ?_
   ·intro i σ H7 D' hN' hi hh
    obtain ⟨us,v9,v10,rfl,s7,lf7,hPr7,hSo7,hlm7,uok,ul⟩:=hh;have i6:j+1+i<6:=by
     have:i<((6:Int)-((j:Int)+1)).toNat:=hi;omega
    have e1:(j:Int)+1+(i:Int)=((j+1+i:Nat):Int):=by omega
    rw [e1];obtain ⟨x,wx,hx⟩:=at6 (ss:=ss) (i:=j) (by omega) sW;obtain ⟨y,wy,hy⟩:=at6 (ss:=ss) (i:=j+1+i) (by omega) sW;dsimp only [dW];refine fU (λσ' H'=>∃ bf:Bool,σ'=[some (.ref a),some root,some (.ref wa),some (.ref la),some (.ref lm),some (.bl ap),some (.ref Pr),some (.ref So),some (.int (j:Int)),some (.int ((j+1+i:Nat):Int)),some (.bl bf)]/\H'=H7) (λσ' H8 hh=>?_) (λN hN2=>?_)
    rotate_left
    ·refine ⟨_,rfl,_,rfl,So,_,_,_,rfl,rfl,SqL.of hSo7,hx,_,rfl,lm,_,rfl,.inl (SqL.of hlm7),rfl,cI mi,_,rfl,ite2 (λ_=>hN2 _ _ ⟨true,rfl,rfl⟩) (λ_=>?_)⟩
     refine ⟨_,rfl,_,rfl,So,_,_,_,rfl,rfl,SqL.of hSo7,hy,_,rfl,lm,_,rfl,.inl (SqL.of hlm7),rfl,cI mi,_,rfl,ite2 (λ_=>hN2 _ _ ⟨true,rfl,rfl⟩) (λ_=>⟨_,rfl,hN2 _ _ ⟨ap,rfl,rfl⟩⟩)⟩
    obtain ⟨bf,rfl,rfl⟩:=hh;refine ⟨_,rfl,la,2,rfl,lf7,by decide,b9,λd2 H9 d20 d2l sb9 lf9=>⟨rfl,_,rfl,?_⟩⟩;have s9:=dP s7 sb9 nla;have tk9:=iC sb9 lf7;have hPr9:=sb9 _ _ PrA hPr7;have hSo9:=sb9 _ _ SoA hSo7;have hlm9:=sb9 _ _ lmA hlm7;refine ite2 (λ_=>⟨_,rfl,_,rfl,?_⟩) (λ_=>hN' _ _ ⟨us,_,_,rfl,s9,lf9,hPr9,hSo9,hlm9,λv hv=>(uok v hv).keep tk9,by omega⟩);cases bf with
    |false=>exact iteF (hN' _ _ ⟨us,_,_,rfl,s9,lf9,hPr9,hSo9,hlm9,λv hv=>(uok v hv).keep tk9,by omega⟩)
    |true=>
     refine iteT ⟨_,rfl,.inl ⟨rfl,_,SqL.of hPr9⟩,_,rfl,_,rfl,So,_,_,_,rfl,rfl,SqL.of hSo9,hx,_,rfl,_,rfl,So,_,_,_,rfl,rfl,SqL.of hSo9,hy,zLn2,λz nz=>?_⟩;have sz:=Same.upd (o:=.tup [.str x,.str y]) nz;have hPrz:=sz _ _ hPr9;have zP:z≠Pr:=(aI hPr9 nz).symm;have tkz:Tk H9 (upd (upd H9 z (.tup [.str x,.str y])) Pr (.lst (us++[.ref z]))):=sz.tk.trans (Tk.lst hPrz);refine ⟨Pr,_,_,rfl,rfl,hPrz,aP (by omega),hN' _ _ ⟨us++[.ref z],_,_,rfl,sm_own (s9.trans sz) nPr0,(lf9.keep sz).own PrA,aB,by rw [aE SoP];exact sz _ _ hSo9,by rw [aE PrM.symm];exact sz _ _ hlm9,λv hv=>?_,by rw [Aq];show us.length+1<=_;omega⟩⟩
     rcases Av.mp hv with hv|hv
     ·exact ((uok v hv).keep tk9).keep tkz
     ·rw [Al.mp hv]
      exact ⟨(x,y),⟨wx,wy⟩,z,rfl,by rw [aE zP];exact aB⟩
   ·intro σ H7 hh
    obtain ⟨us,v9,v10,rfl,s7,lf7,hPr7,hSo7,hlm7,uok,ul⟩:=hh;have le:((6:Int)-((j:Int)+1)).toNat<=6:=by omega
    exact hN _ _ ⟨us,_,_,_,rfl,s7,lf7,hPr7,hSo7,hlm7,uok,by omega⟩
  ·intro σ H6 hh
   obtain ⟨us,v8,v9,v10,rfl,s6,lf6,hPr6,hSo6,hlm6,uok,ul⟩:=hh;refine ⟨_,rfl,Pr,_,rfl,.inl ⟨SqL.of hPr6,λq nq=>?_⟩⟩;have sq:=Same.upd (o:=.tup us) nq;exact k q us _ (s6.trans sq) aB λv hv=>(uok v hv).keep sq.tk
end
section
variable {P:AF}{w:World}{K:Ab}{mg:Str->Option Value}{base:Heap}
def bO:FnScope ["_law_script","_law_root_here","_law_wares_here","_law_rooms","_law_phials","_law_number","_law_k","_law_drawn","_law_much_here","_law_ware","_law_names_here","_law_held","_law_mine","_law_pairs","_law_some","_law_j","_law_free"] ["_law_script","_law_root_here","_law_wares_here"] (aJ sStand):=fnScOk (by decide +kernel)
def aAi {f:Addr}{fd:AM}(F:Fun K "_law_stand" "_law_stand" sStand f fd)(T:Txt mg)(cC:Cal P w K mg base CX0 3 "_law_cell_at" ["_law_script","_law_k"] (gU K))(cM:Cal P w K mg base CX0 3 "_law_mixed" ["_law_cell","_law_k"] gG)(cA:Cal P w K mg base CX0 3 "_law_add" ["_law_one","_law_other"] vD)(cB:Cal P w K mg base CX0 3 "_law_by" ["_law_one","_law_other"] spBy)
  (cF:Cal P w K mg base CX0 3 "_law_free_stand" ["_law_script","_law_root_here","_law_wares_here"] (lK K)) (cP:Cal P w K mg base CX0 3 "_law_free_pairs" ["_law_script","_law_root_here","_law_wares_here"] (pP K)) (cW:Cal P w K mg base CX0 3 "_law_wares_in" ["_law_root_here"] eR):FnOk P w K mg base CX0 4 f fd ["_law_script","_law_root_here","_law_wares_here"] (pH K):=by
 refine F.ok bO (λvs H Q E h=>?_) (λcdv A outer s H vs Q E hr h=>?_)
 ·obtain ⟨_,_,_,_,_,_,_,_,_,_,_,_,_,rfl,_⟩:=h
  rfl
 ·obtain ⟨a,t,m,wa,ns,u1,u2,us',n,ch,nm,W,ws,rfl,hS,rt,tn,hw,w6,wW,k⟩:=h
  refine ⟨_,(aD (bK (aM cV (aN bM (aL cC hr rfl aS (aA (pv 0) (aA aG aC))) aG) aG (aV _)) (aD (kL (aL cF hr rfl aS (aA (pv 0) (aA (pv 1) (aA (pv 2) aC)))) (fX rfl (bJ (aR (i:=3) bO.nd rfl (Or.inl rfl)) (bJ (aR (i:=4) bO.nd rfl (Or.inl rfl)) eI))))
   (aH (aU (aT (aA (aT (aA (pv 3) (aA (aL cP hr rfl aS (aA (pv 0) (aA (pv 1) (aA (pv 2) aC)))) aC))) (aA (pv 4) aC)))))) aY)
   (aD (aK (i:=5) bO.nd rfl (Or.inl rfl) (aL cM hr rfl aS (aA (aL cC hr rfl aS (aA (pv 0) (aA aG aC))) (aA aG aC))))
   (aD (aK (i:=3) bO.nd rfl (Or.inl rfl) (bC aC))
   (aD (aK (i:=4) bO.nd rfl (Or.inl rfl) (bC aC))
   (aD (bP AQ rfl (bT rfl T.range (aA (aN bF aG (aN bM (pv 5) aG)) aC)) (aR (i:=6) bO.nd rfl (Or.inl rfl)) (aD (aK (i:=7) bO.nd rfl (Or.inl rfl) (aL cM hr rfl aS (aA (aL cC hr rfl aS (aA (pv 0) (aA aG aC))) (aA (aN bF aG (pv 6)) aC))))
   (aD (aK (i:=8) bO.nd rfl (Or.inl rfl) (bE aW (bC (aA (pit 1 2) (aA (pit 1 2) (aA (aL cA hr rfl aS (aA (pit 1 2) (aA (aT (aA aG (aA aG aC))) aC))) (aA (aL cB hr rfl aS (aA (pit 1 2) (aA (aT (aA aG (aA aG aC))) aC))) (aA (aT (aA (aN jG aG aG) (aA aG aC))) aC)))))) (aN bM (pv 7) aG) (λ_ _=>rfl)))
   (aD (aK (i:=9) bO.nd rfl (Or.inl rfl) (bE aW (pv 2) (aN bM (aN bN (pv 7) aG) aG) (λ_ _=>rfl)))
   (aD (aK (i:=10) bO.nd rfl (Or.inl rfl) (bE aW (bC (aA (aT aC) (aA (aT (aA (pv 9) aC)) aC))) (bY yK rfl T.int' aCf (aA (cZ cV (aN bM (aN bN (pv 7) aG) aG) aG (aV _)) aC)) (λ_ _=>rfl)))
   (aD (aK (i:=11) bO.nd rfl (Or.inl rfl) (aT aC))
   (aD (bK (aM cV (aN bM (aN bN (pv 7) aG) aG) aG (aV _)) (aD (aK (i:=11) bO.nd rfl (Or.inl rfl) (aT (aA (aT (aA (pv 9) (aA (aL cB hr rfl aS (aA (pv 8) (aA (aT (aA aG (aA aG aC))) aC))) aC))) aC)))
   (aH (aK (i:=10) bO.nd rfl (Or.inl rfl) (aT (aA (pv 9) aC))))) aY)
   (aD (bB (cO Ak AB AA aX (pv 3) (aA (pv 8) aC)))
   (aH (bB (cO Ak AB AA aX (pv 4) (aA (aT (aA (pv 11) (aA (pv 10) aC))) aC))))))))))))
   (aD (aK (i:=12) bO.nd rfl (Or.inl rfl) (aL cW hr rfl aS (aA (pv 1) aC)))
   (aD (aK (i:=13) bO.nd rfl (Or.inl rfl) (bC aC))
   (aD (aK (i:=14) bO.nd rfl (Or.inl rfl) (aQ kZ rfl T.sorted' boot_sorted (aA (pv 2) aC)))
   (aD (bP AQ rfl (bT rfl T.range (aA aG aC)) (aR (i:=15) bO.nd rfl (Or.inl rfl)) (aH (bP AQ rfl (iZ rfl T.range (aA (aN bF (pv 15) aG) (aA aG aC))) (aR (i:=6) bO.nd rfl (Or.inl rfl)) (aD (aK (i:=16) bO.nd rfl (Or.inl rfl) (zV (cZ dQ (bE aW (pv 14) (pv 15) (λ_ _=>rfl)) (pv 12) rfl) (zV (cZ dQ (bE aW (pv 14) (pv 6) (λ_ _=>rfl)) (pv 12) rfl) (kO (cZ cV (aN bM (aL cC hr rfl aS (aA (pv 0) (aA aG aC))) aG) aG (aV _))))))
   (aH (bK (PW.pt (gX (eP (pv 16)) (eS (aM cV (aN bM (aL cM hr rfl aS (aA (aL cC hr rfl aS (aA (pv 0) (aA aG aC))) (aA (aN bF (aN cQ aG (pv 15)) (pv 6)) aC))) aG) aG (aV _))))) (aH (bB (cO Ak AB AA aX (pv 13) (aA (aT (aA (bE aW (pv 14) (pv 15) (λ_ _=>rfl)) (aA (bE aW (pv 14) (pv 6) (λ_ _=>rfl)) aC))) aC)))) aY))))))
   (aH (aU (aT (aA (aT (aA (bY cE rfl T.tup' eN (aA (pv 3) aC)) (aA (bY cE rfl T.tup' eN (aA (pv 13) aC)) aC))) (aA (pv 4) aC)))))))))))))),?_⟩
  refine aHm ?_
  intros
  refine ⟨_,rfl,a,ns,0,rfl,hS,by decide,λc=>⟨_,_,rfl,rfl,(by show (0:Int)<2;decide),rfl,_,rfl,ite2 (λ_=>?_) (λ_=>?_)⟩⟩
  ·refine ⟨_,rfl,_,rfl,_,rfl,a,t,m,wa,ns,u1,u2,us',n,ws,rfl,hS,rt,hw,w6,λp r l rs vs H1 s1 nl hp hr' rok hl pok e l8=>?_⟩
   refine ⟨p,_,rfl,SqT.of hp,rfl,_,_,rfl,_,_,rfl,rfl,?_⟩;refine ⟨_,rfl,_,rfl,_,rfl,_,rfl,a,wa,.ref t,ns,ch,nm,W,ws,rfl,s1.seq hS,tn.keep s1.tk,s1 _ _ hw,w6,wW,λq us H2 s2 hq uok=>⟨zLn2,λb nb=>⟨_,rfl,zLn2,λz nz=>?_⟩⟩⟩;have t1:=Same.upd (o:=.tup [.ref r,.ref q]) nb;have t2:=Same.upd (o:=.tup [.ref b,.ref l]) nz;have t:=s2.trans (t1.trans t2);obtain ⟨rv,ps,es,sd⟩:=aE4 (b:=b) (r:=r) (q:=q) (l:=l) (t2 _ _ aB) (t _ _ hr') ((t1.trans t2) _ _ hq) (t _ _ hl) (λv hv=>(rok v hv).keep t.tk) (λv hv=>(pok v hv).keep t.tk) (λv hv=>(uok v hv).keep (t1.trans t2).tk) e l8;exact k z b r q l rs us vs rv ps es _ (s1.trans t) nl aB sd
  ·refine ⟨_,rfl,a,ns,1,rfl,hS,by decide,λc1=>⟨c1,9,rfl,by decide,by decide,λnu nu0 nul=>?_⟩⟩
   refine ⟨zLn0,λRo nRo=>?_⟩;have sR:=Same.upd (o:=.lst []) nRo;have hRo1:upd H Ro (.lst []) Ro=some (.lst []):=aB;generalize upd H Ro (.lst [])=H1 at sR hRo1 ⊢;refine ⟨zLn0,λPl nPl=>?_⟩;have sP:=Same.upd (o:=.lst []) nPl;have hPl1:upd H1 Pl (.lst []) Pl=some (.lst []):=aB;have nPl0:H Pl=none:=sR.free nPl;have hRo2:=sP _ _ hRo1;have RP:Ro≠Pl:=aI hRo1 nPl;have s2:=sR.trans sP;generalize upd H1 Pl (.lst [])=H2 at hPl1 hRo2 s2 ⊢;obtain ⟨md0,md8⟩:=bV nu (m:=8) (by decide);refine ⟨_,rfl,_,_,rfl,rfl,(by show (0:Int)<8;decide),_,_,rfl,rfl,_,rfl,by omega,by omega,?_⟩;refine dD (λi σ H'=>∃ (rs vs:List V) (v6 v7 v8 v9 v10 v11:Option V),σ=[some (.ref a),some (.ref t),some (.ref wa),some (.ref Ro),some (.ref Pl),some (.int nu),v6,v7,v8,v9,v10,v11,none,none,none,none,none]/\Same H H'/\H' Ro=some (.lst rs)/\H' Pl=some (.lst vs)/\(∀ v∈rs,RmE H' v)/\(∀ v∈vs,PhE H' v)/\rs.length=i/\vs.length=i)
    ⟨[],[],none,none,none,none,none,none,rfl,s2,hRo2,hPl1,(λ_ h=>nomatch h),(λ_ h=>nomatch h),rfl,rfl⟩ ?_ ?_
   ·intro i σ H5 D hN hi hh
    obtain ⟨rs,vs,v6,v7,v8,v9,v10,v11,rfl,s5,hRo5,hPl5,rok,pok,rl,vl⟩:=hh;have i8:i<8:=by
     have:i<((1:Int)+nu%8).toNat:=hi;omega
    have rt5:=rt.keep s5.tk;have n1:=rt.n1;have n2:=rt.n2;refine ⟨_,rfl,a,ns,1,rfl,s5.seq hS,by decide,λc2=>⟨_,rfl,_,_,rfl,rfl,c2,_,rfl,by omega,by omega,λdr dr0 drl=>?_⟩⟩;refine ⟨t,_,_,rfl,SqT.of rt5.ht,rfl,t,_,_,rfl,SqT.of rt5.ht,rfl,t,_,_,rfl,SqT.of rt5.ht,rfl,zLn2,λz0 nz0=>?_⟩;have t0:=Same.upd (o:=.tup [.int 1,.int 7]) nz0;refine ⟨m,z0,n,1,rfl,rt5.am.keep t0.tk,⟨1,7,aB,by decide,by decide,cG 63 (c:=2000) (by decide) (by decide),cG 63 (c:=2000) (by decide) (by decide)⟩,n1,by decide,by omega,λq1 H9 s9' nq1 am1=>?_⟩;have s9:=t0.trans s9';have rt9:=rt5.keep s9.tk;refine ⟨t,_,_,rfl,SqT.of rt9.ht,rfl,zLn2,λz1 nz1=>?_⟩;have t1:=Same.upd (o:=.tup [.int 999,.int 1000]) nz1;refine ⟨m,z1,n,1,rfl,rt9.am.keep t1.tk,⟨999,1000,aB,by decide,by decide,cG 63 (c:=2000) (by decide) (by decide),cG 63 (c:=2000) (by decide) (by decide)⟩,n1,by decide,by omega,λq2 HA sA nq2 am2=>?_⟩;have t2:=t1.trans sA;refine ⟨_,_,rfl,rfl,⟨by decide,by decide,bk⟩,zLn2,λz2 nz2=>?_⟩;have t3:=Same.upd (o:=.tup [.int ((10:Int)^BP 20),.int 1]) nz2;have am3:Am (upd HA z2 (.tup [.int ((10:Int)^BP 20),.int 1])) z2 2:=⟨_,_,aB,by rw [e20];decide,by decide,by rw [e20];exact cG 127 (c:=100000000000000000001) (by decide) (by decide),cG 127 (c:=2) (by decide) (by decide)⟩;refine ⟨zLn5,λso nso=>?_⟩;have t4:=Same.upd (o:=.lst [.ref m,.ref m,.ref q1,.ref q2,.ref z2]) nso;have hso:upd (upd HA z2 (.tup [.int ((10:Int)^BP 20),.int 1])) so (.lst [.ref m,.ref m,.ref q1,.ref q2,.ref z2]) so=some (.lst [.ref m,.ref m,.ref q1,.ref q2,.ref z2]):=aB;have tAll:Same H5 (upd (upd HA z2 (.tup [.int ((10:Int)^BP 20),.int 1])) so (.lst [.ref m,.ref m,.ref q1,.ref q2,.ref z2])):=s9.trans (t2.trans (t3.trans t4));have all5:∀ v∈[V.ref m,.ref m,.ref q1,.ref q2,.ref z2],RmE (upd (upd HA z2 (.tup [.int ((10:Int)^BP 20),.int 1])) so (.lst [.ref m,.ref m,.ref q1,.ref q2,.ref z2])) v:=λv hv=>by
     rcases Aw.mp hv with e|hv
     ·exact ⟨m,e,(rt5.am.keep tAll.tk).mono (by omega)⟩
     rcases Aw.mp hv with e|hv
     ·exact ⟨m,e,(rt5.am.keep tAll.tk).mono (by omega)⟩
     rcases Aw.mp hv with e|hv
     ·exact ⟨q1,e,(am1.keep (t2.trans (t3.trans t4)).tk).mono (by omega)⟩
     rcases Aw.mp hv with e|hv
     ·exact ⟨q2,e,(am2.keep (t3.trans t4).tk).mono (by omega)⟩
     ·exact ⟨z2,Al.mp hv,(am3.keep t4.tk).mono (by omega)⟩
    generalize upd (upd HA z2 (.tup [.int ((10:Int)^BP 20),.int 1])) so (.lst [.ref m,.ref m,.ref q1,.ref q2,.ref z2])=HB at hso tAll all5 ⊢;have sB:=s5.trans tAll;obtain ⟨m50,m5l⟩:=bV dr (m:=5) (by decide);obtain ⟨k3,hk3⟩:=Bc m50;obtain ⟨x3,hx3⟩:∃ x,[V.ref m,.ref m,.ref q1,.ref q2,.ref z2][k3]?=some x:=⟨_,Af (by show k3<5;omega)⟩;obtain ⟨m3,rfl,am3⟩:=all5 x3 (AJ hx3);refine ⟨_,rfl,_,_,rfl,rfl,(by show (0:Int)<5;decide),so,_,_,.ref m3,rfl,rfl,SqL.of hso,(by rw [hk3];exact aZ hx3),?_⟩;obtain ⟨m60,m6l⟩:=bV (dr/64) (m:=6) (by decide);obtain ⟨k4,hk4⟩:=Bc m60;obtain ⟨x4,hx4⟩:∃ x,ws[k4]?=some x:=⟨_,Af (by omega)⟩;refine ⟨_,rfl,_,rfl,_,_,rfl,rfl,⟨by decide,b9⟩,_,_,rfl,rfl,(by show (0:Int)<6;decide),wa,_,_,.str x4,rfl,rfl,SqL.of (sB _ _ hw),(by rw [hk4];exact aZ (by rw [Aj,hx4];rfl)),?_⟩;refine ⟨zLn0,λa1 na1=>⟨_,rfl,zLn1,λa2 na2=>⟨zLn2,λa3 na3=>?_⟩⟩⟩;have g1:=Same.upd (o:=.tup []) na1;have g2:=Same.upd (o:=.tup [.str x4]) na2;have g3:=Same.upd (o:=.lst [.ref a1,.ref a2]) na3;have g13:=g1.trans (g2.trans g3);have ha1:upd (upd (upd HB a1 (.tup [])) a2 (.tup [.str x4])) a3 (.lst [.ref a1,.ref a2]) a1=some (.tup []):=(g2.trans g3) _ _ aB;have ha2:upd (upd (upd HB a1 (.tup [])) a2 (.tup [.str x4])) a3 (.lst [.ref a1,.ref a2]) a2=some (.tup [.str x4]):=g3 _ _ aB;have ha3:upd (upd (upd HB a1 (.tup [])) a2 (.tup [.str x4])) a3 (.lst [.ref a1,.ref a2]) a3=some (.lst [.ref a1,.ref a2]):=aB;generalize upd (upd (upd HB a1 (.tup [])) a2 (.tup [.str x4])) a3 (.lst [.ref a1,.ref a2])=HC at g13 ha1 ha2 ha3 ⊢;refine ⟨_,rfl,_,_,rfl,rfl,⟨by decide,b9⟩,_,_,rfl,rfl,(by show (0:Int)<4;decide),rfl,.inr ⟨_,rfl,?_⟩⟩;have nam:∃ na nl',atI [V.ref a1,.ref a2] (if decide (V.int (dr/8%4)=V.int 0)=true then 1 else 0)=some (.ref na)/\HC na=some (.tup nl'):=by
     split
     ·exact ⟨a2,_,rfl,ha2⟩
     ·exact ⟨a1,_,rfl,ha1⟩
    obtain ⟨na,nl',hat,hna⟩:=nam;refine ⟨a3,_,_,.ref na,rfl,rfl,SqL.of ha3,hat,?_⟩;refine ⟨zLn0,λa4 na4=>?_⟩;have g4:=Same.upd (o:=.tup []) na4;have ha4:upd HC a4 (.tup []) a4=some (.tup []):=aB;have g14:=g13.trans g4;have hna4:=g4 _ _ hna;generalize upd HC a4 (.tup [])=HD at g14 ha4 hna4 ⊢;have sD:=sB.trans g14;dsimp only [dW];refine fU (λσ' H'=>∃ (hd nb:Addr) (hs nl':List V),σ'=[some (.ref a),some (.ref t),some (.ref wa),some (.ref Ro),some (.ref Pl),some (.int nu),some (.int ((0:Int)+(i:Int))),some (.int dr),some (.ref m3),some (.str x4),some (.ref nb),some (.ref hd),none,none,none,none,none]/\Same HD H'/\H' hd=some (.tup hs)/\H' nb=some (.tup nl')) (λσ' HE hh=>?_) (λN hN2=>?_)
    rotate_left
    ·refine ⟨_,rfl,_,_,rfl,rfl,⟨by decide,b9⟩,_,_,rfl,rfl,(by show (0:Int)<5;decide),rfl,_,rfl,ite2 (λ_=>?_) (λ_=>hN2 _ _ ⟨a4,na,_,_,rfl,Same.refl _,ha4,hna4⟩)⟩
     refine ⟨_,rfl,_,rfl,zLn2,λz5 nz5=>?_⟩;have tF:=Same.upd (o:=.tup [.int 1,.int 2]) nz5;refine ⟨m3,z5,101,1,rfl,(am3.keep g14.tk).keep tF.tk,⟨1,2,aB,by decide,by decide,cG 63 (c:=2000) (by decide) (by decide),cG 63 (c:=2000) (by decide) (by decide)⟩,by decide,by decide,by decide,λq5 HG sG nq5 am5=>⟨zLn2,λz6 nz6=>⟨zLn1,λhd nhd=>⟨_,rfl,zLn1,λnb nnb=>?_⟩⟩⟩⟩;have k1:=Same.upd (o:=.tup [.str x4,.ref q5]) nz6;have k2:=Same.upd (o:=.tup [.ref z6]) nhd;have k3':=Same.upd (o:=.tup [.str x4]) nnb;exact hN2 _ _ ⟨hd,nb,_,_,rfl,(tF.trans sG).trans (k1.trans (k2.trans k3')),k3' _ _ aB,aB⟩
    obtain ⟨hd,nb,hs,nl',rfl,sE,hhd,hnb⟩:=hh;have sHE:=sD.trans sE;have s5E:Same H5 HE:=tAll.trans (g14.trans sE);have hRoE:=s5E _ _ hRo5;have hPlE:=s5E _ _ hPl5;refine ⟨_,rfl,.inl ⟨rfl,_,SqL.of hRoE⟩,_,rfl,Ro,_,_,rfl,rfl,hRoE,aP (by omega),?_⟩;have tkF:Tk HE (upd HE Ro (.lst (rs++[.ref m3]))):=Tk.lst hRoE;have hRoF:upd HE Ro (.lst (rs++[.ref m3])) Ro=some (.lst (rs++[.ref m3])):=aB;have hPlF:upd HE Ro (.lst (rs++[.ref m3])) Pl=some (.lst vs):=by rw [aE RP.symm];exact hPlE
    have sF:Same H (upd HE Ro (.lst (rs++[.ref m3]))):=sm_own sHE nRo;generalize upd HE Ro (.lst (rs++[.ref m3]))=HF at tkF hRoF hPlF sF ⊢;refine ⟨_,rfl,.inl ⟨rfl,_,SqL.of hPlF⟩,_,rfl,_,rfl,zLn2,λz9 nz9=>?_⟩;have t9:=Same.upd (o:=.tup [.ref hd,.ref nb]) nz9;have hPl9:=t9 _ _ hPlF;have z9P:z9≠Pl:=(aI hPlF nz9).symm;refine ⟨Pl,_,_,rfl,rfl,hPl9,aP (by omega),?_⟩;have tkG:Tk HF (upd (upd HF z9 (.tup [.ref hd,.ref nb])) Pl (.lst (vs++[.ref z9]))):=t9.tk.trans (Tk.lst hPl9);have tk5G:Tk H5 (upd (upd HF z9 (.tup [.ref hd,.ref nb])) Pl (.lst (vs++[.ref z9]))):=(s5E.tk.trans tkF).trans tkG;refine hN _ _ ⟨rs++[.ref m3],vs++[.ref z9],_,_,_,_,_,_,rfl,sm_own (sF.trans t9) nPl0,by rw [aE RP];exact t9 _ _ hRoF,aB,λv hv=>?_,λv hv=>?_,by simp [rl],by simp [vl]⟩
    ·rcases Av.mp hv with hv|hv
     ·exact (rok v hv).keep tk5G
     ·rw [Al.mp hv]
      exact ⟨m3,rfl,((am3.keep (g14.trans sE).tk).keep tkF).keep tkG⟩
    ·rcases Av.mp hv with hv|hv
     ·exact (pok v hv).keep tk5G
     ·rw [Al.mp hv]
      exact ⟨hs.isEmpty,z9,hd,nb,hs,nl',rfl,by rw [aE z9P];exact aB,tkG _ _ (tkF _ _ hhd),rfl,tkG _ _ (tkF _ _ hnb)⟩
   ·intro σ H5 hh
    obtain ⟨rs,vs,v6,v7,v8,v9,v10,v11,rfl,s5,hRo5,hPl5,rok,pok,rl,vl⟩:=hh;have rl8:rs.length<=8:=by
     have:rs.length=((1:Int)+nu%8).toNat:=rl;omega
    have vrl:vs.length=rs.length:=by rw [rl,vl]
    have tn5:=tn.keep s5.tk;refine ⟨_,rfl,.ref t,ch,nm,W,rfl,tn5.hn,tn5.sz,tn5.nw,tn5.w6,λmi lm H6 s6 nlm hlm _=>?_⟩;refine ⟨zLn0,λPr nPr=>?_⟩;have sP':=Same.upd (o:=.lst []) nPr;have s56:=s6.trans sP';have nPr0:H Pr=none:=(s5.trans s6).free nPr;have nPr5:H5 Pr=none:=s6.free nPr;have hPr4:upd H6 Pr (.lst []) Pr=some (.lst []):=aB;have hlm4:=sP' _ _ hlm;have PrM:Pr≠lm:=(aI hlm nPr).symm;generalize upd H6 Pr (.lst [])=H7 at s56 hPr4 hlm4 ⊢;refine ⟨_,rfl,wa,ws,rfl,SqL.of ((s5.trans s56) _ _ hw),by omega,λSo ss pm _ nSo=>?_⟩;have l6:ss.length=6:=by rw [pm.length_eq,w6]
    have sW:∀ x∈ss,Wr x:=λx hx=>wW x (pm.mem_iff.mp hx);have sS:=Same.upd (o:=.lst (ss.map V.str)) nSo;have SoP:So≠Pr:=(aI hPr4 nSo).symm;have hSo5:upd H7 So (.lst (ss.map V.str)) So=some (.lst (ss.map V.str)):=aB;have hPr5:=sS _ _ hPr4;have hlm5:=sS _ _ hlm4;have s58:=s56.trans sS;generalize upd H7 So (.lst (ss.map V.str))=H8 at hSo5 hPr5 hlm5 s58 ⊢;refine ⟨_,rfl,by decide,by decide,?_⟩;refine dD (λj σ H'=>∃ (us:List V) (w6 v15 v16:Option V),σ=[some (.ref a),some (.ref t),some (.ref wa),some (.ref Ro),some (.ref Pl),some (.int nu),w6,v7,v8,v9,v10,v11,some (.ref lm),some (.ref Pr),some (.ref So),v15,v16]/\Same H5 H'/\H' Pr=some (.lst us)/\H' So=some (.lst (ss.map V.str))/\H' lm=some (.lst (mi.map V.str))/\(∀ v∈us,PrE H' v)/\us.length<=6*j)
     ⟨[],_,none,none,rfl,s58,hPr5,hSo5,hlm5,(λ_ h=>nomatch h),Bi _⟩ ?_ ?_
    ·intro j σ H9 D hN hj hh
     obtain ⟨us,w6',v15,v16,rfl,s9,hPr6,hSo6,hlm6,uok,ul⟩:=hh;have j6:j<6:=by simpa using hj
     have e0:(0:Int)+(j:Int)=(j:Int):=by omega
     rw [e0];refine ⟨_,rfl,_,_,rfl,rfl,_,_,rfl,⟨by omega,by omega,by omega,by omega⟩,?_⟩;refine dD (λi σ H'=>∃ (us:List V) (w6 v16:Option V),σ=[some (.ref a),some (.ref t),some (.ref wa),some (.ref Ro),some (.ref Pl),some (.int nu),w6,v7,v8,v9,v10,v11,some (.ref lm),some (.ref Pr),some (.ref So),some (.int (j:Int)),v16]/\Same H5 H'/\H' Pr=some (.lst us)/\H' So=some (.lst (ss.map V.str))/\H' lm=some (.lst (mi.map V.str))/\(∀ v∈us,PrE H' v)/\us.length<=6*j+i)
      ⟨us,w6',v16,rfl,s9,hPr6,hSo6,hlm6,uok,by omega⟩ ?_ ?_
     ·intro i σ HA D' hN' hi hh
      obtain ⟨us,w6',v16,rfl,sA,hPr7,hSo7,hlm7,uok,ul⟩:=hh;have i6:j+1+i<6:=by
       have:i<((6:Int)-((j:Int)+1)).toNat:=hi;omega
      have e1:(j:Int)+1+(i:Int)=((j+1+i:Nat):Int):=by omega
      rw [e1];obtain ⟨x,wx,hx⟩:=at6 (ss:=ss) (i:=j) (by omega) sW;obtain ⟨y,wy,hy⟩:=at6 (ss:=ss) (i:=j+1+i) (by omega) sW;dsimp only [dW];refine fU (λσ' H'=>∃ bf:Bool,σ'=[some (.ref a),some (.ref t),some (.ref wa),some (.ref Ro),some (.ref Pl),some (.int nu),some (.int ((j+1+i:Nat):Int)),v7,v8,v9,v10,v11,some (.ref lm),some (.ref Pr),some (.ref So),some (.int (j:Int)),some (.bl bf)]/\H'=HA) (λσ' HB hh=>?_) (λN hN2=>?_)
      rotate_left
      ·refine ⟨_,rfl,_,rfl,So,_,_,_,rfl,rfl,SqL.of hSo7,hx,_,rfl,lm,_,rfl,.inl (SqL.of hlm7),rfl,cI mi,_,rfl,ite2 (λ_=>hN2 _ _ ⟨true,rfl,rfl⟩) (λ_=>?_)⟩
       refine ⟨_,rfl,_,rfl,So,_,_,_,rfl,rfl,SqL.of hSo7,hy,_,rfl,lm,_,rfl,.inl (SqL.of hlm7),rfl,cI mi,_,rfl,ite2 (λ_=>hN2 _ _ ⟨true,rfl,rfl⟩) (λ_=>?_)⟩;exact ⟨_,rfl,a,ns,1,rfl,(s5.trans sA).seq hS,by decide,λc5=>⟨_,_,rfl,rfl,(by show (0:Int)<7;decide),rfl,hN2 _ _ ⟨_,rfl,rfl⟩⟩⟩
      obtain ⟨bf,rfl,rfl⟩:=hh;refine ⟨_,rfl,_,rfl,?_⟩;cases bf with
      |false=>exact iteF (hN' _ _ ⟨us,_,_,rfl,sA,hPr7,hSo7,hlm7,uok,by omega⟩)
      |true=>
       have bj:Bt 64 (j:Int):=cG 64 (c:=100) (by omega) (by omega);refine iteT ⟨_,rfl,a,ns,2,rfl,(s5.trans sA).seq hS,by decide,λc5=>⟨_,rfl,_,_,rfl,rfl,⟨bl,b6 bj⟩,_,rfl,_,_,rfl,rfl,c5,_,rfl,by omega,by omega,λdr dr0 drl=>⟨_,_,rfl,rfl,(by show (0:Int)<2;decide),rfl,_,rfl,ite2 (λ_=>?_) (λ_=>hN' _ _ ⟨us,_,_,rfl,sA,hPr7,hSo7,hlm7,uok,by omega⟩)⟩⟩⟩;refine ⟨_,rfl,.inl ⟨rfl,_,SqL.of hPr7⟩,_,rfl,_,rfl,So,_,_,_,rfl,rfl,SqL.of hSo7,hx,_,rfl,_,rfl,So,_,_,_,rfl,rfl,SqL.of hSo7,hy,zLn2,λz nz=>?_⟩;have sz:=Same.upd (o:=.tup [.str x,.str y]) nz;have hPrz:=sz _ _ hPr7;have zP:z≠Pr:=(aI hPr7 nz).symm;have tkz:Tk HB (upd (upd HB z (.tup [.str x,.str y])) Pr (.lst (us++[.ref z]))):=sz.tk.trans (Tk.lst hPrz);refine ⟨Pr,_,_,rfl,rfl,hPrz,aP (by omega),hN' _ _ ⟨us++[.ref z],_,_,rfl,sm_own (sA.trans sz) nPr5,aB,by rw [aE SoP];exact sz _ _ hSo7,by rw [aE PrM.symm];exact sz _ _ hlm7,λv hv=>?_,by rw [Aq];show us.length+1<=_;omega⟩⟩
       rcases Av.mp hv with hv|hv
       ·exact (uok v hv).keep tkz
       ·rw [Al.mp hv]
        exact ⟨(x,y),⟨wx,wy⟩,z,rfl,by rw [aE zP];exact aB⟩
     ·intro σ HA hh
      obtain ⟨us,w6',v16,rfl,sA,hPr7,hSo7,hlm7,uok,ul⟩:=hh;have le:((6:Int)-((j:Int)+1)).toNat<=6:=by omega
      exact hN _ _ ⟨us,_,_,_,rfl,sA,hPr7,hSo7,hlm7,uok,by omega⟩
    ·intro σ H9 hh
     obtain ⟨us,w6',v15,v16,rfl,s9,hPr6,hSo6,hlm6,uok,ul⟩:=hh;refine ⟨_,rfl,Ro,_,rfl,.inl ⟨SqL.of (s9 _ _ hRo5),λr nr=>?_⟩⟩;have t1:=Same.upd (o:=.tup rs) nr;refine ⟨_,rfl,Pr,_,rfl,.inl ⟨SqL.of (t1 _ _ hPr6),λq nq=>⟨zLn2,λb nb=>⟨_,rfl,zLn2,λz nz=>?_⟩⟩⟩⟩;have t2:=Same.upd (o:=.tup us) nq;have t3:=Same.upd (o:=.tup [.ref r,.ref q]) nb;have t4:=Same.upd (o:=.tup [.ref b,.ref Pl]) nz;have t:=t1.trans (t2.trans (t3.trans t4));have s9t:=s9.trans t;obtain ⟨rv,ps,es,sd⟩:=aE4 (b:=b) (r:=r) (q:=q) (l:=Pl) (t4 _ _ aB) ((t2.trans (t3.trans t4)) _ _ aB) ((t3.trans t4) _ _ aB) (s9t _ _ hPl5) (λv hv=>(rok v hv).keep s9t.tk) (λv hv=>(pok v hv).keep s9t.tk) (λv hv=>(uok v hv).keep t.tk) vrl rl8;exact k z b r q Pl rs us vs rv ps es _ (s5.trans s9t) nPl0 aB sd
end
end K45
namespace L2
open PySem PySem.Spec PyProof.Rows PySem.W
def uJ {X:Cx}:eX X (.builtin "isinstance") (λxs H Q=>∃ (a C:Addr) (dd:Option Addr) (tp:Addr) (cs:List Addr) (b:Bool),xs=[.ref a,.ref tp]/\H a=some (excD a C dd)/\ExK X.K C/\H tp=some (.tup (cs.map V.ref))/\kitAny X.K (.ref C) (cs.map AN)=some b/\Q (.bl b) H):=by
 intro pins s σ H xs us Q I r h;obtain ⟨a,C,dd,tp,cs,b,rfl,hH,F,htp,hk,q⟩:=h;obtain ⟨u,w',rfl,rx,ry⟩:=vals2 r;cases rx;cases ry;obtain ⟨⟨o,hi,_⟩,_⟩:=I.hok a _ hH;obtain ⟨its,r2,⟨⟨cls,dd2,data,sl⟩,ho,hc,n,hd⟩,_⟩:=I.tuple (SqT.of htp);simp only at hc hd;subst hc hd;obtain rfl:=pV r2;exact kia_tup (rY F) I.kIn hi ho hk (by intro z;cases z) λtk=>⟨.bl b,H,I.tok _,rfl,q⟩
def any3 {K:Ab}{t:Value}{a b c:Addr}(ha:kitOne K t (.ref a)=some false)(hb:kitOne K t (.ref b)=some false)(hc:kitOne K t (.ref c)=some false):kitAny K t ([a,b,c].map AN)=some false:=by
 simp [kitAny,ha,hb,hc]
def tTryN (K:Frag)(Dc:Addr)(tb:St->XK->TS)(th:TS):TS:=λD σ H=>tb σ (λcls _ H'=>∃ C,cls=.ref C/\ExK K C/\subIn K (.ref C) (.ref Dc)=some true/\th D σ H') D σ H
section
variable {X:Cx}
end
end L2
namespace L2
open PySem PySem.Spec PyProof.Rows PySem.W PySem.Builtin PySem.Builtin.ObjectAttr
section
variable {X:Cx}{o value:Expr}{x:Str}{pos pos':Pos}{ta tv:TE}{C P f:Addr}
def sExM (K:Frag)(C P f:Addr)(ta tv:TE)(x:Str):TS:=λD σ H=>tv σ H λy H1=>ta σ H1 λz H2=>∃ a dx fs,z=.ref a/\H2 a=some (exN a C (some dx))/\H2 dx=some (xdE dx fs)/\fs.length<=90/\ExF K C P f x /\
 D.nx σ (upd H2 dx (xdE dx ((x,y)::fs)))
def vN (ha:PE X o ta)(hv:PE X value tv)(hs:swapsWith value (some (.Attribute o x pos')) pos.line X.env=pure false):PS X (.Assign [.Attribute o x pos'] value pos) (sExM X.K C P f ta tv x):=by
 intro pins s σ H D I h;refine EN (thn (hv pins s σ H _ I h) λu s1 ⟨y,H1,I1,ry,q⟩=>thn (ha pins s1 σ H1 _ I1 q) λov s2 ⟨z,H2,I2,rx,a,dx,fs,ez,ea,ed,hl,F,q2⟩=>?_) hs;subst ez;obtain rfl:ov=AN a:=rx;obtain ⟨⟨ob,t',⟨o1,o2,o3⟩,o4⟩,_⟩:=I2.hok _ _ ea;obtain ⟨⟨mA,n1,r1,w1⟩,_⟩:=I2.hok _ _ ed;obtain ⟨hh,g,d,tk,os⟩:=s2;refine oJ I2.kIn (jS I2.kIn F.i.xi) F.i.k F.sa F.nn ⟨o1,o2⟩ o3 n1 w1 (by rw [Ac];omega) λh' tk' hn' ks=>?_;have hx:∃ u,h'.get? dx=some u:=by
  obtain ⟨o,es,ep,e,q⟩:=id hn';exact ⟨o,e⟩
 refine ⟨σ,_,I2.write (x:=dx) (e:=dx) (t':=tk') (by rw [ed];exact DN) (.inl rfl) ks hx ?_,q2⟩;refine aBk hn' (λg=>?_) (λg hg=>?_)
 ·by_cases z:g=x
  ·subst z
   simp only [Dl,beq_self_eq_true,if_true];exact ry
  ·have:((x,y)::fs:List (Str×V)).lookup g=fs.lookup g:=by
    simp only [Dl];rw [beq_eq_false_iff_ne.mpr z]
   rw [this,if_neg z];exact r1 g
 ·by_cases z:g=x
  ·rw [z];simp
  ·rw [if_neg z] at hg
   exact Au _ (w1 g hg)
end
end L2
namespace DX
open PySem PySem.Spec PyProof.Rows
section
variable {P:AF}{w:World}{A:Around}{E:Value->Shared->Prop}{s:Shared}
def TupAt (h:Heap)(z:Addr)(x y:Value):Prop:=∃ o n,h.get? z=some o/\o.cls=.type "tuple" /\ o.data=.seq #[x,y] n
end
section
variable {P:AF}{w:World}{K:Type}[DecidableEq K]{knd:KeyKind P w K}{A:Around}{R:Result->Shared->Prop}
end
section
variable {P:AF}{w:World}{K:Type}[DecidableEq K]{knd:KeyKind P w K}{A:Around}{E:Value->Shared->Prop}{s:Shared}
abbrev nuD:Obj:={ cls:=.type "dict",data:=.dict #[] }
end
end DX
namespace L2
open PySem PySem.Spec PyProof.Rows
section
variable {X:Cx}
def rDictL (K:Ab):List V->Hp->VK->Prop:=λxs H Q=>∃ (a:Addr) (us:List V) (kvs:List (Key×V)),xs=[.ref a]/\H a=some (.lst us)/\us.length=kvs.length/\(kvs.map (·.1)).Nodup /\
 (∀ (i:Nat) u kv,us[i]?=some u->kvs[i]?=some kv->∃ z,u=.ref z/\H z=some (.tup [kV kv.1,kv.2]))/\∀ p,H p=none->Q (.ref p) (upd H p (.dK kvs))
end
def rNeTs (K:Ab):R2:=λx y H Q=>∃ a b xs,x=.ref a/\y=.ref b/\SqT K H a xs/\SqT K H b xs/\(∀ v∈xs,Sf v)/\Q (.bl false) H
section
variable {X:Cx}{pins:List (Addr×Obj)}{σ:St}{H:Hp}{s:Shared}{A:Around}{E:Value->Shared->Prop}
structure KDict (w:World)(K:Ab)(a:Addr)(f:Str->Option Addr):Prop where
 lo:(a==Ed)=false
 ex:∃ es n,K.lookup a=some ⟨.type "dict",none,.dict es n,#[]⟩/\PySem.W.KeysLit w.params es.toList/\∀ x,findBy Value.isStrOf es x=(f x).map AN
end
section
variable {X:Cx}{e:Expr}{nm m:Str}{p apos cpos pos:Pos}{ty ta:TE}{aF:Addr}{f:Str->Option Addr}
def tKGet (f:Str->Option Addr)(ty:TE):TE:=λσ H Q=>ty σ H λy H2=>∃ x,y=.str x/\Q (((f x).map V.ref).getD .non) H2
def tMethD (m:Str)(Cs:List (Addr×Sp))(E:XK)(ta:TE):TE:=λσ H Q=>ta σ H λx H1=>∃ C sp a dx fs,(C,sp)∈Cs/\x=.ref a/\H1 a=some (.ins C dx fs)/\fs.lookup m=none/\sp [x] H1 Q E
end
structure InsK (K:Ab)(C:Addr):Prop where
 cl:Cls K C
 ha:AZ K (.ref C) "__class__" = some (some (.builtin "object.__class__"))
 hn:PySem.W.specialIn K (.builtin "object.__class__") "__get__" = some (some (.builtin "getset_descriptor.__get__"))
 htk:PySem.W.takesIn K (.builtin "object.__class__")=some true
 hm:PySem.W.mroIn K C (.type "object")=some true
def lay (H g:Hp):Hp:=λb=>match g b with
 |some o=>some o
 |none=>H b
section
variable {X:Cx}{pins:List (Addr×Obj)}{σ:St}{H g:Hp}{s:Shared}{h':Heap}{t':Nat}
end
namespace TI
def nmG (h:Heap):Value->Str
 |.ref a=>match h.get? a with
  |some o=>match o.data with
   |.seq xs _=>match xs.toList with
    |.str x _::_=>x
    |_=>⟨#[]⟩
   |_=>⟨#[]⟩
  |none=>⟨#[]⟩
 |_=>⟨#[]⟩
end TI
end L2
namespace L2
open PySem PySem.Spec PyProof.Rows
abbrev txK (zs:List (Str×V)):List (Key×V):=zs.map λz=>(Sum.inr z.1,z.2)
def tSortItems (td:TE):TE:=λσ H Q=>td σ H λx H1=>∃ a zs,x=.ref a/\H1 a=some (.dK (txK zs))/\(zs.map (·.1)).Nodup/\zs.length<64 /\
 ∀ (p:Addr) (as:List Addr) (zs':List (Str×V)) (H':Hp),Same H1 H'->zs'.Perm zs->(zs'.Pairwise λu v=>u.1.cps.toList<v.1.cps.toList)->as.length=zs'.length ->
  (∀ a z,(a,z)∈as.zip zs'->H' a=some (.tup [.str z.1,z.2]))->H' p=some (.lst (as.map V.ref))->Q (.ref p) H'
end L2
namespace DX
open PySem PySem.Spec PyProof.Rows
section
variable {P:AF}{w:World}{A:Around}{E:Value->Shared->Prop}{s:Shared}
end
section
variable {P:AF}{w:World}{K:Type}[DecidableEq K]{knd:KeyKind P w K}{A:Around}{R:Result->Shared->Prop}
end
section
variable {P:AF}{w:World}{K:Type}[DecidableEq K]{knd:KeyKind P w K}{A:Around}{E:Value->Shared->Prop}{s:Shared}
end
end DX
namespace L2
open PySem PySem.Spec PyProof.Rows
section
variable {X:Cx}
def rDictT:List V->Hp->VK->Prop:=λxs H Q=>∃ (a:Addr) (us:List V) (kvs:List (Key×V)),xs=[.ref a]/\H a=some (.tup us)/\us.length=kvs.length/\(kvs.map (·.1)).Nodup /\
 (∀ (i:Nat) u kv,us[i]?=some u->kvs[i]?=some kv->∃ z,u=.ref z/\H z=some (.tup [kV kv.1,kv.2]))/\∀ p,H p=none->Q (.ref p) (upd H p (.dK kvs))
end
def aGv (K:Ab)(ta:TE):TE:=λσ H Q=>ta σ H λv H1=>∃ a x y,v=.ref a/\SqT K H1 a [.str x,.str y]/\(∀ c∈x.cps.toList,c<16^8)/\(∀ c∈y.cps.toList,c<16^8)/\x.length<=20/\y.length<=20 /\
 ∀ z:Str,z.length<=500->Q (.str z) H1
def aE3 (x y:Str):(PyData.tuple [.str x,.str y]).shown.length=(EW x).length+(EW y).length+4:=by
 have e:(PyData.tuple [.str x,.str y]).shown=tupleText [EW x,EW y]:=by
  simp only [PyData.shown,PyData.shownAll]
 rw [e];have j:=join_length_add [EW x,EW y] (by simp);unfold tupleText;have p:piled [EW x,EW y]=(EW x).length+2+((EW y).length+2):=by simp [piled]
 have c:(if ([EW x,EW y].length==1)=true then (",)":String) else ")") = ")":=rfl
 rw [c];have l1:(("(":Str)).length=1:=by decide +kernel
 have l2:(((")":String):Str)).length=1:=by decide +kernel
 rw [Str.length_append,Str.length_append];rw [l1];have l2':(DF ")").length=1:=l2
 rw [l2'];omega
def aDi {pos:Pos}{k:Nat}(hr:Room k X.A)(ha:PE X value ta):PE X (.FormattedValue value (-1) none pos) (aGv X.K ta):=by
 intro pins s σ H Q I h;refine FormattedValue_plain (thn (ha pins s σ H _ I h) λu s1 ⟨v,H1,I1,rv,a,x,y,ev,sq,cx,cy,lx,ly,q⟩=>?_);subst ev;cases rv;obtain ⟨its,r,⟨o,ho,hc,n,hd⟩,hz⟩:=I1.tuple sq;obtain ⟨u1,u2,rfl,⟨t1,rfl⟩,⟨t2,rfl⟩⟩:=vals2 r;have rd:Reads s1.heap (.ref a) (.tuple [.str x,.str y]) ([]++([]++[])):=.tuple ho hc hd (.cons (.str x t1) (.cons (.str y t2) .nil));have b1:=StrLaws.reprText_len x cx;have b2:=StrLaws.reprText_len y cy;have sl:=aE3 x y;have un:=hr.units;refine formatField_of_reads rd (by simp [PyData.showable,PyData.showableAll]) (λ_ h=>by simp at h) hr.gd (by simp only [PyData.depth,PyData.depthAll];omega) (λ_ _ e=>e) (λh' u tk k=>⟨.str _,H1,I1.kept (t':=tk) k,⟨_,rfl⟩,q _ (by omega)⟩) (by rw [sl];exact Bh (show _<=448 by omega) (by decide))
def tOrT (K:Ab)(ta tb:TE):TE:=λσ H Q=>ta σ H λx H1=>∃ k,TruV K x H1 k/\if k=true then Q x H1 else tb σ H1 Q
end L2
namespace L2
open PySem PySem.Spec PyProof.Rows PySem.W
end L2
namespace L2
open PySem PySem.Spec PyProof.Rows
section
variable {X:Cx}{pos:Pos}
def gTupM (K:Ab)(n:Nat)(t:TGs):TG:=λv σ H Q=>∃ a xs,v=.ref a/\SqL K H a xs/\xs.length=n/\t xs σ H Q
end
section
variable {X:Cx}
def aDn (hu:X.A.units+64<cLine):OpR X (BO .Eq) (λx y H Q=>∃ a b xs,x=.ref a/\y=.ref b/\SqL X.K H a xs/\SqL X.K H b xs/\(∀ v∈xs,Sf v)/\Q (.bl true) H):=by
 intro pins s σ H x y v u Q I rx ry h;obtain ⟨a,b,xs,rfl,rfl,hx,hy,hd,q⟩:=h;refine aFu hu pins s σ H _ _ v u Q I rx ry ⟨a,b,xs,xs,λ_=>true,rfl,rfl,hx,hy,λj x y h1 h2=>?_,?_⟩
 ·rw [h1] at h2
  cases h2;exact DEq.self (hd x (AJ h1))
 ·have e:((Ay (min xs.length xs.length)).all (λ_=>true)&&xs.length==xs.length)=true:=by simp
  rw [e];exact q
end
end L2
namespace K45
open PySem PySem.Spec PyProof.Rows L2 GM TM TR
abbrev sE0:Stmt:=inClass (top 5) 0
abbrev sE1:Stmt:=inClass (top 6) 0
structure Er1 (K:Ab)(mg:Str->Option Value)(cP c f:Addr)(nm:Str)(fs:List Str):Prop where
 e:∀ x∈fs,ExF K c cP f x
 s:PySem.W.subIn K (.ref c) (.ref cP)=some true
 v:AO K (.ref c) (.type "ValueError")=some true
 m:mg nm=some (.ref c)
structure ErW (K:Ab)(mg:Str->Option Value)(cP c0 c1 c2 c3 c4 f0 f1:Addr):Prop where
 ct:CtK K cP
 bi:BaseI K cP
 mP:mg "PhialError" = some (.ref cP)
 r0:Er1 K mg cP c0 f0 "Touch" ["place","phial","pair"]
 r1:Er1 K mg cP c1 f1 "Few" ["need","ready"]
 m2:mg "Spilt" = some (.ref c2)
 m3:mg "Wet" = some (.ref c3)
 m4:mg "NoDeed" = some (.ref c4)
 i00:AO K (.ref c0) (.ref c0)=some true
 i01:AO K (.ref c0) (.ref c1)=some false
 i02:AO K (.ref c0) (.ref c2)=some false
 i03:AO K (.ref c0) (.ref c3)=some false
 i04:AO K (.ref c0) (.ref c4)=some false
 i10:AO K (.ref c1) (.ref c0)=some false
 i11:AO K (.ref c1) (.ref c1)=some true
 i12:AO K (.ref c1) (.ref c2)=some false
 i13:AO K (.ref c1) (.ref c3)=some false
 i14:AO K (.ref c1) (.ref c4)=some false
def aEi (e c:Addr)(fl:List (Str×V))(H:Hp)(Q:VK):Prop:=∀ dx H',dx≠e->(∀ p o,p≠e->H p=some o->H' p=some o)->H' e=some (exN e c (some dx))->H' dx=some (xdE dx fl)->Q .non H'
def aCu (K:Ab)(c:Addr):Sp:=λvs H Q _=>∃ (e a:Addr) (x y:Str),vs=[.ref e,.int (-1),.int (-1),.ref a]/\SqT K H a [.str x,.str y]/\Wr x/\Wr y/\H e=some (exN e c none)/\aEi e c [("pair",.ref a),("phial",.int (-1)),("place",.int (-1))] H Q
def spI2 (c:Addr):Sp:=λvs H Q _=>∃ (e:Addr) (n p:Nat),vs=[.ref e,.int (n:Nat),.int (p:Nat)]/\n<1000/\p<1000/\H e=some (exN e c none)/\aEi e c [("ready",.int (p:Nat)),("need",.int (n:Nat))] H Q
def BadE (c:Addr)(fl:List (Str×V))(H:Hp)(E:XK):Prop:=∀ dx H',Same H H'->H' dx=some (xdE dx fl)->E (.ref c) (some dx) H'
def BadE.mono {c:Addr}{fl:List (Str×V)}{H H1:Hp}{E:XK}(h:BadE c fl H E)(s:Same H H1):BadE c fl H1 E:=λdx H' s' hd=>h dx H' (s.trans s') hd
def wY {e c:Addr}{fl:List (Str×V)}{H:Hp}{E:XK}(he:H e=none)(h:BadE c fl H E):aEi e c fl (upd H e (exN e c none)) (λv H2=>v=.non/\∃ dd,H2 e=some (exN e c dd)/\E (.ref c) dd (rem H2 e)):=λdx H' ne sm hE hd=>by
 refine ⟨rfl,some dx,hE,h dx _ (λp o hp=>?_) (by rw [mZ ne];exact hd)⟩;have n1:p≠e:=λz=>by rw [z,he] at hp;cases hp
 rw [mZ n1];exact sm p o n1 (by rw [aE n1];exact hp)
abbrev aCh (c:Addr)(vs:List V)(sp:Sp)(H:Hp)(E:XK):Prop:=vs.length<=AE/\∀ e,H e=none->sp (.ref e::vs) (upd H e (exN e c none)) (λv H2=>v=.non/\∃ dd,H2 e=some (exN e c dd)/\E (.ref c) dd (rem H2 e)) E0
def aFe {c:Addr}{n p:Nat}{H:Hp}{E:XK}(hn:n<1000)(hp:p<1000)(h:BadE c [("ready",.int (p:Nat)),("need",.int (n:Nat))] H E):aCh c [.int (n:Nat),.int (p:Nat)] (spI2 c) H E:=
 ⟨zLn2,λe he=>⟨e,n,p,rfl,hn,hp,aB,wY he h⟩⟩
def aC5 {K:Ab}{c a:Addr}{x y:Str}{H:Hp}{E:XK}(sq:H a=some (.tup [.str x,.str y]))(wx:Wr x)(wy:Wr y)(h:BadE c [("pair",.ref a),("phial",.int (-1)),("place",.int (-1))] H E):aCh c [.int (-1),.int (-1),.ref a] (aCu K c) H E:=
 ⟨zLn3,λe he=>⟨e,a,x,y,rfl,SqT.of ((Same.upd he) _ _ sq),wx,wy,aB,wY he h⟩⟩
theorem lE:Str.empty.length=0:=rfl
section
variable {P:AF}{w:World}{K:Ab}{mg:Str->Option Value}{base:Heap}{cP c0 c1 c2 c3 c4 f0 f1:Addr}
theorem cpsT (t:Nat):cps ((toString (t:Int):String):Str)=dg t:=PySem.W.KIN.signs_num t
def logT {t:Nat}(h:t<10^60):((t:Int)).natAbs.log2<1920:=by
 rw [Int.natAbs_natCast]
 by_cases z:t=0
 ·subst z
  decide
 ·exact (Nat.log2_lt z).mpr (DG h (by decide +kernel))
def vK {n:Nat}(h:n<1000):((toString (n:Int):String):Str).length<=60:=by
 rw [lenC,cpsT];exact aGf (DG h (by decide +kernel))
def mV {x:Str}(h:Wr x):∀ c∈x.cps.toList,c<16^8:=λc hc=>by
 exact Fj (h.lt c hc).2 (by decide)
def aD3:((toString (-1:Int):String):Str).length=2:=by decide +kernel
def wU:((-1:Int)).natAbs.log2<1920:=by decide +kernel
def scE0:FnScope ["self","place","phial","pair"] ["self","place","phial","pair"] (aJ sE0):=fnScOk (by decide +kernel)
def aG9 {f:Addr}{fd:AM}(F:Fun K "__init__" "Touch.__init__" sE0 f fd)(R:ErW K mg cP c0 c1 c2 c3 c4 f0 f1):FnOk P w K mg base CX0 1 f fd ["self","place","phial","pair"] (aCu K c0):=by
 refine F.ok scE0 (λvs H Q E h=>?_) (λcdv A outer s H vs Q E hr h=>?_)
 ·obtain ⟨_,_,_,_,rfl,_⟩:=h
  rfl
 ·obtain ⟨e,a,x,y,rfl,sq,wx,wy,he,k⟩:=h
  refine ⟨_,aD (bB (rQ rfl R.mP R.bi (aA (pv 0) (aA (vW (dR bD (dR (rM (pv 1)) (dR bD (dR (rM (pv 2)) (dR bD (dR (aDi hr (pv 3)) aBt))))))) aC))))
   (aD (aBs (C:=c0) (P:=cP) (f:=f0) rfl (pv 0) (pv 1) rfl) (aD (vN (C:=c0) (P:=cP) (f:=f0) (pv 0) (pv 2) rfl) (aH (vN (C:=c0) (P:=cP) (f:=f0) (pv 0) (pv 3) rfl)))),?_⟩
  have l1:("row ":Str).length=4:=by decide +kernel
  have l2:(": in phial ":Str).length=11:=by decide +kernel
  have l3:(" two wares meet that must not: ":Str).length=31:=by decide +kernel
  have hl:=aD3;refine ⟨_,rfl,_,rfl,?_,_,rfl,_,⟨wU,rfl⟩,_,rfl,?_,_,rfl,?_,_,rfl,_,⟨wU,rfl⟩,_,rfl,?_,_,rfl,?_,_,rfl,a,x,y,rfl,sq,mV wx,mV wy,(by have:=wx.l8;omega),(by have:=wy.l8;omega),λz hz=>⟨z,rfl,?_,?_,e,c0,none,f0,_,rfl,he,(R.r0.e "place" (by simp)).i,?_⟩⟩
  ·rw [lenA,lE];exact bL (by omega)
  ·rw [lenA,lenA,lE];exact bL (by omega)
  ·rw [lenA,lenA,lenA,lE];exact bL (by omega)
  ·rw [lenA,lenA,lenA,lenA,lE];exact bL (by omega)
  ·rw [lenA,lenA,lenA,lenA,lenA,lE];exact bL (by omega)
  ·rw [lenA,lenA,lenA,lenA,lenA,lenA,lE];exact bL (by omega)
  ·rw [lenA,lenA,lenA,lenA,lenA,lenA,lE];exact bL (by omega)
  ·refine ⟨_,rfl,_,rfl,e,rfl,he,R.r0.e "place" (by simp),λdx hd ne=>?_⟩
   refine ⟨_,rfl,_,rfl,e,dx,_,rfl,by rw [aE (BU ne),aB],aB,by show 1<=90;decide,R.r0.e "phial" (by simp),?_⟩;refine ⟨_,rfl,_,rfl,e,dx,_,rfl,by rw [aE (BU ne),aE (BU ne),aB],aB,by show 2<=90;decide,R.r0.e "pair" (by simp),?_⟩;refine k dx _ ne (λp o n1 hp=>?_) (by rw [aE (BU ne),aE (BU ne),aE (BU ne),aB]) aB;have n2:p≠dx:=λz=>by rw [z,hd] at hp;cases hp
   rw [aE n2,aE n2,aE n2,aE n1];exact hp
def scE1:FnScope ["self","need","ready"] ["self","need","ready"] (aJ sE1):=fnScOk (by decide +kernel)
def aG8 {f:Addr}{fd:AM}(F:Fun K "__init__" "Few.__init__" sE1 f fd)(R:ErW K mg cP c0 c1 c2 c3 c4 f0 f1):FnOk P w K mg base CX0 1 f fd ["self","need","ready"] (spI2 c1):=by
 refine F.ok scE1 (λvs H Q E h=>?_) (λcdv A outer s H vs Q E hr h=>?_)
 ·obtain ⟨_,_,_,rfl,_⟩:=h
  rfl
 ·obtain ⟨e,n,p,rfl,hn,hp,he,k⟩:=h
  refine ⟨_,aD (bB (rQ rfl R.mP R.bi (aA (pv 0) (aA (vW (dR (rM (pv 1)) (dR bD (dR (rM (pv 2)) (dR bD aBt))))) aC))))
   (aD (aBs (C:=c1) (P:=cP) (f:=f1) rfl (pv 0) (pv 1) rfl) (aH (vN (C:=c1) (P:=cP) (f:=f1) (pv 0) (pv 2) rfl))),?_⟩
  have hl:=vK hn;have hl2:=vK hp;have l2:(" phials are needed, ":Str).length=20:=by decide +kernel
  have l3:(" are ready":Str).length=10:=by decide +kernel
  refine ⟨_,rfl,_,rfl,_,⟨logT (DG hn (by decide +kernel)),rfl⟩,_,rfl,?_,_,rfl,?_,_,rfl,_,⟨logT (DG hp (by decide +kernel)),rfl⟩,_,rfl,?_,_,rfl,?_,?_,e,c1,none,f1,_,rfl,he,(R.r1.e "need" (by simp)).i,?_⟩
  ·rw [lenA,lE];exact bL (by omega)
  ·rw [lenA,lenA,lE];exact bL (by omega)
  ·rw [lenA,lenA,lenA,lE];exact bL (by omega)
  ·rw [lenA,lenA,lenA,lenA,lE];exact bL (by omega)
  ·rw [lenA,lenA,lenA,lenA,lE];exact bL (by omega)
  ·refine ⟨_,rfl,_,rfl,e,rfl,he,R.r1.e "need" (by simp),λdx hd ne=>?_⟩
   refine ⟨_,rfl,_,rfl,e,dx,_,rfl,by rw [aE (BU ne),aB],aB,by show 1<=90;decide,R.r1.e "ready" (by simp),?_⟩;refine k dx _ ne (λp o n1 hp=>?_) (by rw [aE (BU ne),aE (BU ne),aB]) aB;have n2:p≠dx:=λz=>by rw [z,hd] at hp;cases hp
   rw [aE n2,aE n2,aE n1];exact hp
end
def lG:Sp:=λvs H Q _=>∃ n:Int,vs=[.int n]/\Q (.bl true) H
def iT (c0 c1:Addr):Sp:=λvs H Q _=>∃ (e dx:Addr) (n m:Nat),(∃ (a:Addr) (x y:Str),vs=[.ref e,.ref a,.int (n:Nat),.int (m:Nat)]/\H e=some (excD e c0 (some dx))/\H dx=some (xdE dx [("pair",.ref a),("phial",.int (-1)),("place",.int (-1))])/\H a=some (.tup [.str x,.str y])/\∀ H',Same H H'->Q (.bl true) H') \/
 (vs=[.ref e,.non,.int (n:Nat),.int (m:Nat)]/\H e=some (excD e c1 (some dx))/\H dx=some (xdE dx [("ready",.int (m:Nat)),("need",.int (n:Nat))])/\∀ H',Same H H'->Q (.bl true) H')
section
variable {P:AF}{w:World}{K:Ab}{mg:Str->Option Value}{base:Heap}{cP c0 c1 c2 c3 c4 f0 f1:Addr}
def aCy:FnScope ["_law_found"] ["_law_found"] (aJ sWhole):=fnScOk (by decide +kernel)
def aAc {f:Addr}{fd:AM}(F:Fun K "_law_whole" "_law_whole" sWhole f fd)(T:Txt mg):FnOk P w K mg base CX0 1 f fd ["_law_found"] lG:=by
 refine F.ok aCy (λvs H Q E h=>?_) (λcdv A outer s H vs Q E hr h=>?_)
 ·obtain ⟨_,rfl,_⟩:=h
  rfl
 ·obtain ⟨n,rfl,k⟩:=h
  refine ⟨_,(aH (aU (hG (aQ gC rfl T.isi Ci (aA (pv 0) (aA (gK (v:=.ty "int") rfl T.int' aCf rfl) aC))) (kO (aFo (aQ gC rfl T.isi Ci (aA (pv 0) (aA (gK (v:=.ty "bool") rfl T.bool' aEg rfl) aC)))))))),?_⟩;exact ⟨_,rfl,_,"int",true,rfl,.int_int,_,rfl,iteT ⟨_,rfl,_,"bool",false,rfl,.int_bool,_,rfl,k⟩⟩
def aGi:Ck "ValueError" = some (.type "ValueError"):=by decide +kernel
def mY:FnScope ["_law_error","_law_pair","_law_need_here","_law_many","_law_numbers"] ["_law_error","_law_pair","_law_need_here","_law_many"] (aJ sRefused):=fnScOk (by decide +kernel)
def tN {f:Addr}{fd:AM}(F:Fun K "_law_refused" "_law_refused" sRefused f fd)(T:Txt mg)(R:ErW K mg cP c0 c1 c2 c3 c4 f0 f1)(cW:Cal P w K mg base CX0 1 "_law_whole" ["_law_found"] lG):FnOk P w K mg base CX0 2 f fd ["_law_error","_law_pair","_law_need_here","_law_many"] (iT c0 c1):=by
 refine F.ok mY (λvs H Q E h=>?_) (λcdv A outer s H vs Q E hr h=>?_)
 ·obtain ⟨_,_,_,_,h⟩:=h
  rcases h with ⟨_,_,_,rfl,_⟩|⟨rfl,_⟩<;>rfl
 ·obtain ⟨e,dx,n,m,h⟩:=h
  refine ⟨_,(aD (bK (PW.pt (nG (iW (eP (aQ eW rfl T.isi Ci (aA (pv 0) (aA (gK (v:=.ty "ValueError") rfl T.val' aGi rfl) aC))))) (kK (eP (aQ uJ rfl T.isi Ci (aA (pv 0) (aA (aT (aA (eU (v:=.ref c2) rfl R.m2 rfl) (aA (eU (v:=.ref c3) rfl R.m3 rfl) (aA (eU (v:=.ref c4) rfl R.m4 rfl) aC)))) aC))))))) (aH (aU pY)) aY)
   (aD (bK (aM lW (pv 1) gZ (aV _)) (aD (bK (PW.pt (nG (iW (eP (aQ eW rfl T.isi Ci (aA (pv 0) (aA (eU (v:=.ref c0) rfl R.r0.m rfl) aC))))) (kK (eP (aQ eW rfl T.isi Ci (aA (pv 0) (aA (eU (v:=.ref c1) rfl R.r1.m rfl) aC))))))) (aH (aU pY)) aY)
   (aD (aK (i:=4) mY.nd rfl (Or.inl rfl) (bC (aA (jB (pv 0) rfl) (aA (jB (pv 0) rfl) aC))))
   (aH (aU (hG (cZ (aDn hr.units) (pv 4) (bC (aA (fY dO aG) (aA (fY dO aG) aC))) (aV _)) (hG (aL cW hr rfl aS (aA (bE aW (pv 4) aG (λ_ _=>rfl)) aC)) (hG (aL cW hr rfl aS (aA (bE aW (pv 4) aG (λ_ _=>rfl)) aC)) (kO (cZ (aDo hr.units) (jB (pv 0) rfl) (pv 1) (aV _)))))))))) aY)
   (aD (bK (PW.pt (nG (iW (eP (aQ eW rfl T.isi Ci (aA (pv 0) (aA (eU (v:=.ref c1) rfl R.r1.m rfl) aC))))) (kK (eP (aQ eW rfl T.isi Ci (aA (pv 0) (aA (eU (v:=.ref c0) rfl R.r0.m rfl) aC))))))) (aH (aU pY)) aY)
   (aH (aU (hG (aL cW hr rfl aS (aA (jB (pv 0) rfl) aC)) (hG (aL cW hr rfl aS (aA (jB (pv 0) rfl) aC)) (kO (cZ (aFv hr.units) (aT (aA (jB (pv 0) rfl) (aA (jB (pv 0) rfl) aC))) (aT (aA (pv 2) (aA (pv 3) aC))) (aV _)))))))))),?_⟩
  refine cut4 ?_
  intros
  rcases h with ⟨a,x,y,rfl,he,hdx,ha,k⟩|⟨rfl,he,hdx,k⟩
  ·have ck:=(R.r0.e "place" (by simp)).i.k
   have e1:=R.r0.e "place" (by simp);have e2:=R.r0.e "phial" (by simp);have e3:=R.r0.e "pair" (by simp);refine ⟨_,rfl,e,c0,some dx,.type "ValueError",.ty "ValueError",true,rfl,he,ck,rfl,R.r0.v,_,rfl,iteF ?_⟩;refine ⟨_,rfl,zLn3,λz nz=>?_⟩;have sz:=Same.upd (o:=.tup [.ref c2,.ref c3,.ref c4]) nz;refine ⟨e,c0,some dx,z,[c2,c3,c4],false,rfl,sz _ _ he,ck,aB,any3 R.i02 R.i03 R.i04,_,rfl,iteF ?_⟩;have h1:=sz _ _ he;have d1:=sz _ _ hdx;have a1:=sz _ _ ha;generalize upd H z (.tup [.ref c2,.ref c3,.ref c4])=H1 at sz h1 d1 a1 ⊢;refine ⟨_,rfl,rfl,_,rfl,iteT ?_⟩;refine ⟨_,rfl,e,c0,some dx,.ref c0,.ref c0,true,rfl,h1,ck,rfl,R.i00,_,rfl,iteF ⟨_,rfl,e,c0,some dx,.ref c1,.ref c1,false,rfl,h1,ck,rfl,R.i01,_,rfl,iteF ?_⟩⟩;refine ⟨_,rfl,e,c0,cP,f0,dx,_,.int (-1),rfl,h1,d1,e1,rfl,_,rfl,e,c0,cP,f0,dx,_,.int (-1),rfl,h1,d1,e2,rfl,zLn2,λl nl=>?_⟩;have s2:=Same.upd (o:=.lst [.int (-1),.int (-1)]) nl;have hl:upd H1 l (.lst [.int (-1),.int (-1)]) l=some (.lst [.int (-1),.int (-1)]):=aB;generalize upd H1 l (.lst [.int (-1),.int (-1)])=H2 at s2 hl ⊢;refine ⟨_,rfl,_,rfl,_,rfl,zLn2,λl2 nl2=>?_⟩;have s3:=Same.upd (o:=.lst [.int (-1),.int (-1)]) nl2;refine ⟨l,l2,[.int (-1),.int (-1)],rfl,rfl,SqL.of (s3 _ _ hl),SqL.of aB,λv hv=>?_,_,rfl,iteT ?_⟩
   ·rcases Aw.mp hv with h|h
    ·rw [h];exact .inl rfl
    ·rw [Al.mp h];exact .inl rfl
   have s12:=s2.trans s3;have hl3:=s3 _ _ hl;refine ⟨_,rfl,l,_,0,.int (-1),rfl,rfl,SqL.of hl3,rfl,-1,rfl,_,rfl,iteT ⟨_,rfl,l,_,1,.int (-1),rfl,rfl,SqL.of hl3,rfl,-1,rfl,_,rfl,iteT ?_⟩⟩;exact ⟨_,rfl,e,c0,cP,f0,dx,_,.ref a,rfl,s12 _ _ h1,s12 _ _ d1,e3,rfl,_,rfl,a,a,_,_,[.s x,.s y],rfl,rfl,SqT.of (s12 _ _ a1),SqT.of (s12 _ _ a1),.cons .s (.cons .s .nil),.cons .s (.cons .s .nil),k _ (sz.trans s12)⟩
  ·have ck:=(R.r1.e "need" (by simp)).i.k
   have e1:=R.r1.e "need" (by simp);have e2:=R.r1.e "ready" (by simp);refine ⟨_,rfl,e,c1,some dx,.type "ValueError",.ty "ValueError",true,rfl,he,ck,rfl,R.r1.v,_,rfl,iteF ?_⟩;refine ⟨_,rfl,zLn3,λz nz=>?_⟩;have sz:=Same.upd (o:=.tup [.ref c2,.ref c3,.ref c4]) nz;refine ⟨e,c1,some dx,z,[c2,c3,c4],false,rfl,sz _ _ he,ck,aB,any3 R.i12 R.i13 R.i14,_,rfl,iteF ?_⟩;have h1:=sz _ _ he;have d1:=sz _ _ hdx;generalize upd H z (.tup [.ref c2,.ref c3,.ref c4])=H1 at sz h1 d1 ⊢;refine ⟨_,rfl,rfl,_,rfl,iteF ?_⟩;refine ⟨_,rfl,e,c1,some dx,.ref c1,.ref c1,true,rfl,h1,ck,rfl,R.i11,_,rfl,iteF ⟨_,rfl,e,c1,some dx,.ref c0,.ref c0,false,rfl,h1,ck,rfl,R.i10,_,rfl,iteF ?_⟩⟩;refine ⟨_,rfl,e,c1,cP,f1,dx,_,.int (n:Nat),rfl,h1,d1,e1,rfl,(n:Int),rfl,_,rfl,iteT ⟨_,rfl,e,c1,cP,f1,dx,_,.int (m:Nat),rfl,h1,d1,e2,rfl,(m:Int),rfl,_,rfl,iteT ?_⟩⟩;refine ⟨_,rfl,e,c1,cP,f1,dx,_,.int (n:Nat),rfl,h1,d1,e1,rfl,_,rfl,e,c1,cP,f1,dx,_,.int (m:Nat),rfl,h1,d1,e2,rfl,zLn2,λl nl=>?_⟩;have s2:=Same.upd (o:=.tup [.int (n:Nat),.int (m:Nat)]) nl;refine ⟨_,rfl,_,rfl,zLn2,λl2 nl2=>?_⟩;have s3:=Same.upd (o:=.tup [.int (n:Nat),.int (m:Nat)]) nl2;refine ⟨l,l2,[(n:Int),(m:Int)],[(n:Int),(m:Int)],rfl,rfl,SqT.of (s3 _ _ aB),SqT.of aB,?_⟩;rw [decide_eq_true rfl];exact k _ (sz.trans (s2.trans s3))
end
end K45
namespace L2
open PySem PySem.Spec PyProof.Rows
def aBg {J:It}{xs:List V}{D:Addr}{g:TG}{tt:TT}{te:TE}{σ0:St}{QD:Hp->Prop}{H1:Hp}(Y:Ys J xs H1)(Pr:V->Prop)(hD:H1 D=none)(hl:xs.length<=1000)
  (hs:∀ (i:Nat) x H' (R1:VK) (R2:Hp->Prop),xs[i]?=some x->Same H1 H'->(∀ y H4,Same H' H4->Pr y->R1 y H4)->(∀ H4,Same H' H4->R2 H4)->g x σ0 H' λσ2 H2=>Keep σ0 σ2/\tt σ2 H2 λb H3=>if b=true then te σ2 H3 R1 else R2 H3)
  (hd:∀ ys H',Same H1 H'->H' D=some (.lst ys)->ys.length<=xs.length->(∀ y∈ys,Pr y)->QD H') :
  ∃ W:Nat->Nat->List V->Hp->Prop,(∃ m,W 0 m [] (upd H1 D (.lst [])))/\∀ i m ys H,W i m ys H->H D=some (.lst ys)/\ys.length<AE /\
   ((J.stop i H/\QD H)\/(J.go i H/\∀ x H',J.yld i H x H'->g x σ0 H' λσ2 H2=>Keep σ0 σ2/\tt σ2 H2 λb H3=>
    if b=true then te σ2 H3 λy H4=>H4 D=some (.lst ys)/\∃ m',m'<m/\W (i+1) m' (ys++[y]) (upd H4 D (.lst (ys++[y]))) else ∃ m',m'<m/\W (i+1) m' ys H3)):=by
 refine ⟨λi m ys H=>m=xs.length-i/\i<=xs.length/\Same H1 H/\H D=some (.lst ys)/\ys.length<=i/\∀ y∈ys,Pr y,⟨_,rfl,Bi _,Same.upd hD,aB,Ao _,λy h=>(nomatch h)⟩,?_⟩
 rintro i m ys H ⟨rfl,hi,sm,hDH,yl,pr⟩
 refine ⟨hDH,aP (by omega),?_⟩
 by_cases hlt:i<xs.length
 ·refine .inr ⟨Y.go i H sm hlt,λx H' y=>?_⟩
  obtain ⟨rfl,hx⟩:=Y.yld i H x H' sm hlt y;refine hs i x H' _ _ hx sm (λy H4 s4 py=>?_) λH4 s4=>?_
  ·have hD4:=s4 _ _ hDH
   refine ⟨hD4,xs.length-(i+1),by omega,rfl,hlt,λb o hb=>?_,aB,?_,λz hz=>?_⟩
   ·rw [aE (aI hb hD)]
    exact s4 _ _ (sm _ _ hb)
   ·rw [Aq]
    exact Nat.succ_le_succ yl
   ·rcases Av.mp hz with h|h
    ·exact pr z h
    ·rw [Al.mp h]
     exact py
  ·exact ⟨xs.length-(i+1),by omega,rfl,hlt,sm.trans s4,s4 _ _ hDH,by omega,pr⟩
 ·have e:i=xs.length:=by omega
  subst e;exact .inl ⟨Y.stop _ H sm (Ao _),hd ys H sm hDH yl pr⟩
end L2
namespace K45
open PySem PySem.Spec PyProof.Rows L2 GM TM TR
theorem Wk.b {C T:Addr}{H H':Hp}{A:Ad}{root:V}{rows ss:List V}{fr un:List Int}{kp ka:List (List Key×V)}(B:Wk C H A root rows ss fr un kp ka)(s:SameB T H H')(l:LT H T):Wk C H' A root rows ss fr un kp ka:=by
 obtain ⟨⟨dx,h0⟩,h1,h2,h3,h4,h5,h6,n⟩:=B;exact ⟨⟨dx,s _ _ (dS l h0 λ_ z=>by cases z) h0⟩,s _ _ (dS l h1 λ_ z=>by cases z) h1,s _ _ (dS l h2 λ_ z=>by cases z) h2,s _ _ (dS l h3 λ_ z=>by cases z) h3,s _ _ (dS l h4 λ_ z=>by cases z) h4,s _ _ (dS l h5 λ_ z=>by cases z) h5,s _ _ (dS l h6 λ_ z=>by cases z) h6,n⟩
def Wk.otN {C:Addr}{H:Hp}{A:Ad}{root:V}{rows ss:List V}{fr un:List Int}{kp ka:List (List Key×V)}(B:Wk C H A root rows ss fr un kp ka){b:Addr}(h:H b=none):Ot A b:=by
 obtain ⟨⟨dx,h0⟩,h1,h2,h3,h4,h5,h6,n⟩:=B;exact ⟨(aI h0 h).symm,(aI h1 h).symm,(aI h2 h).symm,(aI h3 h).symm,(aI h4 h).symm,(aI h5 h).symm,(aI h6 h).symm⟩
structure Tree (H:Hp)(t m:Addr)(u1 u2:V)(us':List V)(n:Nat)(d:Int)(ch:List Nat->Nat)(nd:List Nat->Int)(nm:List Nat->Str)(W:List Str)(y:Int×Int):Prop where
 tr:Tr H 62 (.ref t) n d
 hf:Hf H 62 (.ref t) ch nd
 tn:Tn H (.ref t) ch nm W
 rt:Rt H t m u1 u2 us' n
 rm:RmV H (.ref m) y
 e0:nd []=d
 c1:1<=ch []
 rc:(rps ch 62).length<=61
theorem Tree.keep {H H':Hp}{t m:Addr}{u1 u2:V}{us':List V}{n:Nat}{d:Int}{ch:List Nat->Nat}{nd:List Nat->Int}{nm:List Nat->Str}{W:List Str}{y:Int×Int}(h:Tree H t m u1 u2 us' n d ch nd nm W y)(k:Tk H H'):Tree H' t m u1 u2 us' n d ch nd nm W y:=⟨h.tr.keep k,h.hf.keep k,h.tn.keep k,h.rt.keep k,h.rm.keep k,h.e0,h.c1,h.rc⟩
abbrev zI (l:List Nat):List Int:=l.map λ(k:Nat)=>(k:Int)
theorem uM (l:List Nat):(zI l).map V.int=l.map λ(k:Nat)=>V.int (k:Int):=by rw [Bw];rfl
theorem Sd.keep {H H':Hp}{b r q l:Addr}{rs us vs:List V}{rv:List (Int×Int)}{ps:List (Str×Str)}{es:List Bool}(h:Sd H b r q l rs us vs rv ps es)(s:Same H H'):Sd H' b r q l rs us vs rv ps es:=⟨h.bn.keep s.tk,s _ _ h.hl,pZ (λ_ _ x=>x.keep s.tk) h.ph,h.ln⟩
theorem Tr.nh {H:Hp}:∀ {n:Nat} {v:V} {s:Nat} {d:Int},Tr H (n+1) v s d->d<=n
 |n,v,s,d,h=>by
  rcases h with ⟨p,m,x,e,hp,am,_,rfl⟩|⟨p,m,q,x,cs,e,hp,hq,l1,l2,hc,_,hd,am⟩
  ·omega
  ·cases n with
   |zero=>
    cases cs with
    |nil=>exact absurd l1 (by simp)
    |cons c r=>exact (hc c (Az ..)).elim
   |succ n=>
    obtain ⟨f,s',⟨r,pm,sf,_⟩,rfl⟩:=hd;have le:∀ x∈(cs.map (·.2.2))++[0,0],x<=(n:Int):=λx hx=>by
     rcases Av.mp hx with hx|hx
     ·obtain ⟨c,hc',rfl⟩:=AY.mp hx
      exact Tr.nh (hc c hc')
     ·have:x=0:=by simpa using hx
      omega
    have h1:=le f (pm.mem_iff.mpr (Az ..));have h2:=le s' (pm.mem_iff.mpr (Au _ (Az ..)));omega
def uX (T c0 c1:Addr):Sp:=λvs0 H Q E=>∃ (b r q l t m:Addr) (rs us vs:List V) (rv:List (Int×Int)) (ps:List (Str×Str)) (es:List Bool) (u1 u2:V) (us':List V) (n:Nat) (d:Int) (ch:List Nat->Nat) (nd:List Nat->Int) (nm:List Nat->Str) (W:List Str) (y:Int×Int),vs0=[.ref b,.ref l,.ref t]/\Sd H b r q l rs us vs rv ps es/\Tree H t m u1 u2 us' n d ch nd nm W y/\LT H T /\
 (∀ a,pairOf us ps (lvs 62 ch nm)=.ref a->BadE c0 [("pair",.ref a),("phial",.int (-1)),("place",.int (-1))] H E) /\
 (pairOf us ps (lvs 62 ch nm)=.non->((rdyL es rv y).length:Int)<d->BadE c1 [("ready",.int ((rdyL es rv y).length:Nat)),("need",.int (d.toNat:Nat))] H E) /\
 (pairOf us ps (lvs 62 ch nm)=.non->d<=((rdyL es rv y).length:Int)->∀ (p lr st:Addr) (i:Int) (xs zs:List V) H',SameB T H H'->H' p=some (.tup [.ref lr,.int i,.ref st])->H' lr=some (.lst xs)->H' st=some (.lst zs)->i∈zI (rdyL es rv y)->Q (.ref p) H')
def aFp {H:Hp}{es:List Addr}{xs:List Str}{ys:List V}(h:Paired (λ(y:V) (x:Str)=>y=.str x) ys xs):ys=xs.map V.str:=by
 induction h with
 |nil=>rfl
 |cons e _ ih=>rw [e,ih];rfl
def aD8 {ys:List V}(h:∀ y∈ys,∃ n:Int,y=.int n):∃ ns:List Int,ys=ns.map V.int:=by
 induction ys with
 |nil=>exact ⟨[],rfl⟩
 |cons a r ih=>
  obtain ⟨ns,e⟩:=ih λy hy=>h y (Au _ hy);obtain ⟨n,e'⟩:=h a (Az ..);exact ⟨n::ns,by rw [e,e'];rfl⟩
def aFc {es:List Bool}{rv:List (Int×Int)}{y:Int×Int}:(rdyL es rv y).length<=rv.length:=by
 have:=BM (λk=>(es[k]?.getD false)&&!(lsB (rv[k]?.getD (0,1)) y)) (Ay rv.length);rw [Dg] at this;exact this
def uS {H:Hp}{ch:List Nat->Nat}{g:List (List Nat)}{as:List Addr}(h:Sts H ch g as):(∀ q∈as,∃ (b:Addr) (p:List Nat) (r:List V),H q=some (.tup (.ref b::r))/\H b=some (.tup (p.map λ(k:Nat)=>V.int (k:Int))))/\(as.map (ntH H)).Nodup:=by
 obtain ⟨qs,ql,nd,h1,h2⟩:=h;have at':∀ {k:Nat} {a:Addr},as[k]?=some a->∃ q,qs[k]?=some q/\∃ b n m,H a=some (.tup [.ref b,.int n,.int m])/\H b=some (.tup (pth q)):=λ{k a} e=>by
  have kl:=(Ah.mp e).1;exact ⟨_,Af (by omega),h2 k a _ e (Af (by omega))⟩
 refine ⟨λa ha=>?_,?_⟩
 ·obtain ⟨k,hk⟩:=List.getElem?_of_mem ha
  obtain ⟨q,_,b,n,m,e1,e2⟩:=at' hk;exact ⟨b,q,_,e1,e2⟩
 ·have:as.map (ntH H)=qs:=by
   apply Dh
   intro k;rw [Aj];cases e:as[k]? with
   |none=>
    have:as.length<=k:=DY.mp e;rw [Bu (by omega)];rfl
   |some a=>
    obtain ⟨q,hq,b,n,m,e1,e2⟩:=at' e;rw [hq];show some (ntH H a)=some q;rw [aBz e1 e2]
  rw [this];exact nd
def ndWm:(["ware","many"]:List Str).Nodup:=by decide +kernel
def ndPp:(["phial","phials"]:List Str).Nodup:=by decide +kernel
section
variable {P:AF}{w:World}{K:Ab}{mg:Str->Option Value}{base:Heap}{cP c0 c1 c2 c3 c4 f0 f1:Addr}
def iV:FnScope ["bench","phials","tree","pair","ready","need","work","word","path"] ["bench","phials","tree"] (aJ sRows):=fnScOk (by decide +kernel)
def aDq {f C fI T':Addr}{fd fdI g0 g1:AM}(F:Fun K "rows_made" "rows_made" sRows f fd)(T:Txt mg)(L:Cl K mg C)(R:ErW K mg cP c0 c1 c2 c3 c4 f0 f1)(F0:FnOk P w K mg base CX0 1 f0 g0 ["self","place","phial","pair"] (aCu K c0))(b0:Binds K g0 ["self","place","phial","pair"] [])(F1:FnOk P w K mg base CX0 1 f1 g1 ["self","need","ready"] (spI2 c1))(b1:Binds K g1 ["self","need","ready"] [])
  (M:Mk K C fI) (FI:FnOk P w K mg base CX0 198 fI fdI ["self","tree","ready","unclean"] (pN C)) (bI:Binds K fdI ["self","tree","ready","unclean"] []) (mC:mg "Work" = some (.ref C))
  (cL:Cal P w K mg base CX0 199 "leaves" ["one"] (fT 62)) (cPi:Cal P w K mg base CX0 199 "pair_in" ["bench","names"] (lJ K)) (cR:Cal P w K mg base CX0 199 "ready_phials" ["bench","phials","much"] pI) (cN:Cal P w K mg base CX0 199 "need_of" ["tree"] (cK 62)) (cS:Cal P w K mg base CX0 199 "steps_of" ["tree"] (iS T' 62)) (mT:MCal P w K mg base CX0 199 C "take_step" ["self","word","path"] (pG C)):FnOk P w K mg base (CXg P w) 200 f fd ["bench","phials","tree"] (uX T' c0 c1):=by
 refine F.okF iV (λvs H Q E h=>?_) (λcdv A outer s H vs Q E hr h=>?_)
 ·obtain ⟨_,_,_,_,_,_,_,_,_,_,_,_,_,_,_,_,_,_,_,_,_,_,rfl,_⟩:=h
  rfl
 ·obtain ⟨b,r,q,l,t,m,rs,us,vs,rv,ps,es,u1,u2,us',n,d,ch,nd,nm,W,y,rfl,sd,tr,lt,k1,k2,k3⟩:=h
  refine ⟨_,(aD (aK (i:=3) iV.nd rfl (Or.inl rfl) (aL cPi hr rfl aS (aA (pv 0) (aA (lV (N':=["ware","many"]) (cl:=[]) (g:=gTup K 2 (mD (dW 0) (mD (dW 1) gNil))) (λ_=>[none,none]) rfl rfl (by decide +kernel) (by decide +kernel) (fF (by decide +kernel)) (λ_ _=>gE)
    (jA (aL cL hr rfl aS (aA (pv 2) aC))) (λ_ _ _ _ _=>fX rfl (bJ (aR (i:=0) ndWm rfl (Or.inl rfl) (Or.inr rfl)) (bJ (aR (i:=1) ndWm rfl (Or.inl rfl) (Or.inr rfl)) eI)))
    (λ_ _ _ _ _=>fA) (λ_ _ _ _ _=>pv 0)) aC))))
   (aD (bK (aM lW (pv 3) gZ (aV _)) (aH (nI (k:=1) rfl xe_f rfl (hr.mono (by decide)) rfl R.r0.m (R.r0.e "place" (by simp)).i F0 b0 (aA (fY dO aG) (aA (fY dO aG) (aA (pv 3) aC))))) aY)
   (aD (aK (i:=4) iV.nd rfl (Or.inl rfl) (aL cR hr rfl aS (aA (pv 0) (aA (pv 1) (aA (pit 2 2) aC)))))
   (aD (aK (i:=5) iV.nd rfl (Or.inl rfl) (aL cN hr rfl aS (aA (pv 2) aC)))
   (aD (bK (aM qA (aQ bA rfl T.len BA (aA (pv 4) aC)) (pv 5) (aV _)) (aH (nI (k:=1) rfl xe_f rfl (hr.mono (by decide)) rfl R.r1.m (R.r1.e "need" (by simp)).i F1 b1 (aA (pv 5) (aA (aQ bA rfl T.len BA (aA (pv 4) aC)) aC)))) aY)
   (aD (aK (i:=6) iV.nd rfl (Or.inl rfl) (aDh M FI hr rfl mC bI .nil aS (aA (pv 2) (aA (pv 4) (aA (fB (N':=["phial","phials"]) (λσ=>[none,some 1].map λt=>t.bind λj=>(σ[j]?).join) rfl rfl (by decide +kernel) (by decide +kernel)
      (tZ (sc:=aJ sRows) rfl (by decide +kernel)) (λ_ _ _=>gR (sc:=aJ sRows) (N:=["bench","phials","tree","pair","ready","need","work","word","path"]) [none,some 1] rfl rfl rfl rfl (by decide +kernel))
    (jA (pv 4)) (λ_ _ _ _ _ _=>aR (i:=0) ndPp rfl (Or.inl rfl))
    (λ_ _ _ _ _ _=>iL (aM (zY (K:=K) rfl hr.units) (bE (gM (K:=K) rfl) (bE (rZ (K:=K) rfl) (pv 1) (pv 0) (λ_ _=>rfl)) aG (λ_ _=>rfl)) (aT aC) (aV _)))
    (λ_ _ _ _ _ _=>pv 0)) aC)))))
   (aD (bP Bs.leaving rfl (jA (aL cS hr rfl aS (aA (pv 2) aC))) (fX rfl (bJ (aR (i:=7) iV.nd rfl (Or.inl rfl)) (bJ (aR (i:=8) iV.nd rfl (Or.inl rfl)) eI))) (aH (bB (aDg L.cl mT hr aS (pv 6) (aA (pv 7) (aA (pv 8) aC))))))
   (aH (aU (aT (aA (bU (pv 6) rfl) (aA (jC (iE hr) (bU (pv 6) rfl) (aT aC) (λ_ _=>rfl)) (aA (aQ (uI hr.units) rfl T.sorted' boot_sorted (aA (bU (pv 6) rfl) aC)) aC))))))))))))),?_⟩
  refine cut8 ?_
  intros
  have tn:=tr.tn;refine ⟨_,rfl,_,rfl,.ref t,ch,nm,rfl,tn.hn,tn.sz,λes1 l1 H1 s1 nl1 hl1 lv1=>?_⟩;refine ⟨l1,rfl,⟨_,SqL.of hl1⟩,λD hD=>?_⟩;refine oP (Ys.list (SqL.of hl1)) (lvs 62 ch nm) (by rw [Ac];exact lv1.len) (λ_=>true) (λx y _=>y=.str x) (λ_ _ _ _ h _=>h) hD (by rw [Ac,lv1.len];have:=qH (n:=62) (ch:=ch) (nm:=nm);have:=tn.sz;omega) (λi x rr H' R1 R2 hx hr' sm q1 q2=>?_) (λys H2 s2 hD2 pd=>?_)
  ·rw [Aj] at hx
   obtain ⟨e,he,rfl⟩:=Cf.mp hx;obtain ⟨x',hx',mm,hm⟩:=nM lv1 he;rw [hr'] at hx';cases hx';exact ⟨e,_,rfl,SqT.of (sm _ _ hm),rfl,_,_,rfl,_,_,rfl,rfl,((Keep.refl _).set rfl).set rfl,_,rfl,q1 rfl _ _ (Same.refl _) rfl⟩
  rw [List.filter_eq_self.mpr λ_ _=>rfl] at pd;have ey:=aFp (H:=H) (es:=[]) pd;rw [ey] at hD2;have s12:=s1.trans s2;have sd2:=sd.bn.keep s12.tk;refine ⟨b,r,q,rs,us,rv,ps,D,lvs 62 ch nm,rfl,sd2,SqL.of hD2,?_⟩;have pi:=jF (xs:=lvs 62 ch nm) sd2.pt
  by_cases hp:pairOf us ps (lvs 62 ch nm)=.non
  rotate_left
  ·obtain ⟨a,x,y',ea,ha,wx,wy⟩:=pi.resolve_left hp
   rw [ea];refine ⟨_,rfl,rfl,_,rfl,iteT ?_⟩;exact ⟨_,rfl,_,rfl,_,rfl,aC5 ha wx wy ((k1 a ea).mono s12)⟩
  replace k2:=k2 hp;replace k3:=k3 hp;rw [hp];refine ⟨_,rfl,rfl,_,rfl,iteF ?_⟩;have tr2:=tr.keep s12.tk;refine ⟨_,rfl,_,rfl,t,_,_,rfl,SqT.of tr2.rt.ht,rfl,b,r,q,l,rs,us,vs,rv,ps,es,.ref m,y,rfl,sd.keep s12,tr2.rm,λRd H3 s3 nRd hRd=>?_⟩;have s13:=s12.trans s3;have tr3:=tr.keep s13.tk;refine ⟨_,rfl,.ref t,n,d,rfl,tr3.tr,λH4 s4=>?_⟩;have s14:=s13.trans s4;have hRd4:=s4 _ _ hRd;have d62:=Tr.nh tr.tr;have d0:=tr.tr.need;have rl8:(rdyL es rv y).length<=8:=by
   have:=aFc (es:=es) (rv:=rv) (y:=y);have e:=CH sd.bn.rm;have:=sd.bn.l8;omega
  have eln:(((rdyL es rv y).map λ(k:Nat)=>V.int (k:Int)).length:Int)=((rdyL es rv y).length:Int):=by rw [Ac]
  refine ⟨_,rfl,Rd,_,rfl,.inl (SqL.of hRd4),_,rfl,_,_,rfl,rfl,_,rfl,?_⟩;rw [eln];refine ite2 (λhc=>?_) (λhc=>?_)
  ·have lt':((rdyL es rv y).length:Int)<d:=of_decide_eq_true hc
   have ed:d=((d.toNat:Nat):Int):=by omega
   refine ⟨_,rfl,_,rfl,Rd,_,rfl,.inl (SqL.of hRd4),?_⟩;rw [eln];have:=aFe (c:=c1) (n:=d.toNat) (p:=(rdyL es rv y).length) (H:=H4) (E:=E) (by omega) (by omega) ((k2 lt').mono s14);rw [<- ed] at this;exact this
  have dle:d<=((rdyL es rv y).length:Int):=by
   have:¬ ((rdyL es rv y).length:Int)<d:=λz=>hc (decide_eq_true z);omega
  replace k3:=k3 dle;have vl:=sd.ln;have rvl:=CH sd.bn.rm;refine ⟨_,rfl,_,rfl,_,rfl,Rd,rfl,⟨_,SqL.of hRd4⟩,λD2 nD2=>?_⟩;refine aBg (Ys.list (SqL.of hRd4)) (λy=>∃ n:Int,y=.int n) nD2 (by rw [Ac];omega) (λi x H' R1 R2 hx sm q1 q2=>?_) (λys H5 s5 hD5 yl hy=>?_)
  ·rw [Aj] at hx
   obtain ⟨kk',hk',rfl⟩:=Cf.mp hx;have kl:kk'<rv.length:=Bv.mp (Ba.mp (AJ hk')).1;obtain ⟨v,hv⟩:∃ v,vs[kk']?=some v:=⟨_,Af (by omega)⟩;obtain ⟨e,he,pv⟩:=nM sd.ph hv;have sH':=s14.trans sm;obtain ⟨a,h,nn,hs,ns',rfl,h1,h2,_,h3⟩:=pv.keep sH'.tk;refine ⟨(Keep.refl _).set rfl,_,rfl,_,rfl,l,_,(kk':Int),.ref a,rfl,rfl,SqL.of (sH' _ _ sd.hl),aZ hv,a,_,1,.ref nn,rfl,rfl,SqT.of h1,aZ (j:=1) rfl,zLn0,λz nz=>?_⟩;have sz:=Same.upd (o:=.tup []) nz;exact ⟨nn,z,_,rfl,rfl,SqT.of (sz _ _ h3),SqT.of aB,_,rfl,ite2 (λ_=>⟨_,rfl,q1 _ _ sz ⟨_,rfl⟩⟩) (λ_=>q2 _ sz)⟩
  obtain ⟨un,rfl⟩:=aD8 hy;have s15:=s14.trans s5;have hRd5:=s5 _ _ hRd4;intro p dx np ndx dxp;have up:∀ bb o,H5 bb=some o->bb≠p/\upd (upd H5 dx (.own p)) p (.ins C dx []) bb=some o:=λbb o hb=>by
   have n1:=aI hb np;have n2:=aI hb ndx;exact ⟨n1,by rw [aE n1,aE n2];exact hb⟩
  refine ⟨p,dx,Rd,D2,.ref t,zI (rdyL es rv y),un,rfl,aB,by rw [uM];exact (up _ _ hRd5).2,(up _ _ hD5).2,λA6 H6 eA B6 kp6=>⟨rfl,?_⟩⟩;have s56:Same H5 H6:=λbb o hb=>(kp6 bb o (up bb o hb).2 (up bb o hb).1).1;have o56:∀ bb o,H5 bb=some o->Ot A6 bb:=λbb o hb=>(kp6 bb o (up bb o hb).2 (up bb o hb).1).2;have s16:=s15.trans s56;have tr6:=tr.keep s16.tk;have lt6:LT H6 T':=LamT.keep lt s16;have wh:Wh ch nd:=⟨tr.hf.hd.tt,tn.sz⟩;have W6:Ws C H6 A6 (.ref t) ch (zI (rdyL es rv y)) []:=⟨[],[],zI (rdyL es rv y),un,[],[],B6,Bi _,rfl,(λ_ h=>nomatch h),by rfl,λi hi=>hi,Bi _,λq=>rfl,⟨[],rfl,Cp,(λ_ h=>nomatch h),λk a q h=>by simp at h⟩,Bi _⟩;subst eA;refine ⟨_,rfl,.ref t,ch,nd,rfl,tr6.hf,tr.c1,wh,lt6,λss R7 H7 sb7 lt7 nR7 hR7 sv pl=>?_⟩;have ok:=aDd wh.tt pl trivial tr.c1;have tk67:=pU sb7 lt6;have W7:Ws C H7 A6 (.ref t) ch (zI (rdyL es rv y)) []:=by
   obtain ⟨rows,as,fr,un',kp,ka,B,r1,r2,r3,r4,r5,r6,r7,st,r8⟩:=W6;exact ⟨rows,as,fr,un',kp,ka,B.b sb7 lt6,r1,r2,r3,r4,r5,r6,r7,st.keep tk67,r8⟩
  have oR:Ot A6 R7:=B6.otN nR7;have len:=aB3 wh.tt ok.lg;have wsz:=wh.sz;rw [Ac,Ac] at len;have tr7:=tr6.keep tk67;refine ⟨R7,rfl,⟨_,SqL.of hR7⟩,?_⟩;refine oH (λi σ H'=>∃ v7 v8:Option V,σ=[some (.ref b),some (.ref l),some (.ref t),some .non,some (.ref Rd),some (.int d),some (.ref A6.p),v7,v8]/\Kw A6 H7 H'/\Ws C H' A6 (.ref t) ch (zI (rdyL es rv y)) (((ss.map (·.2)).map (·.2)).take i))
   ⟨none,none,rfl,Kw.refl,W7⟩ (λi σ H' _ ⟨_,_,_,kw,_⟩=>SqL.of (kw _ _ oR hR7)) ?_ ?_
  ·intro i xv σ H8 D hN hx hh
   obtain ⟨v7,v8,rfl,kw8,W8⟩:=hh;rw [Aj] at hx;obtain ⟨sx,hsx,rfl⟩:=Cf.mp hx;have il:i<ss.length:=(Ah.mp hsx).1;have tk78:Tk H7 H8:=by
    obtain ⟨_,_,_,_,_,_,B,_⟩:=W7;exact B.tk kw8
   obtain ⟨pa,hsa,hpa⟩:=(sv sx (AJ hsx)).keep tk78;have e1:(ss.map (·.2))[i]?=some sx.2:=by rw [Aj,hsx];rfl
   have il2:i<(ss.map (·.2)).length:=by rw [Ac];exact il
   have sp:ss.map (·.2)=(ss.map (·.2)).take i++(sx.2.1,sx.2.2)::(ss.map (·.2)).drop (i+1):=by
    conv=>lhs;rw [<- EE i (ss.map (·.2))]
    rw [Cq il2]
    congr 2
    rw [Af il2] at e1;exact AS e1
   have wok:=ok.wo _ _ _ _ sp;have et:((ss.map (·.2)).map (·.2)).take (i+1)=((ss.map (·.2)).map (·.2)).take i++[sx.2.2]:=by
    rw [Dd,Aj,e1];rfl
   have eg:((ss.map (·.2)).take i).map (·.2)=((ss.map (·.2)).map (·.2)).take i:=by rw [List.map_take]
   rw [eg] at wok;have pfx:((ss.map (·.2)).map (·.2)).take i++[sx.2.2] <+: (ss.map (·.2)).map (·.2):=by rw [<- et];exact List.take_prefix ..
   have lg:=ok.lg.pre pfx;have hvl:=ok.nar _ pfx;rw [tr.e0] at hvl;have ne:=(lg _ sx.2.2 [] rfl).2.1;obtain ⟨yy,jj,ey⟩:∃ yy jj,sx.2.2=yy++[jj]:=⟨_,_,qO ne⟩;rw [ey] at hpa lg wok hvl et;obtain ⟨dx8,h8⟩:∃ dx8,H8 A6.p=some (.ins C dx8 (wfl (.ref t) A6.lr A6.ls A6.lf A6.lu A6.dp A6.da)):=by
    obtain ⟨_,_,_,_,_,_,B,_⟩:=W8;exact B.ob
   refine ⟨sx.1,_,rfl,SqT.of hsa,rfl,_,_,rfl,_,_,rfl,rfl,?_⟩;refine ⟨_,rfl,A6.p,dx8,_,rfl,h8,(by kernel_rfl),_,rfl,_,rfl,A6,sx.2.1,pa,yy,jj,.ref t,ch,nd,zI (rdyL es rv y),_,rfl,hpa,W8,(tr7.keep tk78).hf,wh,lg,wok,?_,?_,?_,λH9 W9 kw9=>hN _ _ ⟨_,_,rfl,kw8.trans kw9,by rw [et];exact W9⟩⟩
   ·rw [Ac]
    omega
   ·rw [CL]
    omega
   ·rw [Ac]
    omega
  ·intro σ H8 hh
   obtain ⟨v7,v8,rfl,kw8,W8⟩:=hh;have e:((ss.map (·.2)).map (·.2)).take ((ss.map λs=>V.ref s.1).length)=(ss.map (·.2)).map (·.2):=Dw (by simp);rw [e] at W8;obtain ⟨rows,as,fr,un',kp,ka,B,r1,r2,r3,r4,r5,r6,r7,st,r8⟩:=W8;obtain ⟨dx8,h8⟩:=B.ob;have root0:pk []∈kk kp:=by
    rw [r2,kT ok.lg];refine ⟨⟨0,(ok.mem _).mpr ⟨Vp.app.mpr ⟨trivial,tr.c1⟩,List.nil_prefix,by simp⟩⟩,λh=>?_⟩;exact ((ok.mem _).mp h).2.2 rfl
   obtain ⟨v,hv⟩:=BY.mp (gL.mpr root0);obtain ⟨i,ei,hi⟩:=r3 _ (lA hv);have ei:v=.int i:=ei;subst ei;have al:as.length<64:=by
    obtain ⟨qs,ql,qn,q1,_⟩:=st;have:=aC4 wh.tt qn λq hq=>⟨(q1 q hq).1,(q1 q hq).2.1⟩;have:=tr.rc;omega
   refine ⟨_,rfl,A6.p,C,dx8,_,_,rfl,h8,L.cl,L.nR,uN,_,rfl,A6.p,C,dx8,_,_,rfl,h8,L.cl,L.nP,iQ,zLn0,λz nz=>?_⟩;have sz:=Same.upd (o:=.tup []) nz;have hz:upd H8 z (.tup []) z=some (.tup (pth [])):=aB;have B9:=B.keep sz;have st9:=st.keep sz.tk;have s89:=Kw.of (A:=A6) sz;generalize upd H8 z (.tup [])=H9 at sz hz B9 st9 s89 ⊢;obtain ⟨dx9,h9⟩:=B9.ob;obtain ⟨n1,n2⟩:=uS st9;refine ⟨A6.dp,.int i,rfl,by rw [<- hv];exact DGet.t B9.d (pkv hz),_,rfl,A6.p,C,dx9,_,_,rfl,h9,L.cl,L.nS,aEp,A6.ls,as,rfl,SqL.of B9.s,al,n1,n2,λso as' pm nso=>⟨zLn3,λpp npp=>?_⟩⟩;have t1:=Same.upd (o:=.lst (as'.map V.ref)) nso;have t2:=Same.upd (o:=.tup [.ref A6.lr,.int i,.ref so]) npp;have t12:=t1.trans t2;refine k3 pp A6.lr so i _ _ _ (λbb o nb hb=>?_) aB (t12 _ _ B9.r) (t2 _ _ aB) hi;have h5:=s15 _ _ hb;exact t12 _ _ (sz _ _ (kw8 _ _ (o56 _ _ h5) (sb7 _ _ nb (s56 _ _ h5))))
end
def vC (K:Ab)(Tb:Addr):Sp:=λvs H Q _=>∃ (a:Addr) (ns:List Int),vs=[.ref a]/\SqL K H a (ns.map V.int)/\ns.length<=63/\H Tb=some (.tbl #[])/\∀ H',Q (.bl true) H'
theorem lS {vs:List V}:(!((Ay (min vs.length vs.length)).all (λ_=>true)&&vs.length==vs.length))=false:=by simp
def aDe {H:Hp}{vs:List V}{es:List Bool}(h:Paired (PhV H) vs es):∀ v∈vs,∃ a,v=.ref a:=by
 induction h with
 |nil=>intro v hv;cases hv
 |cons h _ ih=>
  intro v hv
  rcases Aw.mp hv with e|hv
  ·obtain ⟨a,_,_,_,_,e',_⟩:=h
   exact ⟨a,e.trans e'⟩
  ·exact ih v hv
section
variable {P:AF}{w:World}{K:Ab}{mg:Str->Option Value}{base:Heap}{cP c0 c1 c2 c3 c4 f0 f1:Addr}
def gJ:FnScope ["_law_script","_law_wares_here","_law_root_here","_law_bench","_law_phials","_law_pair","_law_ready_here","_law_need_here","_law_handed","_law_error","_law_found","e"] ["_law_script"] (aJ sLaw):=fnScOk (by decide +kernel)
set_option maxHeartbeats 0 in
def aFx {Tb:Addr}{f:Addr}{fd:AM}(F:Fun K "law" "law" sLaw f fd)(T:Txt mg)(R:ErW K mg cP c0 c1 c2 c3 c4 f0 f1)(cC:Cal P w K mg base CX0 200 "_law_cell_at" ["_law_script","_law_k"] (gU K))(cWa:Cal P w K mg base CX0 200 "_law_wares" ["_law_cell"] pE)
  (cCt:Cal P w K mg base CX0 200 "_law_counts" ["_law_script","_law_start","_law_last"] (lM K)) (cRo:Cal P w K mg base CX0 200 "_law_root" ["_law_script","_law_wares_here","_law_counts_here"] (uY K))
  (cSt:Cal P w K mg base CX0 200 "_law_stand" ["_law_script","_law_root_here","_law_wares_here"] (pH K)) (cTo:Cal P w K mg base CX0 200 "_law_touch" ["_law_bench","_law_root_here"] pF) (cRd:Cal P w K mg base CX0 200 "_law_ready" ["_law_bench","_law_phials","_law_root_here"] lI) (cNe:Cal P w K mg base CX0 200 "_law_need" ["_law_part"] (cK 62))
  (cRw:Cal P w K mg base (CXg P w) 200 "rows_made" ["bench","phials","tree"] (uX Tb c0 c1)) (cRf:Cal P w K mg base CX0 200 "_law_refused" ["_law_error","_law_pair","_law_need_here","_law_many"] (iT c0 c1)) (cWh:Cal P w K mg base CX0 200 "_law_whole" ["_law_found"] lG):FnOk P w K mg base CX0 201 f fd ["_law_script"] (vC K Tb):=by
 refine F.ok gJ (λvs H Q E h=>?_) (λcdv A outer s H vs Q E hr h=>?_)
 ·obtain ⟨_,_,rfl,_⟩:=h
  rfl
 ·obtain ⟨a,ns,rfl,ha,l63,hT,k⟩:=h
  refine ⟨_,(aD (aK (i:=1) gJ.nd rfl (Or.inl rfl) (aL cWa hr rfl aS (aA (aL cC hr rfl aS (aA (pv 0) (aA aG aC))) aC)))
   (aD (aK (i:=2) gJ.nd rfl (Or.inl rfl) (aL cRo hr rfl aS (aA (pv 0) (aA (pv 1) (aA (aL cCt hr rfl aS (aA (pv 0) (aA aG (aA aG aC)))) aC)))))
   (aD (kL (aL cSt hr rfl aS (aA (pv 0) (aA (pv 2) (aA (pv 1) aC)))) (fX rfl (bJ (aR (i:=3) gJ.nd rfl (Or.inl rfl)) (bJ (aR (i:=4) gJ.nd rfl (Or.inl rfl)) eI))))
   (aD (aK (i:=5) gJ.nd rfl (Or.inl rfl) (aL cTo hr rfl aS (aA (pv 3) (aA (pv 2) aC))))
   (aD (aK (i:=6) gJ.nd rfl (Or.inl rfl) (aL cRd hr rfl aS (aA (pv 3) (aA (pv 4) (aA (pv 2) aC)))))
   (aD (aK (i:=7) gJ.nd rfl (Or.inl rfl) (aL cNe hr rfl aS (aA (pv 2) aC)))
   (aD (aK (i:=8) gJ.nd rfl (Or.inl rfl) (bY eV rfl T.list' jT (aA (pv 4) aC)))
   (aD (aK (i:=9) gJ.nd rfl (Or.inl rfl) gZ)
   (aD (aK (i:=10) gJ.nd rfl (Or.inl rfl) gZ)
   (aD (aC9 (i:=11) (j:=9) ⟨rfl,rfl,rfl⟩ rfl R.mP R.ct gJ.nd rfl rfl rfl rfl (by decide) (λpins E' σ Ec hp=>aH (aK (i:=10) gJ.nd rfl (Or.inl rfl) (aDk cRw hr rfl hp (aA (pv 3) (aA (pv 8) (aA (pv 2) aC)))))))
   (aD (bK (aM (aFt hr.units) (pv 8) (pv 4) (aV _)) (aH (aU pY)) aY)
   (aD (bK (PW.pt (nG (aM lW (pv 5) gZ (aV _)) (kK (aM qA (aQ bA rfl T.len BA (aA (pv 6) aC)) (pv 7) (aV _))))) (aH (aU (aL cRf hr rfl aS (aA (pv 9) (aA (pv 5) (aA (pv 7) (aA (aQ bA rfl T.len BA (aA (pv 6) aC)) aC))))))) aY)
   (aD (bK (PW.pt (nG (aM lW (pv 9) gZ (aV _)) (nG (iW (eP (aQ gC rfl T.isi Ci (aA (pv 10) (aA (gK (v:=.ty "tuple") rfl T.tup' eN rfl) aC))))) (nG (aM aG7 (aQ bA rfl T.len BA (aA (pv 10) aC)) aG (aV _)) (kK (iW (eP (aQ gC rfl T.isi Ci (aA (pit 10 0) (aA (gK (v:=.ty "list") rfl T.list' jT rfl) aC)))))))))) (aH (aU pY)) aY)
   (aH (aU (hG (aL cWh hr rfl aS (aA (pit 10 1) aC)) (hG (cZ dH (pit 10 1) (pv 6) rfl) (kO (aQ gC rfl T.isi Ci (aA (pit 10 2) (aA (gK (v:=.ty "list") rfl T.list' jT rfl) aC))))))))))))))))))))),?_⟩
  refine aHl ?_
  intros
  refine ⟨_,rfl,a,ns,0,rfl,ha,by decide,λc0'=>⟨c0',rfl,λwr ws H1 w6 wnd wwr s1 nw hw=>?_⟩⟩;refine ⟨_,rfl,_,rfl,_,rfl,a,ns,rfl,s1.seq ha,λcs c H2 ct s2 nc hc=>?_⟩;refine ⟨a,ws,c,ns,wr,cs,rfl,(s1.trans s2).seq ha,s2 _ _ hw,w6,hc,ct,λroot n d H3 s3 tr n100 d1 rq=>?_⟩;have s13:=(s1.trans s2).trans s3;obtain ⟨ch,nd,hf,end0,epn⟩:=tr.hf;have tt:=hf.hd.tt;obtain ⟨nm,hn⟩:=hf.hd.hn;obtain ⟨rr,rn,r61⟩:=rq;obtain ⟨t,m,yk,x,us',rfl,ht,am⟩:=tr.shows;obtain ⟨y,rm⟩:=Am.rm am (by omega);have c1':1<=ch []:=by
   by_cases z:ch []=0
   ·have:=tt.zero [] trivial z
    omega
   ·omega
  have rc:(rps ch 62).length<=61:=by rw [rn.count hf.hd];exact r61
  have tn:Tn H3 (.ref t) ch nm wr:=⟨hn,by omega,rn.names hn,by omega⟩;have rt:Rt H3 t m (.str yk) (.str x) us' n:=⟨ht,am,tr.size,n100⟩;have tree:Tree H3 t m (.str yk) (.str x) us' n d ch nd nm wr y:=⟨tr,hf,tn,rt,rm,end0,c1',rc⟩;refine ⟨_,rfl,_,rfl,_,rfl,a,t,m,ws,ns,.str yk,.str x,us',n,ch,nm,wr,wr,rfl,s13.seq ha,rt,tn,(s2.trans s3) _ _ hw,w6,wwr,λp b r q l rs us vs rv ps es H4 s4 nl hp sd=>?_⟩;refine ⟨p,_,rfl,SqT.of hp,rfl,_,_,rfl,_,_,rfl,rfl,?_⟩;have tree4:=tree.keep s4.tk;have tn4:=tree4.tn;refine ⟨_,rfl,_,rfl,.ref t,ch,nm,wr,b,r,q,rs,us,rv,ps,rfl,sd.bn,tn4.hn,tn4.sz,tn4.nw,tn4.w6,λH5 s5=>?_⟩;have sd5:=sd.keep s5;have tree5:=tree4.keep s5.tk;refine ⟨_,rfl,_,rfl,_,rfl,b,r,q,l,rs,us,vs,rv,ps,es,t,m,.str yk,.str x,us',y,rfl,sd5,tree5.rt.ht,tree5.rm,λRd H6 s6 nRd hRd=>?_⟩;have tree6:=tree5.keep s6.tk;refine ⟨_,rfl,.ref t,n,d,rfl,tree6.tr,λH7 s7=>?_⟩;have s57:=s6.trans s7;have sd7:=sd5.keep s57;have hRd7:=s7 _ _ hRd;refine ⟨_,rfl,l,_,rfl,.inl (SqL.of sd7.hl),λhd' nhd=>?_⟩;have s78:=Same.upd (o:=.lst vs) nhd;have hha:upd H7 hd' (.lst vs) hd'=some (.lst vs):=aB;generalize upd H7 hd' (.lst vs)=H8 at s78 hha ⊢;have sd8:=sd7.keep s78;have sdh:Sd H8 b r q hd' rs us vs rv ps es:=⟨sd8.bn,hha,sd8.ph,sd8.ln⟩;have s38:=s4.trans (s5.trans (s57.trans s78));have tree8:=tree.keep s38.tk;have s08:=s13.trans s38;have lt8:LT H8 Tb:=.inl (s08 _ _ hT);have hRd8:=s78 _ _ hRd7;have d0:=tr.need;have ed:d=((d.toNat:Nat):Int):=by omega
  have rfs:=aDe sd.ph;have eln:(((rdyL es rv y).map λ(k:Nat)=>V.int (k:Int)).length:Int)=((rdyL es rv y).length:Int):=by rw [Ac]
  have pi:=jF (xs:=lvs 62 ch nm) sd8.bn.pt;refine ⟨rfl,_,rfl,_,rfl,_,rfl,b,r,q,hd',t,m,rs,us,vs,rv,ps,es,.str yk,.str x,us',n,d,ch,nd,nm,wr,y,rfl,sdh,tree8,lt8,?_,?_,?_⟩
  ·intro aa ea dx H9 s9 hdx
   refine ⟨c0,rfl,(R.r0.e "place" (by simp)).i.k,R.r0.s,λe he=>⟨_,rfl,?_⟩⟩;have sA:=Same.upd (o:=excD e c0 (some dx)) he;have hee:upd H9 e (excD e c0 (some dx)) e=some (excD e c0 (some dx)):=aB;generalize upd H9 e (excD e c0 (some dx))=HA at sA hee ⊢;have s8A:=s9.trans sA;have sdA:=sd8.keep s8A;refine ⟨_,rfl,hd',l,vs,vs,(λ_=>true),rfl,rfl,SqL.of (s8A _ _ hha),SqL.of sdA.hl,λj u v hu hv=>?_,_,rfl,?_⟩
   ·rw [hu] at hv
    cases hv;obtain ⟨a',rfl⟩:=rfs u (AJ hu);exact .same
   rw [lS];refine iteF ?_;rw [ea];refine ⟨_,rfl,rfl,_,rfl,iteT ?_⟩;obtain ⟨za,xa,ya,e1,hza,_,_⟩:=pi.resolve_left (by rw [ea];exact λz=>by cases z);rw [ea] at e1;cases e1;refine ⟨_,rfl,_,rfl,_,rfl,_,rfl,Rd,_,rfl,.inl (SqL.of (s8A _ _ hRd8)),?_⟩;rw [eln];refine ⟨e,dx,d.toNat,(rdyL es rv y).length,.inl ⟨aa,xa,ya,by rw [<- ed];rfl,hee,sA _ _ hdx,s8A _ _ hza,λH' _=>k H'⟩⟩
  ·intro ep lt' dx H9 s9 hdx
   refine ⟨c1,rfl,(R.r1.e "need" (by simp)).i.k,R.r1.s,λe he=>⟨_,rfl,?_⟩⟩;have sA:=Same.upd (o:=excD e c1 (some dx)) he;have hee:upd H9 e (excD e c1 (some dx)) e=some (excD e c1 (some dx)):=aB;generalize upd H9 e (excD e c1 (some dx))=HA at sA hee ⊢;have s8A:=s9.trans sA;have sdA:=sd8.keep s8A;refine ⟨_,rfl,hd',l,vs,vs,(λ_=>true),rfl,rfl,SqL.of (s8A _ _ hha),SqL.of sdA.hl,λj u v hu hv=>?_,_,rfl,?_⟩
   ·rw [hu] at hv
    cases hv;obtain ⟨a',rfl⟩:=rfs u (AJ hu);exact .same
   rw [lS];refine iteF ?_;rw [ep];refine ⟨_,rfl,rfl,_,rfl,iteF ⟨_,rfl,Rd,_,rfl,.inl (SqL.of (s8A _ _ hRd8)),_,rfl,_,_,rfl,rfl,_,rfl,?_⟩⟩;rw [eln,decide_eq_true lt'];refine iteT ⟨_,rfl,_,rfl,_,rfl,_,rfl,Rd,_,rfl,.inl (SqL.of (s8A _ _ hRd8)),?_⟩;rw [eln];refine ⟨e,dx,d.toNat,(rdyL es rv y).length,.inr ⟨by rw [<- ed];rfl,hee,sA _ _ hdx,λH' _=>k H'⟩⟩
  ·intro ep dle pp lr so i xs zs H9 sb9 hpp hlr hso hi
   have nb:∀ {bb:Addr} {o:HO},H8 bb=some o->(∀ ps,o≠.tbl ps)->H9 bb=some o:=λ{bb o} hb hne=>sb9 _ _ (dS lt8 hb hne) hb;have hha9:=nb hha (λ_ z=>by cases z);have hl9:=nb sd8.hl (λ_ z=>by cases z);have hRd9:=nb hRd8 (λ_ z=>by cases z);refine ⟨_,rfl,_,rfl,hd',l,vs,vs,(λ_=>true),rfl,rfl,SqL.of hha9,SqL.of hl9,λj u v hu hv=>?_,_,rfl,?_⟩
   ·rw [hu] at hv
    cases hv;obtain ⟨a',rfl⟩:=rfs u (AJ hu);exact .same
   rw [lS];refine iteF ?_;rw [ep];refine ⟨_,rfl,rfl,_,rfl,iteF ⟨_,rfl,Rd,_,rfl,.inl (SqL.of hRd9),_,rfl,_,_,rfl,rfl,_,rfl,?_⟩⟩;rw [eln,decide_eq_false (by omega)];refine iteF ?_;refine ⟨_,rfl,rfl,_,rfl,iteF ⟨_,rfl,_,"tuple",true,rfl,.tup_tuple (SqT.of hpp),_,rfl,iteF ⟨_,rfl,pp,_,rfl,.inr (SqT.of hpp),rfl,_,rfl,iteF ⟨pp,_,_,rfl,SqT.of hpp,rfl,_,"list",true,rfl,.lst_list (SqL.of hlr),_,rfl,iteF ?_⟩⟩⟩⟩;refine ⟨pp,_,_,rfl,SqT.of hpp,rfl,i,rfl,_,rfl,iteT ⟨pp,_,_,rfl,SqT.of hpp,rfl,_,rfl,Rd,_,rfl,.inl (SqL.of hRd9),rfl,by rw [<- uM];exact oI _,_,rfl,?_⟩⟩;have hin:inV (.int i) ((rdyL es rv y).map λ(k:Nat)=>V.int (k:Int))=true:=by rw [<- uM];exact xP.mpr hi
   refine ite2 (λ_=>?_) (λhz=>absurd hin hz);exact ⟨pp,_,_,rfl,SqT.of hpp,rfl,_,"list",true,rfl,.lst_list (SqL.of hso),k _⟩
end
def bA1 {p:List Value->Prop}(h:∀ a0,p [a0]):∀ us:List Value,us.length=1->p us:=λus e=>by
 obtain _|⟨a0,us⟩:=us
 ·cases e
 obtain _|⟨b,us⟩:=us
 ·exact h a0
 ·simp at e
def bA2 {p:List Value->Prop}(h:∀ a0 a1,p [a0,a1]):∀ us:List Value,us.length=2->p us:=λus e=>by
 obtain _|⟨a0,us⟩:=us
 ·cases e
 obtain _|⟨a1,us⟩:=us
 ·cases e
 obtain _|⟨b,us⟩:=us
 ·exact h a0 a1
 ·simp at e
def bA3 {p:List Value->Prop}(h:∀ a0 a1 a2,p [a0,a1,a2]):∀ us:List Value,us.length=3->p us:=λus e=>by
 obtain _|⟨a0,us⟩:=us
 ·cases e
 obtain _|⟨a1,us⟩:=us
 ·cases e
 obtain _|⟨a2,us⟩:=us
 ·cases e
 obtain _|⟨b,us⟩:=us
 ·exact h a0 a1 a2
 ·simp at e
def bA4 {p:List Value->Prop}(h:∀ a0 a1 a2 a3,p [a0,a1,a2,a3]):∀ us:List Value,us.length=4->p us:=λus e=>by
 obtain _|⟨a0,us⟩:=us
 ·cases e
 obtain _|⟨a1,us⟩:=us
 ·cases e
 obtain _|⟨a2,us⟩:=us
 ·cases e
 obtain _|⟨a3,us⟩:=us
 ·cases e
 obtain _|⟨b,us⟩:=us
 ·exact h a0 a1 a2 a3
 ·simp at e
structure Dn (K:Ab)(x:Str)(st:Stmt)(ps:List Str):Prop where
 ex:∃ (f:Addr) (fd:AM),AC K As x=some (some (.ref f))/\Fun K x x st f fd/\Binds K fd ps []
def Dn.mk' {K:Ab}{x:Str}{st:Stmt}{ps:List Str}{f:Addr}{oc:Value}{od an:Option Addr}{osl:Array (Option Value)}{kV doc pm cdv ct:Value}(a:AC K As x=some (some (.ref f)))
  (l:K.lookup f=some ⟨oc,od,.func (BD x x (cJ st) (bW st) (aJ st) .none kV doc pm an cdv ct),osl⟩) (c:CJ K cdv x=true) (k:BK K (.ref f)=true)
  (hb:∀ (kV doc pm:Value) (an:Option Addr) (cdv ct:Value) (us:List Value),us.length=ps.length->bindArgs (BD x x (cJ st) (bW st) (aJ st) .none kV doc pm an cdv ct) ⟨us,[]⟩=pure (ps.zip us)):Dn K x st ps:=
 ⟨f,_,a,hU (st:=st) l c k,(hU (st:=st) l c k).binds hb⟩
def Dn.cal {P:AF}{w:World}{K:Ab}{mg:Str->Option Value}{base h:Heap}{CX:CXT}{k:Nat}{x:Str}{st:Stmt}{ps:List Str}{sp:Sp}(D:Dn K x st ps)(X:K.In h)(G:h.Ns As mg)
  (ok:∀ {f:Addr} {fd:AM},Fun K x x st f fd->FnOk P w K mg base CX k f fd ps sp):Cal P w K mg base CX k x ps sp:=by
 obtain ⟨f,fd,a,F,b⟩:=D.ex;exact ⟨f,fd,Cz X G a,F.kp,b,ok F⟩
structure DnC (K:Ab)(x:Str)(st:Stmt)(ps:List Str)(c T:Addr):Prop where
 ex:∃ (f:Addr) (fd:AM),AC K As x=some (some (.ref f))/\FunC K x x st f fd c/\Binds K fd ps []
 tab:PySem.W.tabIn K x=some (c,T)
def DnC.mk' {K:Ab}{x:Str}{st:Stmt}{ps:List Str}{f c T:Addr}{oc oc':Value}{od an od':Option Addr}{osl osl':Array (Option Value)}{kV doc pm ct:Value}{vs:Array Value}(a:AC K As x=some (some (.ref f)))
  (l:K.lookup f=some ⟨oc,od,.func (BD x x (cJ st) (bW st) (aJ st) .none kV doc pm an (.ref c) ct),osl⟩) (hc:CJ K (.ref c) x=true) (k:BK K (.ref f)=true)
  (lc:K.lookup c=some ⟨oc',od',.fields vs,osl'⟩) (hv:vs[11]?=some (.ref T))
  (hb:∀ (kV doc pm:Value) (an:Option Addr) (cdv ct:Value) (us:List Value),us.length=ps.length->bindArgs (BD x x (cJ st) (bW st) (aJ st) .none kV doc pm an cdv ct) ⟨us,[]⟩=pure (ps.zip us)):DnC K x st ps c T:=by
 refine ⟨⟨f,_,a,⟨⟨oc,od,kV,doc,pm,an,ct,osl,rfl,l,hc⟩,k⟩,(hU (st:=st) l hc k).binds hb⟩,?_⟩;unfold PySem.W.tabIn;rw [a];dsimp only;rw [l];dsimp only [BD];rw [lc];dsimp only;rw [hv]
def DnC.cal {P:AF}{w:World}{K:Ab}{mg:Str->Option Value}{base h:Heap}{CX:CXT}{k:Nat}{x:Str}{st:Stmt}{ps:List Str}{sp:Sp}{c T:Addr}(D:DnC K x st ps c T)(X:K.In h)(G:h.Ns As mg)
  (ok:∀ {f:Addr} {fd:AM},FunC K x x st f fd c->FnOk P w K mg base CX k f fd ps sp):Cal P w K mg base CX k x ps sp:=by
 obtain ⟨f,fd,a,F,b⟩:=D.ex;exact ⟨f,fd,Cz X G a,F.kp,b,ok F⟩
structure MDn (K:Ab)(C:Addr)(m qual:Str)(st:Stmt)(ps:List Str):Prop where
 ex:∃ (f:Addr) (fd:AM),Meth K C m f/\Fun K m qual st f fd/\Binds K fd ps []
def MDn.mk' {K:Ab}{C:Addr}{m qual:Str}{st:Stmt}{ps:List Str}{f:Addr}{oc:Value}{od an:Option Addr}{osl:Array (Option Value)}{kV doc pm cdv ct:Value}(a:AZ K (.ref C) m=some (some (.ref f)))(i:PySem.W.isFn K (.ref f)=true)
  (l:K.lookup f=some ⟨oc,od,.func (BD m qual (cJ st) (bW st) (aJ st) .none kV doc pm an cdv ct),osl⟩) (c:CJ K cdv qual=true) (k:BK K (.ref f)=true)
  (hb:∀ (kV doc pm:Value) (an:Option Addr) (cdv ct:Value) (us:List Value),us.length=ps.length->bindArgs (BD m qual (cJ st) (bW st) (aJ st) .none kV doc pm an cdv ct) ⟨us,[]⟩=pure (ps.zip us)):MDn K C m qual st ps:=
 ⟨f,_,⟨a,i,k⟩,hU (st:=st) l c k,(hU (st:=st) l c k).binds hb⟩
def MDn.cal {P:AF}{w:World}{K:Ab}{mg:Str->Option Value}{base:Heap}{CX:CXT}{k:Nat}{C:Addr}{m qual:Str}{st:Stmt}{ps:List Str}{sp:Sp}(D:MDn K C m qual st ps)(ok:∀ {f:Addr} {fd:AM},Fun K m qual st f fd->FnOk P w K mg base CX k f fd ps sp):MCal P w K mg base CX k C m ps sp:=by
 obtain ⟨f,fd,hm,F,b⟩:=D.ex;exact ⟨f,fd,hm,b,ok F⟩
structure ClsK (K:Ab)(C:Addr):Prop where
 mgC:AC K As "Work" = some (some (.ref C))
 cl:Cls K C
 nT:NoAttr K C "tree"
 nR:NoAttr K C "rows"
 nS:NoAttr K C "stands"
 nF:NoAttr K C "free"
 nU:NoAttr K C "unclean"
 nP:NoAttr K C "phial_of"
 nA:NoAttr K C "arrived"
 mks:PySem.W.makesIn K C=true
 kc:BK K (.ref C)=true
 m_sInit:MDn K C "__init__" "Work.__init__" zE ["self","tree","ready","unclean"]
 m_sTakeS:MDn K C "take_step" "Work.take_step" rF ["self","word","path"]
 m_sOwn:MDn K C "own_phial" "Work.own_phial" sOwn ["self","path"]
 m_sNoteA:MDn K C "note_arrival" "Work.note_arrival" rG ["self","path"]
def cls_mk {K:Ab}{C:Addr}(mgC:AC K As "Work" = some (some (.ref C)))(cl:Cls K C)(nT:NoAttr K C "tree")(nR:NoAttr K C "rows")(nS:NoAttr K C "stands")(nF:NoAttr K C "free")(nU:NoAttr K C "unclean")(nP:NoAttr K C "phial_of")(nA:NoAttr K C "arrived")(mk:PySem.W.makesIn K C=true)(kc:BK K (.ref C)=true)
  (m_sInit:MDn K C "__init__" "Work.__init__" zE ["self","tree","ready","unclean"]) (m_sTakeS:MDn K C "take_step" "Work.take_step" rF ["self","word","path"]) (m_sOwn:MDn K C "own_phial" "Work.own_phial" sOwn ["self","path"]) (m_sNoteA:MDn K C "note_arrival" "Work.note_arrival" rG ["self","path"]):∃ C:Addr,ClsK K C:=
 ⟨C,mgC,cl,nT,nR,nS,nF,nU,nP,nA,mk,kc,m_sInit,m_sTakeS,m_sOwn,m_sNoteA⟩
def one_mk {K:Ab}{aO:Addr}(h:AC K As "ONE" = some (some (.ref aO))):∃ aO:Addr,AC K As "ONE" = some (some (.ref aO)):=⟨_,h⟩
structure Er1K (K:Ab)(cP c f:Addr)(nm qn:Str)(sE:Stmt)(fs ps:List Str):Prop where
 e:∀ x∈fs,ExF K c cP f x
 s:PySem.W.subIn K (.ref c) (.ref cP)=some true
 v:AO K (.ref c) (.type "ValueError")=some true
 m:AC K As nm=some (some (.ref c))
 fn:∃ fd:AM,Fun K "__init__" qn sE f fd/\Binds K fd ps []
def fn_mkE {K:Ab}{f:Addr}{oc:Value}{od an:Option Addr}{osl:Array (Option Value)}{kV doc pm cdv ct:Value}{qn:Str}{st:Stmt}{ps:List Str}
  (l:K.lookup f=some ⟨oc,od,.func (BD "__init__" qn (cJ st) (bW st) (aJ st) .none kV doc pm an cdv ct),osl⟩) (c:CJ K cdv qn=true) (k:BK K (.ref f)=true)
  (hb:∀ (kV doc pm:Value) (an:Option Addr) (cdv ct:Value) (us:List Value),us.length=ps.length->bindArgs (BD "__init__" qn (cJ st) (bW st) (aJ st) .none kV doc pm an cdv ct) ⟨us,[]⟩=pure (ps.zip us)) :
  ∃ fd:AM,Fun K "__init__" qn st f fd/\Binds K fd ps []:=
 ⟨_,hU (st:=st) l c k,(hU (st:=st) l c k).binds hb⟩
def ex1 {K:Ab}{c cP f:Addr}{x:Str}(e:ExF K c cP f x):∀ y∈[x],ExF K c cP f y:=λy h=>by
 cases Al.mp h;exact e
def ex2 {K:Ab}{c cP f:Addr}{x y:Str}(e:ExF K c cP f x)(n:AZ K (.ref c) y=some none):∀ z∈[x,y],ExF K c cP f z:=List.forall_mem_cons.mpr ⟨e,ex1 ⟨e.i,e.sa,n⟩⟩
def ex3 {K:Ab}{c cP f:Addr}{x y z:Str}(e:ExF K c cP f x)(n:AZ K (.ref c) y=some none)(o:AZ K (.ref c) z=some none):∀ u∈[x,y,z],ExF K c cP f u:=List.forall_mem_cons.mpr ⟨e,ex2 ⟨e.i,e.sa,n⟩ o⟩
def er1_mk {K:Ab}{cP c f:Addr}{od:Option Addr}{cd:ClassData}{sl:Array (Option Value)}{nm qn:Str}{sE:Stmt}{fs ps:List Str}(m:AC K As nm=some (some (.ref c)))(_lk:K.lookup c=some ⟨.type "type",od,.cls cd,sl⟩)(_ni:AC K cd.ns "__init__" = some (some (.ref f)))
  (e:∀ x∈fs,ExF K c cP f x) (s:PySem.W.subIn K (.ref c) (.ref cP)=some true) (v:AO K (.ref c) (.type "ValueError")=some true) (fn:∃ fd:AM,Fun K "__init__" qn sE f fd/\Binds K fd ps []):Er1K K cP c f nm qn sE fs ps:=⟨e,s,v,m,fn⟩
structure ErWK (K:Ab)(cP c0 c1 c2 c3 c4 f0 f1:Addr):Prop where
 ct:CtK K cP
 bi:BaseI K cP
 mP:AC K As "PhialError" = some (some (.ref cP))
 r0:Er1K K cP c0 f0 "Touch" "Touch.__init__" sE0 ["place","phial","pair"] ["self","place","phial","pair"]
 r1:Er1K K cP c1 f1 "Few" "Few.__init__" sE1 ["need","ready"] ["self","need","ready"]
 m2:AC K As "Spilt" = some (some (.ref c2))
 m3:AC K As "Wet" = some (some (.ref c3))
 m4:AC K As "NoDeed" = some (some (.ref c4))
 i00:AO K (.ref c0) (.ref c0)=some true
 i01:AO K (.ref c0) (.ref c1)=some false
 i02:AO K (.ref c0) (.ref c2)=some false
 i03:AO K (.ref c0) (.ref c3)=some false
 i04:AO K (.ref c0) (.ref c4)=some false
 i10:AO K (.ref c1) (.ref c0)=some false
 i11:AO K (.ref c1) (.ref c1)=some true
 i12:AO K (.ref c1) (.ref c2)=some false
 i13:AO K (.ref c1) (.ref c3)=some false
 i14:AO K (.ref c1) (.ref c4)=some false
theorem ErWK.er {K:Ab}{mg:Str->Option Value}{h:Heap}{cP c0 c1 c2 c3 c4 f0 f1:Addr}(E:ErWK K cP c0 c1 c2 c3 c4 f0 f1)(X:K.In h)(G:h.Ns As mg):ErW K mg cP c0 c1 c2 c3 c4 f0 f1:=
 { ct:=E.ct,bi:=E.bi,mP:=Cz X G E.mP,r0:=⟨E.r0.e,E.r0.s,E.r0.v,Cz X G E.r0.m⟩,r1:=⟨E.r1.e,E.r1.s,E.r1.v,Cz X G E.r1.m⟩,m2:=Cz X G E.m2,m3:=Cz X G E.m3,m4:=Cz X G E.m4,i00:=E.i00,i01:=E.i01,i02:=E.i02,i03:=E.i03,i04:=E.i04,i10:=E.i10,i11:=E.i11,i12:=E.i12,i13:=E.i13,i14:=E.i14 }
def errw_mk {K:Ab}{cP c0 c1 c2 c3 c4 f0 f1:Addr}(mP:AC K As "PhialError" = some (some (.ref cP)))(ct:CtK K cP)(bi:BaseI K cP)
  (r0:Er1K K cP c0 f0 "Touch" "Touch.__init__" sE0 ["place","phial","pair"] ["self","place","phial","pair"]) (r1:Er1K K cP c1 f1 "Few" "Few.__init__" sE1 ["need","ready"] ["self","need","ready"])
  (m2:AC K As "Spilt" = some (some (.ref c2))) (m3:AC K As "Wet" = some (some (.ref c3))) (m4:AC K As "NoDeed" = some (some (.ref c4))) (i00:AO K (.ref c0) (.ref c0)=some true) (i01:AO K (.ref c0) (.ref c1)=some false) (i02:AO K (.ref c0) (.ref c2)=some false) (i03:AO K (.ref c0) (.ref c3)=some false) (i04:AO K (.ref c0) (.ref c4)=some false) (i10:AO K (.ref c1) (.ref c0)=some false) (i11:AO K (.ref c1) (.ref c1)=some true) (i12:AO K (.ref c1) (.ref c2)=some false) (i13:AO K (.ref c1) (.ref c3)=some false) (i14:AO K (.ref c1) (.ref c4)=some false):∃ cP c0 c1 c2 c3 c4 f0 f1:Addr,ErWK K cP c0 c1 c2 c3 c4 f0 f1:=
 ⟨_,_,_,_,_,_,_,_,{ ct:=ct,bi:=bi,mP:=mP,r0:=r0,r1:=r1,m2:=m2,m3:=m3,m4:=m4,i00:=i00,i01:=i01,i02:=i02,i03:=i03,i04:=i04,i10:=i10,i11:=i11,i12:=i12,i13:=i13,i14:=i14 }⟩
structure AllD (K:Ab):Prop where
 dLess:Dn K "less" sLess ["one","other"]
 dPairIn:Dn K "pair_in" sPairIn ["bench","names"]
 dPartAt:Dn K "part_at" sPartAt ["tree","path"]
 dNeedOf:Dn K "need_of" sNeedOf ["tree"]
 dNeeds:Dn K "needs_of_children" sNeeds ["tree"]
 dStepsOf:Dn K "steps_of" sStepsOf ["tree"]
 dWithin:Dn K "steps_within" sWithin ["part","path"]
 dLeaves:Dn K "leaves" sLeaves ["one"]
 dRows:Dn K "rows_made" sRows ["bench","phials","tree"]
 dReadyP:Dn K "ready_phials" sReadyP ["bench","phials","much"]
 dCell:Dn K "_law_cell_at" sCell ["_law_script","_law_k"]
 dMixed:Dn K "_law_mixed" sMixed ["_law_cell","_law_k"]
 dWhole:Dn K "_law_whole" sWhole ["_law_found"]
 dLowest:Dn K "_law_lowest" sLowest ["_law_top","_law_bottom"]
 dAdd:Dn K "_law_add" sAdd ["_law_one","_law_other"]
 dBy:Dn K "_law_by" sBy ["_law_one","_law_other"]
 dUnder:Dn K "_law_under" sUnder ["_law_one","_law_other"]
 dDigit:Dn K "_law_digit" sDigit ["_law_left","_law_many"]
 dNames:Dn K "_law_names" sNames ["_law_left"]
 dWares:Dn K "_law_wares" sWares ["_law_cell"]
 dMuch:Dn K "_law_much" sMuch ["_law_number"]
 dFreeC:Dn K "_law_free_counts" sFreeC ["_law_left","_law_most"]
 dCounts:Dn K "_law_counts" sCounts ["_law_script","_law_start","_law_last"]
 dTotal:Dn K "_law_total" sTotal ["_law_parts"]
 dFreeR:Dn K "_law_free_root" sFreeR ["_law_left","_law_wares_here","_law_counts_here"]
 dRoot:Dn K "_law_root" sRoot ["_law_script","_law_wares_here","_law_counts_here"]
 dPaths:Dn K "_law_paths" sPaths ["_law_root_here"]
 dNeed:Dn K "_law_need" sNeed ["_law_part"]
 dWaresIn:Dn K "_law_wares_in" sWaresIn ["_law_root_here"]
 dFreeSt:Dn K "_law_free_stand" sFreeSt ["_law_script","_law_root_here","_law_wares_here"]
 dFreeP:Dn K "_law_free_pairs" sFreeP ["_law_script","_law_root_here","_law_wares_here"]
 dStand:Dn K "_law_stand" sStand ["_law_script","_law_root_here","_law_wares_here"]
 dTouch:Dn K "_law_touch" sTouch ["_law_bench","_law_root_here"]
 dReady:Dn K "_law_ready" sReady ["_law_bench","_law_phials","_law_root_here"]
 dRefused:Dn K "_law_refused" sRefused ["_law_error","_law_pair","_law_need_here","_law_many"]
 z0:AC K As "isinstance" = some none
 z1:AC K As "int" = some none
 z2:AC K As "bool" = some none
 z3:AC K As "tuple" = some none
 z4:AC K As "len" = some none
 z5:AC K As "range" = some none
 z6:AC K As "min" = some none
 z7:AC K As "max" = some none
 z8:AC K As "abs" = some none
 z9:AC K As "list" = some none
 z10:AC K As "sorted" = some none
 z11:AC K As "sum" = some none
 z12:AC K As "reversed" = some none
 z13:AC K As "enumerate" = some none
 z14:AC K As "set" = some none
 z15:AC K As "ValueError" = some none
 one:∃ aO:Addr,AC K As "ONE" = some (some (.ref aO))
 cls:∃ C:Addr,ClsK K C
 err:∃ cP c0 c1 c2 c3 c4 f0 f1:Addr,ErWK K cP c0 c1 c2 c3 c4 f0 f1
def AllD.txt {K:Ab}{mg:Str->Option Value}{h:Heap}(A:AllD K)(X:K.In h)(G:h.Ns As mg):Txt mg:=⟨Bf X G A.z0,Bf X G A.z1,Bf X G A.z2,Bf X G A.z3,Bf X G A.z4,Bf X G A.z5,Bf X G A.z6,Bf X G A.z7,Bf X G A.z8,Bf X G A.z9,Bf X G A.z10,Bf X G A.z11,Bf X G A.z12,Bf X G A.z13,Bf X G A.z14,Bf X G A.z15⟩
def aF2 {P:AF}{w:World}{K:Ab}{mg:Str->Option Value}{base h:Heap}{f c Tb:Addr}{fd:AM}(X:K.In h)(G:h.Ns As mg)(A:AllD K)(C:DnC K "recipes_by_need" zD ["children"] c Tb)(B:LamB mg base c Tb)(F:Fun K "law" "law" sLaw f fd):FnOk P w K mg base CX0 201 f fd ["_law_script"] (vC K Tb):=by
 have T:Txt mg:=A.txt X G;obtain ⟨aO,hO⟩:=A.one;have mO:=Cz X G hO;obtain ⟨CW,CK⟩:=A.cls;have L:Cl K mg CW:=⟨CK.cl,CK.nT,CK.nR,CK.nS,CK.nF,CK.nU,CK.nP,CK.nA⟩;obtain ⟨fI,fdI,hI,FI,bI⟩:=CK.m_sInit.ex;have GI:FnOk P w K mg base CX0 1 fI fdI ["self","tree","ready","unclean"] (pN CW):=aDw FI T L;obtain ⟨cP,c0,c1,c2,c3,c4,f0,f1,EK⟩:=A.err;have R:ErW K mg cP c0 c1 c2 c3 c4 f0 f1:=EK.er X G;obtain ⟨g0,F0,b0⟩:=EK.r0.fn;obtain ⟨g1,F1,b1⟩:=EK.r1.fn;have cC:Cal P w K mg base CX0 1 "_law_cell_at" ["_law_script","_law_k"] (gU K):=A.dCell.cal X G λF=>aDx F T;have cX:Cal P w K mg base CX0 1 "_law_mixed" ["_law_cell","_law_k"] gG:=A.dMixed.cal X G aAo;have cLo:Cal P w K mg base CX0 1 "_law_lowest" ["_law_top","_law_bottom"] eD:=A.dLowest.cal X G wI;have cAd:Cal P w K mg base CX0 2 "_law_add" ["_law_one","_law_other"] vD:=A.dAdd.cal X G λF=>aFy F cLo;have cDi:Cal P w K mg base CX0 1 "_law_digit" ["_law_left","_law_many"] fJ:=A.dDigit.cal X G aAs;have cNa:Cal P w K mg base CX0 2 "_law_names" ["_law_left"] pM:=A.dNames.cal X G λF=>aAn F T cDi;have cWa:Cal P w K mg base CX0 3 "_law_wares" ["_law_cell"] pE:=A.dWares.cal X G λF=>aAd F T cNa (cX.mono (by decide));have cMu:Cal P w K mg base CX0 2 "_law_much" ["_law_number"] vB:=A.dMuch.cal X G λF=>aDu F cLo;have cFc:Cal P w K mg base CX0 2 "_law_free_counts" ["_law_left","_law_most"] pQ:=A.dFreeC.cal X G λF=>aAr F T cDi;have cCt:Cal P w K mg base CX0 3 "_law_counts" ["_law_script","_law_start","_law_last"] (lM K):=A.dCounts.cal X G λF=>wL F T (cC.mono (by decide)) (cX.mono (by decide)) cFc;have cTo:Cal P w K mg base CX0 3 "_law_total" ["_law_parts"] lH:=A.dTotal.cal X G λF=>aAg F cAd;have cFr:Cal P w K mg base CX0 4 "_law_free_root" ["_law_left","_law_wares_here","_law_counts_here"] pO:=A.dFreeR.cal X G λF=>aAp F T (cDi.mono (by decide)) (cLo.mono (by decide)) cTo;have cRo:Cal P w K mg base CX0 5 "_law_root" ["_law_script","_law_wares_here","_law_counts_here"] (uY K):=A.dRoot.cal X G λF=>aDr F T (cC.mono (by decide)) (cX.mono (by decide)) (cMu.mono (by decide)) cFr (cTo.mono (by decide));have cN:∀ n:Nat,Cal P w K mg base CX0 (2*n+1) "need_of" ["tree"] (cK n):=λn=>by
  induction n with
  |zero=>exact A.dNeedOf.cal X G λ_=>aD0
  |succ n ih=>exact A.dNeedOf.cal X G λF=>wH F T (A.dNeeds.cal X G λF=>aAm F ih)
 have cL:∀ n:Nat,Cal P w K mg base CX0 (n+1) "_law_need" ["_law_part"] (cK n):=λn=>by
  induction n with
  |zero=>exact A.dNeed.cal X G λ_=>aAv
  |succ n ih=>exact A.dNeed.cal X G λF=>aDt F T ih
 have cW:Cal P w K mg base CX0 1 "_law_whole" ["_law_found"] lG:=A.dWhole.cal X G λF=>aAc F T;have cPa:Cal P w K mg base CX0 1 "_law_paths" ["_law_root_here"] pJ:=A.dPaths.cal X G λF=>aAk F T;have cAt:Cal P w K mg base CX0 1 "part_at" ["tree","path"] iG:=A.dPartAt.cal X G wF;have cLs:Cal P w K mg base CX0 1 "less" ["one","other"] kH:=A.dLess.cal X G aDv;have cUn:Cal P w K mg base CX0 1 "_law_under" ["_law_one","_law_other"] kH:=A.dUnder.cal X G aAe;have cPi:Cal P w K mg base CX0 1 "pair_in" ["bench","names"] (lJ K):=A.dPairIn.cal X G wG;have cWi:Cal P w K mg base CX0 2 "_law_wares_in" ["_law_root_here"] eR:=A.dWaresIn.cal X G λF=>tL F T cPa;have cTc:Cal P w K mg base CX0 3 "_law_touch" ["_law_bench","_law_root_here"] pF:=A.dTouch.cal X G λF=>aAf F cWi;have cRp:Cal P w K mg base CX0 2 "ready_phials" ["bench","phials","much"] pI:=A.dReadyP.cal X G λF=>wD F T cLs;have cRl:Cal P w K mg base CX0 2 "_law_ready" ["_law_bench","_law_phials","_law_root_here"] lI:=A.dReady.cal X G λF=>aAj F T cUn;have cBy:Cal P w K mg base CX0 2 "_law_by" ["_law_one","_law_other"] spBy:=A.dBy.cal X G λF=>aHa F cLo;have cFs:Cal P w K mg base CX0 3 "_law_free_stand" ["_law_script","_law_root_here","_law_wares_here"] (lK K):=A.dFreeSt.cal X G λF=>wK F T (cC.mono (by decide)) (cDi.mono (by decide)) (cLo.mono (by decide)) (cAd.mono (by decide)) (cBy.mono (by decide));have cFp:Cal P w K mg base CX0 3 "_law_free_pairs" ["_law_script","_law_root_here","_law_wares_here"] (pP K):=A.dFreeP.cal X G λF=>aAq F T (cC.mono (by decide)) (cDi.mono (by decide)) (cWi.mono (by decide));have cSd:Cal P w K mg base CX0 4 "_law_stand" ["_law_script","_law_root_here","_law_wares_here"] (pH K):=A.dStand.cal X G λF=>aAi F T (cC.mono (by decide)) (cX.mono (by decide)) (cAd.mono (by decide)) (cBy.mono (by decide)) (cFs.mono (by decide)) (cFp.mono (by decide)) (cWi.mono (by decide));have cRf:Cal P w K mg base CX0 2 "_law_refused" ["_law_error","_law_pair","_law_need_here","_law_many"] (iT c0 c1):=A.dRefused.cal X G λF=>tN F T R cW;have mOw:MCal P w K mg base CX0 1 CW "own_phial" ["self","path"] (aCt CW):=CK.m_sOwn.cal λF=>aFw F L;have mNo:MCal P w K mg base CX0 2 CW "note_arrival" ["self","path"] (pK CW):=CK.m_sNoteA.cal λF=>aAl F T L cAt;have mTk:MCal P w K mg base CX0 3 CW "take_step" ["self","word","path"] (pG CW):=CK.m_sTakeS.cal λF=>aAh F L mO (cAt.mono (by decide)) (mOw.mono (by decide)) (mNo.mono (by decide));have cLv:∀ n:Nat,Cal P w K mg base CX0 (n+1) "leaves" ["one"] (fT n):=λn=>by
  induction n with
  |zero=>exact A.dLeaves.cal X G λ_=>wQ
  |succ n ih=>exact A.dLeaves.cal X G λF=>wJ F ih
 have cRe:∀ n:Nat,Cal P w K mg base CX0 (2*n+3) "recipes_by_need" ["children"] (uZ Tb n):=λn=>C.cal X G λF=>aDs (k:=2*n+1) F T B (cN n);have cSw:∀ n:Nat,Cal P w K mg base CX0 (2*n+4) "steps_within" ["part","path"] (fS Tb n):=λn=>by
  induction n with
  |zero=>exact A.dWithin.cal X G λ_=>wO
  |succ n ih=>exact A.dWithin.cal X G λF=>wC (k:=2*n+5) F T (ih.mono (by omega)) ((cRe n).mono (by omega))
 have cSo:Cal P w K mg base CX0 129 "steps_of" ["tree"] (iS Tb 62):=A.dStepsOf.cal X G λF=>tM F (cSw 62);have cRw:Cal P w K mg base (CXg P w) 200 "rows_made" ["bench","phials","tree"] (uX Tb c0 c1):=A.dRows.cal X G λF=>aDq F T L R (aG9 F0 R) b0 (aG8 F1 R) b1 ⟨CK.mks,hI.at_,hI.fn,CK.kc⟩ (GI.mono (by decide)) bI (Cz X G CK.mgC) ((cLv 62).mono (by decide)) (cPi.mono (by decide)) (cRp.mono (by decide)) ((cN 62).mono (by decide)) (cSo.mono (by decide)) (mTk.mono (by decide));exact aFx F T R (cC.mono (by decide)) (cWa.mono (by decide)) (cCt.mono (by decide)) (cRo.mono (by decide)) (cSd.mono (by decide)) (cTc.mono (by decide)) (cRl.mono (by decide)) ((cL 62).mono (by decide)) cRw (cRf.mono (by decide)) (cW.mono (by decide))
def all_mk {l:PySem.W.OpenLaw}{w:World}{K:Ab}{h:Heap}{mg:Str->Option Value}{fa f4 c T:Addr}(X:K.In h)(G:h.Ns As mg)(hfa:mg "law" = some (.ref fa))(A:AllD K)(C:DnC K "recipes_by_need" zD ["children"] c T)(nt:Ew K=true)
  {od4 an4:Option Addr} {sl4:Array (Option Value)} {oc4 kV4 dc4 pm4 cd4 ct4:Value}
  (a4:AC K As "law" = some (some (.ref f4))) (l4:K.lookup f4=some ⟨oc4,od4,.func (BD "law" "law" (cJ sLaw) (bW sLaw) (aJ sLaw) .none kV4 dc4 pm4 an4 cd4 ct4),sl4⟩) (c4:CJ K cd4 "law" = true) (k4:BK K (.ref f4)=true) :
  ∃ (fd:AM) (c T:Addr),PySem.W.tabIn K "recipes_by_need" = some (c,T)/\Ew K=true/\(∀ (s:Shared) (v:Value),BindsTo s fd ⟨[v],[]⟩ [("_law_script",v)])/\∀ base:Heap,K.In base->base.Ns As mg->LamB mg base c T->FnOk l.prog w K mg base CX0 201 fa fd ["_law_script"] (vC K T):=by
 have e:=hfa.symm.trans (Cz X G a4);cases e;exact ⟨BD "law" "law" (cJ sLaw) (bW sLaw) (aJ sLaw) .none kV4 dc4 pm4 an4 cd4 ct4,c,T,C.tab,nt,λs v=>.of_eq rfl,λbase _ _ B=>aF2 X G A C B (hU (st:=sLaw) l4 c4 k4)⟩
def walk {l:PySem.W.OpenLaw}{q:AF}{loose:List Str}{XP:(Str->Option Value)->Heap->Prop}{YP:World->Heap->Prop}{d d0:DefRec}{K:Params->Ab}(hn:l.most=some 63)(hdf:d.params.defaults=[])(hrec:(recsOf q).find? (λe=>e.name==("recipes_by_need":Str))=some d0)
  (hY:∀ (w:World) (h:Heap),YP w h->(K w.params).In h)
  (F:∀ (w:World) (mg:Str->Option Value) (fa:Addr) (h:Heap),(K w.params).In h->h.Ns As mg->mg d.name=some (.ref fa) ->
   ∃ (fd:AM) (c T:Addr),PySem.W.tabIn (K w.params) "recipes_by_need" = some (c,T)/\Ew (K w.params)=true/\(∀ (s:Shared) (u:Value),BindsTo s fd ⟨[u],[]⟩ [("_law_script",u)]) /\
    ∀ base:Heap,(K w.params).In base->base.Ns As mg->LamB mg base c T->FnOk l.prog w (K w.params) mg base CX0 201 fa fd ["_law_script"] (vC (K w.params) T)) :
  PySem.W.WalkO q loose XP YP l.row.toRowW d [] (λf vs=>PySem.call f vs):=
 L2.walk_ofT (n:=63) (k:=201) (x:="_law_script") (x0:="recipes_by_need") (CX:=λ_=>CX0) (sp:=λw T=>vC (K w.params) T) hn (by decide) hdf ⟨rfl,by decide,by decide,rfl⟩ hrec hY F (λ_ _ _ a ns hl hT hS=>⟨a,ns,rfl,hS,hl,hT,λ_=>rfl⟩) λ_ _ _ _ _ z=>z
end K45
namespace PySem.W.Fast
def tw8277371550499849833:=()
def tw1682628588958170483:=()
def tw17128062282298318002:=()
def tw11877697259739704718:=()
def tw14588210193931250129:=()
def tw3300815302951701478:=()
def tw7711974713618982975:=()
def tw6640157727368930796:=()
def tw12973779177964027368:=()
def tw674752381088557543:=()
def tw8606554413344032985:=()
def tw9236817780770490828:=()
def tw6184736978581789353:=()
def tw18324145092602497527:=()
def tw11657615161634022132:=()
def tw15496645218984097632:=()
def tw4778468796558467084:=()
def tw15991204662815135759:=()
def tw8038561162790577613:=()
def tw3577079821192959361:=()
def tw14547321480606892468:=()
def tw8116764428872798223:=()
def tw17601793951721296014:=()
def tw12150705759466430333:=()
def tw4708514546157027899:=()
def tw10057255025759272832:=()
def tw9301849279380830634:=()
def tw9329088831673285281:=()
def tw3785025719485874006:=()
def tw17544759451769963870:=()
def tw11353210037387024785:=()
def tw2128112812405532002:=()
def tw12641357385545843187:=()
def tw12519424081165934734:=()
def tw14057054999691484768:=()
def tw2497505587118509032:=()
def tw1092399914561204574:=()
def tw7439250334169555737:=()
def tw13661136148483822779:=()
def tw16354688318690009088:=()
def tw3243732126266783450:=()
def tw11812973183140010077:=()
def tw9983977623940002407:=()
def tw9546276761400178811:=()
def tw16848732298995979404:=()
def tw15108209184451497408:=()
def tw3637354977933791641:=()
def tw13703347785541392761:=()
def tw14371427601095846754:=()
def tw2994337339405479185:=()
def tw1902983968596470137:=()
def tw5273985694460885082:=()
def tw4180906851897656693:=()
def tw4459983871813834:=()
def tw6728844750862676909:=()
def tw889455645964480423:=()
def tw9313847573377566379:=()
def tw10758760410135968364:=()
def tw397291910699035719:=()
def tw2900267018492161298:=()
def tw14604790540301640522:=()
def tw305460521417040987:=()
def tw14547388742477468490:=()
def tw579348663103709543:=()
def tw808544534018891479:=()
def tw5318262122629467838:=()
def tw14613702317157984878:=()
def tw18157705160943674235:=()
def tw14426170301290249619:=()
def tw7847774588754187478:=()
def tw3710213373214676001:=()
def tw16652104905393321308:=()
def tw8388092233605756892:=()
def tw1828910524543319859:=()
def tw6433073578073691654:=()
def tw4460414728979418513:=()
def tw18389857407369314508:=()
def tw16383419810769894782:=()
def tw1344430101342939254:=()
def tw1892975614188014054:=()
def tw2230140758538295594:=()
def tw1971139418792961703:=()
def tw14885537184652086803:=()
def tw11070844571711070398:=()
def tw14166091385274161935:=()
def tw2836363022450741122:=()
def tw18192925322903715167:=()
def tw9674434128545304106:=()
def tw1270623230038046841:=()
def tw17850165593408788132:=()
def tw2535482132554162416:=()
def tw16995309146551712631:=()
def tw11529512055897436878:=()
def tw13582156463305831175:=()
def tw16995844733335715567:=()
def tw16653756953274993062:=()
def tw613963736651668292:=()
def tw2417688777843768081:=()
def tw5998782748960914479:=()
def tw15597535550956229987:=()
def tw4534122902261610728:=()
def tw5868329350840120207:=()
def tw18378831809848068031:=()
def tw5973141490882956531:=()
def tw292068475403728299:=()
def tw3858309064896548275:=()
def tw11615602200886099951:=()
def tw14746703494878124027:=()
def tw11960983357266408728:=()
def tw14361168329681044557:=()
def tw9440174019273289774:=()
def tw4633769920103312988:=()
def tw11724177401134174692:=()
def tw10696844915729786663:=()
def tw7314560528871014839:=()
def tw16804941242341226552:=()
def tw7672660163693143984:=()
def tw2370149990201924565:=()
def tw9562906520044172479:=()
def tw239912086273303387:=()
def tw12595951866063237936:=()
def tw18164778925029264202:=()
def tw12613701405753822410:=()
def tw1303131952347572298:=()
def tw15337967148066884062:=()
def tw10206838593640286301:=()
def tw18198151279863508787:=()
def tw1590800241967882184:=()
def tw17033995620355163005:=()
def tw5418186820478046452:=()
def tw8597814843962290057:=()
def tw8732040988524040702:=()
def tw14301368592015031725:=()
def tw12023877277113838879:=()
def tw12043308902728783666:=()
def tw13534548877997508899:=()
def tw17531070865295357447:=()
def tw18087428975189676169:=()
def tw15883044829758421958:=()
def tw17444854537659402143:=()
def tw17655697331305902241:=()
def tw2646563548898283200:=()
def tw15439775927241779824:=()
def tw7036567363753317281:=()
def tw12149323494478808855:=()
def tw4177491139853451975:=()
def tw1736380809399897991:=()
def tw3579750158587563556:=()
def tw9436043209023343594:=()
def tw14373649048830722736:=()
def tw9195409586579379690:=()
def tw13141722398772659936:=()
def tw14733108393831046430:=()
def tw2920178134119478449:=()
def tw13392903985411530179:=()
def tw643479096472648407:=()
def tw9839500307959782814:=()
def tw15719826225187888430:=()
def tw15691027670931703840:=()
def tw3031208666227452389:=()
def tw1929443291325844550:=()
def tw16590029331316963499:=()
def tw15721780062894031920:=()
def tw17889374028698844128:=()
def tw12679053993834429529:=()
def tw12697917942333287635:=()
def tw7316876697524138112:=()
def tw6593476427843490158:=()
def tw11963781763609553182:=()
def tw9000473756586323594:=()
def tw12756877404083519555:=()
def tw10452337802039636460:=()
def tw5137072525900828784:=()
def tw15003931266512312501:=()
def tw13117947272882237132:=()
def tw12941238373421202851:=()
def tw3760745604610186624:=()
def tw7091889852754542792:=()
def tw14563760307211715933:=()
def tw13691568196391145632:=()
def tw2239434233895907479:=()
def tw1258549094133154728:=()
def tw6881848739858947970:=()
def tw17485523618783037355:=()
def tw3222951851288246525:=()
def tw1796120802404138278:=()
def tw14617638304924718066:=()
def tw2585694168846274884:=()
def tw9271740195336345391:=()
def tw8325233880298528853:=()
def tw14276613514909627247:=()
def tw8493827182916227012:=()
def tw2073821436829420899:=()
def tw1104812608415640999:=()
def tw2149574340269695342:=()
def tw10567057813788039636:=()
def tw5590589484731937588:=()
def tw17576453836145255909:=()
def tw14519828645871541441:=()
def tw1546779054941361380:=()
def tw8823091626326374756:=()
def tw12037495674769516666:=()
def tw1300717489999051356:=()
def tw3079905370205434419:=()
def tw14320249997307600897:=()
def tw11444275532272237770:=()
def tw3390497233873796135:=()
def tw10749819101617969911:=()
def tw2046876211796840959:=()
def tw8597581685381041812:=()
def tw5822622094624250509:=()
def tw17663064590113842174:=()
def tw4696240777226067786:=()
def tw10436023295509703613:=()
def tw352140952775624435:=()
def tw14608285710618927571:=()
def tw12756472627524897258:=()
def tw4378464962638656481:=()
def tw16785218285093766688:=()
def tw11600445040472598535:=()
def tw7578126035120575863:=()
def tw9354348373057677708:=()
def tw11622277526839150875:=()
def tw9296387687342757260:=()
def tw11350178614091004156:=()
def tw2573862179745705909:=()
def tw1789775335227204149:=()
def tw4794343746648455713:=()
def tw13865297105770445563:=()
def tw1531215724929879884:=()
def tw3087518568688686854:=()
def tw10003799243431506706:=()
def tw14378156997084034031:=()
def tw7342387737596114384:=()
def tw13725345806314984714:=()
def tw2643601965742013259:=()
def tw17692707343752356117:=()
def tw13867481321379988031:=()
def tw1634015440067299370:=()
def tw244955976439871571:=()
def tw3122048096036569202:=()
def tw8464298537892667467:=()
def tw15372632165223191595:=()
def tw15869189682679104984:=()
def tw14437412835392634108:=()
def tw15217282830113967877:=()
def tw375585987337576560:=()
def tw2496562330416770157:=()
def tw1700668774247751260:=()
def tw2285467767697215867:=()
def tw13073794506280312593:=()
def tw3440006040188501327:=()
def tw1874169564305023920:=()
def tw8725128231711121073:=()
def tw15134150727211897366:=()
def tw11237151069623014663:=()
def tw8565246643221060413:=()
def tw1887132876613835352:=()
def tw14004663362026315220:=()
def tw7074230284529150426:=()
def tw11038158716323231370:=()
def tw10421793053802489523:=()
def tw18000483599691086380:=()
def tw8766025446502849443:=()
def tw8830316970799821430:=()
def tw1256893701149799283:=()
def tw14995549258755530352:=()
def tw6087490447773950534:=()
def tw5886319043868847081:=()
def tw17109422436632046914:=()
def tw7259582258530710786:=()
def tw15966890285188250877:=()
def tw18128741534730927926:=()
def tw11922766410869725958:=()
def tw3546044310405915165:=()
def tw17817981047585945415:=()
def tw8116638316086668872:=()
def tw8237547787146957113:=()
def tw4127895274424205998:=()
def tw12679543757089365045:=()
def tw1237980545030528218:=()
def tw11461200797437708686:=()
def tw10869206731839216119:=()
def tw3520329330482689811:=()
def tw18439044251640087001:=()
def tw15584280835875007576:=()
def tw6815243544752992635:=()
def tw18436071859030534980:=()
def tw13709699991665564095:=()
def tw9484453618158122613:=()
def tw12758181943528893744:=()
def tw9596091116805024669:=()
def tw14283887797041567957:=()
def tw3517751542546968989:=()
def tw14962400163468827423:=()
def tw1476638540751693841:=()
def tw1427401077032232795:=()
def tw11993282904904567294:=()
def tw9024763772274513219:=()
def tw13276749719988363025:=()
def tw10331018914449988847:=()
def tw5432150724153629835:=()
def tw11752114355105737847:=()
def tw5625144103979775381:=()
def tw12037973172124205094:=()
def tw12639112750393796483:=()
def tw10823079105497570518:=()
def tw15822227331258296577:=()
def tw1120025501627299414:=()
def tw8533187259962197876:=()
end PySem.W.Fast
open PySem PySem.W PyProof.Rows
set_option maxRecDepth 100000 in
set_option maxHeartbeats 0 in
theorem PySem.Challenge.cw_phialhouse_k45_too_few_phials_holds : PySem.Challenge.rw_phialhouse_k45_too_few_phials.Holds := by
 w_on;o_law;k_head;(case hw=>w_witness2)
 k_fill
 refine K45.walk (l:=PySem.Challenge.rw_phialhouse_k45_too_few_phials) rfl rfl rfl (λw h Y=>PySem.W.km_in_of Y) ?F
 case F=>
  intro w mg fa h KX G hmg
  obtain ⟨dLess,dPairIn,dPartAt,dNeedOf,dNeeds,dStepsOf,dWithin,dLeaves,dRows,dReadyP,dCell,dMixed,dWhole,dLowest,dAdd,dBy,dUnder,dDigit,dNames,dWares,dMuch,dFreeC,dCounts,dTotal,dFreeR,dRoot,dPaths,dNeed,dWaresIn,dFreeSt,dFreeP,dStand,dTouch,dReady,dRefused⟩:K45.Dn (L2.KOf KX) "less" K45.sLess ["one","other"]/\K45.Dn (L2.KOf KX) "pair_in" K45.sPairIn ["bench","names"]/\K45.Dn (L2.KOf KX) "part_at" K45.sPartAt ["tree","path"]/\K45.Dn (L2.KOf KX) "need_of" K45.sNeedOf ["tree"]/\K45.Dn (L2.KOf KX) "needs_of_children" K45.sNeeds ["tree"]/\K45.Dn (L2.KOf KX) "steps_of" K45.sStepsOf ["tree"]/\K45.Dn (L2.KOf KX) "steps_within" K45.sWithin ["part","path"]/\K45.Dn (L2.KOf KX) "leaves" K45.sLeaves ["one"]/\K45.Dn (L2.KOf KX) "rows_made" K45.sRows ["bench","phials","tree"]/\K45.Dn (L2.KOf KX) "ready_phials" K45.sReadyP ["bench","phials","much"]/\K45.Dn (L2.KOf KX) "_law_cell_at" K45.sCell ["_law_script","_law_k"]/\K45.Dn (L2.KOf KX) "_law_mixed" K45.sMixed ["_law_cell","_law_k"]/\K45.Dn (L2.KOf KX) "_law_whole" K45.sWhole ["_law_found"]/\K45.Dn (L2.KOf KX) "_law_lowest" K45.sLowest ["_law_top","_law_bottom"]/\K45.Dn (L2.KOf KX) "_law_add" K45.sAdd ["_law_one","_law_other"]/\K45.Dn (L2.KOf KX) "_law_by" K45.sBy ["_law_one","_law_other"]/\K45.Dn (L2.KOf KX) "_law_under" K45.sUnder ["_law_one","_law_other"]/\K45.Dn (L2.KOf KX) "_law_digit" K45.sDigit ["_law_left","_law_many"]/\K45.Dn (L2.KOf KX) "_law_names" K45.sNames ["_law_left"]/\K45.Dn (L2.KOf KX) "_law_wares" K45.sWares ["_law_cell"]/\K45.Dn (L2.KOf KX) "_law_much" K45.sMuch ["_law_number"]/\K45.Dn (L2.KOf KX) "_law_free_counts" K45.sFreeC ["_law_left","_law_most"]/\K45.Dn (L2.KOf KX) "_law_counts" K45.sCounts ["_law_script","_law_start","_law_last"]/\K45.Dn (L2.KOf KX) "_law_total" K45.sTotal ["_law_parts"]/\K45.Dn (L2.KOf KX) "_law_free_root" K45.sFreeR ["_law_left","_law_wares_here","_law_counts_here"]/\K45.Dn (L2.KOf KX) "_law_root" K45.sRoot ["_law_script","_law_wares_here","_law_counts_here"]/\K45.Dn (L2.KOf KX) "_law_paths" K45.sPaths ["_law_root_here"]/\K45.Dn (L2.KOf KX) "_law_need" K45.sNeed ["_law_part"]/\K45.Dn (L2.KOf KX) "_law_wares_in" K45.sWaresIn ["_law_root_here"]/\K45.Dn (L2.KOf KX) "_law_free_stand" K45.sFreeSt ["_law_script","_law_root_here","_law_wares_here"]/\K45.Dn (L2.KOf KX) "_law_free_pairs" K45.sFreeP ["_law_script","_law_root_here","_law_wares_here"]/\K45.Dn (L2.KOf KX) "_law_stand" K45.sStand ["_law_script","_law_root_here","_law_wares_here"]/\K45.Dn (L2.KOf KX) "_law_touch" K45.sTouch ["_law_bench","_law_root_here"]/\K45.Dn (L2.KOf KX) "_law_ready" K45.sReady ["_law_bench","_law_phials","_law_root_here"]/\K45.Dn (L2.KOf KX) "_law_refused" K45.sRefused ["_law_error","_law_pair","_law_need_here","_law_many"]:=by
   refine ⟨?_,?_,?_,?_,?_,?_,?_,?_,?_,?_,?_,?_,?_,?_,?_,?_,?_,?_,?_,?_,?_,?_,?_,?_,?_,?_,?_,?_,?_,?_,?_,?_,?_,?_,?_⟩<;>(dsimp only [L2.KOf];refine' K45.Dn.mk' ?a ?l ?c ?k ?b;(case a=>k_is);(case l=>k_is);(case c=>k_is);(case k=>k_is);(case b=>first|exact λ_ _ _ _ _ _=>K45.bA2 λ_ _=>rfl|exact λ_ _ _ _ _ _=>K45.bA1 λ_=>rfl|exact λ_ _ _ _ _ _=>K45.bA3 λ_ _ _=>rfl|exact λ_ _ _ _ _ _=>K45.bA4 λ_ _ _ _=>rfl))
  have z0:AC (L2.KOf KX) As "isinstance" = some none:=by
   dsimp only [L2.KOf]
   k_is
  have z1:AC (L2.KOf KX) As "int" = some none:=by
   dsimp only [L2.KOf]
   k_is
  have z2:AC (L2.KOf KX) As "bool" = some none:=by
   dsimp only [L2.KOf]
   k_is
  have z3:AC (L2.KOf KX) As "tuple" = some none:=by
   dsimp only [L2.KOf]
   k_is
  have z4:AC (L2.KOf KX) As "len" = some none:=by
   dsimp only [L2.KOf]
   k_is
  have z5:AC (L2.KOf KX) As "range" = some none:=by
   dsimp only [L2.KOf]
   k_is
  have z6:AC (L2.KOf KX) As "min" = some none:=by
   dsimp only [L2.KOf]
   k_is
  have z7:AC (L2.KOf KX) As "max" = some none:=by
   dsimp only [L2.KOf]
   k_is
  have z8:AC (L2.KOf KX) As "abs" = some none:=by
   dsimp only [L2.KOf]
   k_is
  have z9:AC (L2.KOf KX) As "list" = some none:=by
   dsimp only [L2.KOf]
   k_is
  have z10:AC (L2.KOf KX) As "sorted" = some none:=by
   dsimp only [L2.KOf]
   k_is
  have z11:AC (L2.KOf KX) As "sum" = some none:=by
   dsimp only [L2.KOf]
   k_is
  have z12:AC (L2.KOf KX) As "reversed" = some none:=by
   dsimp only [L2.KOf]
   k_is
  have z13:AC (L2.KOf KX) As "enumerate" = some none:=by
   dsimp only [L2.KOf]
   k_is
  have z14:AC (L2.KOf KX) As "set" = some none:=by
   dsimp only [L2.KOf]
   k_is
  have z15:AC (L2.KOf KX) As "ValueError" = some none:=by
   dsimp only [L2.KOf]
   k_is
  have one:∃ aO:Addr,AC (L2.KOf KX) As "ONE" = some (some (.ref aO)):=by
   dsimp only [L2.KOf]
   refine' K45.one_mk ?a
   (case a=>k_is)
  have cls:∃ C:Addr,K45.ClsK (L2.KOf KX) C:=by
   dsimp only [L2.KOf]
   refine' K45.cls_mk ?mgC ⟨?pg,?hd,?po,?sa⟩ ?nT ?nR ?nS ?nF ?nU ?nP ?nA ?mk ?kc (K45.MDn.mk' ?a0 ?i0 ?l0 ?c0 ?k0 ?b0) (K45.MDn.mk' ?a1 ?i1 ?l1 ?c1 ?k1 ?b1) (K45.MDn.mk' ?a2 ?i2 ?l2 ?c2 ?k2 ?b2) (K45.MDn.mk' ?a3 ?i3 ?l3 ?c3 ?k3 ?b3)
   (case mgC=>k_is)
   (case pg=>k_is);(case hd=>k_is);(case po=>k_is);(case sa=>k_is)
   (case nT=>(show AZ _ _ _=some none;k_is));(case nR=>(show AZ _ _ _=some none;k_is));(case nS=>(show AZ _ _ _=some none;k_is));(case nF=>(show AZ _ _ _=some none;k_is));(case nU=>(show AZ _ _ _=some none;k_is));(case nP=>(show AZ _ _ _=some none;k_is));(case nA=>(show AZ _ _ _=some none;k_is))
   (case mk=>k_is);(case kc=>k_is)
   (case a0=>k_is);(case i0=>k_is);(case l0=>k_is);(case c0=>k_is);(case k0=>k_is)
   (case b0=>exact λ_ _ _ _ _ _=>K45.bA4 λ_ _ _ _=>rfl)
   (case a1=>k_is);(case i1=>k_is);(case l1=>k_is);(case c1=>k_is);(case k1=>k_is)
   (case b1=>exact λ_ _ _ _ _ _=>K45.bA3 λ_ _ _=>rfl)
   (case a2=>k_is);(case i2=>k_is);(case l2=>k_is);(case c2=>k_is);(case k2=>k_is)
   (case b2=>exact λ_ _ _ _ _ _=>K45.bA2 λ_ _=>rfl)
   (case a3=>k_is);(case i3=>k_is);(case l3=>k_is);(case c3=>k_is);(case k3=>k_is)
   (case b3=>exact λ_ _ _ _ _ _=>K45.bA2 λ_ _=>rfl)
  have err:∃ cP c0 c1 c2 c3 c4 f0 f1:Addr,K45.ErWK (L2.KOf KX) cP c0 c1 c2 c3 c4 f0 f1:=by
   dsimp only [L2.KOf]
   refine' K45.errw_mk ?mP ⟨?y1,?y2,?y3⟩ ⟨?b1,?b2,?b3⟩ (K45.er1_mk ?mz0 ?lkz0 ?niz0 (K45.ex3 ⟨⟨?xiz0,?xfz0,?xkz0,⟨?xaz0,?xbz0,?xcz0,?xdz0,?xez0,?xgz0⟩⟩,?saz0,?nnz0⟩ ?n2z0 ?n3z0) ?sz0 ?vz0 (K45.fn_mkE ?lz0 ?cz0 ?kz0 ?hbz0)) (K45.er1_mk ?mz1 ?lkz1 ?niz1 (K45.ex2 ⟨⟨?xiz1,?xfz1,?xkz1,⟨?xaz1,?xbz1,?xcz1,?xdz1,?xez1,?xgz1⟩⟩,?saz1,?nnz1⟩ ?n2z1) ?sz1 ?vz1 (K45.fn_mkE ?lz1 ?cz1 ?kz1 ?hbz1)) ?m2 ?m3 ?m4 ?i00 ?i01 ?i02 ?i03 ?i04 ?i10 ?i11 ?i12 ?i13 ?i14
   (case mP=>k_is);(case y1=>k_is);(case y2=>(show PySem.W.isClsIn _ _=true;k_is));(case y3=>k_is);(case b1=>k_is);(case b2=>k_is);(case b3=>k_is)
   (case m2=>k_is);(case m3=>k_is);(case m4=>k_is)
   (case mz0=>k_is);(case lkz0=>k_is);(case niz0=>k_is);(case xiz0=>first|kernel_rfl|rfl);(case xfz0=>k_is);(case xkz0=>k_is);(case xaz0=>k_is);(case xbz0=>k_is);(case xcz0=>k_is);(case xdz0=>k_is);(case xez0=>k_is);(case xgz0=>(show PySem.W.isClsIn _ _=true;k_is));(case saz0=>k_is);(case nnz0=>k_is);(case n2z0=>k_is);(case n3z0=>k_is);(case sz0=>k_is);(case vz0=>kit_is);(case lz0=>k_is);(case cz0=>k_is);(case kz0=>k_is)
   (case hbz0=>exact λ_ _ _ _ _ _=>K45.bA4 λ_ _ _ _=>rfl)
   (case mz1=>k_is);(case lkz1=>k_is);(case niz1=>k_is);(case xiz1=>first|kernel_rfl|rfl);(case xfz1=>k_is);(case xkz1=>k_is);(case xaz1=>k_is);(case xbz1=>k_is);(case xcz1=>k_is);(case xdz1=>k_is);(case xez1=>k_is);(case xgz1=>(show PySem.W.isClsIn _ _=true;k_is));(case saz1=>k_is);(case nnz1=>k_is);(case n2z1=>k_is);(case sz1=>k_is);(case vz1=>kit_is);(case lz1=>k_is);(case cz1=>k_is);(case kz1=>k_is)
   (case hbz1=>exact λ_ _ _ _ _ _=>K45.bA3 λ_ _ _=>rfl)
   (case i00=>kit_is);(case i01=>kit_is);(case i02=>kit_is);(case i03=>kit_is);(case i04=>kit_is);(case i10=>kit_is);(case i11=>kit_is);(case i12=>kit_is);(case i13=>kit_is);(case i14=>kit_is)
  have nt:Ew (L2.KOf KX)=true:=by
   dsimp only [L2.KOf]
   kernel_rfl
  refine' K45.all_mk KX G hmg ⟨dLess,dPairIn,dPartAt,dNeedOf,dNeeds,dStepsOf,dWithin,dLeaves,dRows,dReadyP,dCell,dMixed,dWhole,dLowest,dAdd,dBy,dUnder,dDigit,dNames,dWares,dMuch,dFreeC,dCounts,dTotal,dFreeR,dRoot,dPaths,dNeed,dWaresIn,dFreeSt,dFreeP,dStand,dTouch,dReady,dRefused,z0,z1,z2,z3,z4,z5,z6,z7,z8,z9,z10,z11,z12,z13,z14,z15,one,cls,err⟩ (K45.DnC.mk' ?ap ?lp ?cp ?kp ?lc ?hv ?bp) nt ?a4 ?l4 ?c4 ?k4
  (case ap=>k_is);(case lp=>k_is);(case cp=>k_is);(case kp=>k_is);(case lc=>k_is);(case hv=>rfl)
  (case bp=>exact λ_ _ _ _ _ _=>K45.bA1 λ_=>rfl)
  (case a4=>k_is);(case l4=>k_is);(case c4=>k_is);(case k4=>k_is)
