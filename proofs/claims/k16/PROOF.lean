import PyProof.Rows.All
import Wide.All
import OpenK.AllK
import Wide.FinOn
import Lean
import PyProof.EqAt
import PyProof.EqKinds
import PyProof.TupleCall
import PyProof.NsDelKeeps
import PyProof.ListRange
import PyProof.ExcArgsOwn
import PySem.Challenge.RW_edgetally_k16_whole_dealings_closed
set_option Elab.async false
set_option linter.all false
set_option maxRecDepth 100000
open And renaming intro→T4
open Array renaming length_toList→M0,getElem?_eq_some_iff→Nn,getD→OF,getElem?_eq_none→OR,getElem?_toList→O6,forIn_toList→PL,getElem_toList→P9,getElem?_eq_getElem→QG,getElem?_extract→TU,getElem?_push→Uy,append_assoc→UI,size_extract→UJ,toList_push→U5
open Bool renaming false_ne_true→Ms,false_eq_true→MD,and_eq_true→MU,not_true→NE,not_false→Ov,eq_iff_iff→Qm,and_self→Q5,or_true→Sh,false_and→Te,true_and→Tx,and_eq_true_iff→Uz
open Classical renaming byContradiction→SA
open Except renaming ok→Ol
open False renaming elim→NQ
open ForInStep renaming yield→Q7
open Function renaming comp→QD
open Int renaming toNat_natCast→NG,natCast_add→O7,zero_add→Pq,emod_nonneg→Qp,emod_lt_of_pos→QJ,fdiv_eq_ediv_of_nonneg→QK,le_refl→Q8,natAbs_natCast→R7
open List renaming length_map→Mj,getElem?_eq_getElem→Mn,mem_cons_of_mem→Mo,getD_eq_getElem?_getD→Mp,mem_cons_self→Mq,getElem?_map→Mt,range→Mv,length_cons→MA,replicate→MC,map_cons→ME,getElem?_eq_some_iff→MF,size_toArray→MG,mem_cons→MH,length_append→MJ,map_map→MK,mem_map→MN,mem_range→MO,length_range→MR,mem_of_getElem?→MV,sum_cons→MZ,append_nil→M2,replicate_succ→M3,mem_append_right→M4,map_append→M7,mem_singleton→Nb,nodup_cons→Nd,map_congr_left→Nk,length_set→Nm,length_singleton→Np,nil_append→NA,getElem_mem→NB,not_mem_nil→NC,append_assoc→NF,mem_append→NL,filterMap_cons→NN,length_replicate→NO,getElem?_set→NP,cons_append→NR,getElem?_range→NS,getElem?_replicate→N1,flatMap_cons→N3,getElem?_append_right→N4,drop_eq_getElem_cons→N7,map_replicate→Ob,set_cons_succ→Oc,set_cons_zero→Od,map_nil→Oj,length_nil→On,getD_cons_succ→Op,getD_cons_zero→Oq,pairwise_iff_getElem→OA,flatten_cons→OD,mem_append_left→OE,replicate_zero→OJ,length_take→OL,map_flatMap→OM,mem_flatMap→ON,sum→OO,contains_cons→OS,drop_eq_nil_of_le→OT,take_of_length_le→OU,zip_cons_cons→OV,forIn_cons→O3,range_succ→O4,forIn_nil→Pg,exists_cons_of_length_eq_add_one→Pj,ext_getElem→Pk,getElem_map→Pl,lookup_cons→Pn,take_length→Po,getElem?_append_left→Pr,mem_or_eq_of_mem_set→Ps,getElem_range→PP,pairwise_cons→PQ,length_eq_one_iff→PZ,getElem?_eq_none→P6,take_append_drop→P7,all_eq_true→P8,any_cons→Qb,map_drop→Qc,lookup→Qj,map→Qk,find?_cons→Qo,length_reverse→Qq,mem_filterMap→QE,mem_replicate→QF,getElem?_eq_none_iff→QU,pairwise_map→Q0,reverse_cons→Q1,all_cons→Q9,flatMap_eq_nil_iff→Rj,length_eq_zero_iff→Rk,pairwise_singleton→Rl,range_succ_eq_map→Rt,getElem?_toArray→RE,getElem?_append→RJ,length→RK,flatMap_append→RV,getElem_of_mem→RW,map_take→R0,map_inj_right→R6,map_set→Sk,nodup_append→Sm,zipWith→Sn,zip_nil_left→Ss,filter_cons→SB,nodup_range→SC,map_const'→SN,mem_filter→SO,of_mem_zip→SQ,getElem?_take_of_lt→TF,getElem?_cons_succ→TW,getElem?_set_self→T8,getElem?_set_ne→UC,getElem_reverse→UD,mem_of_mem_take→UE,length_zipWith→UP,foldl→U7,getElem?_drop→U8,any_eq_false→Vt,ext_getElem?→Vu,take_add_one→Vv
open List.Pairwise renaming nil→Rx
open List.Perm renaming of_eq→R8
open List.cons renaming injEq→Pi
open Nat renaming le_refl→Mw,lt_of_lt_of_le→MP,le_trans→MS,ne_of_lt→M6,lt_irrefl→Nf,zero_le→N2,lt_of_le_of_lt→Og,not_lt_zero→Oo,ne_of_gt→Ou,zero_add→OG,mul_comm→OZ,sub_self→O0,lt_trichotomy→Pe,le_succ→PV,mul_left_comm→P3,le_add_right→Qd,mul_assoc→Ql,lt_trans→QA,lt_succ_of_lt→Ra,lt_succ_self→Rp,le_of_lt→Ry,pow_le_pow_right→RN,lt_or_ge→Sx,div_le_self→SW,mod_lt→Tp,le_mul_of_pos_right→T9,add_comm→Ue,div_div_eq_div_mul→Uf,le_of_eq→Ug,add_mul→UQ,mul_le_mul_right→UR,add_le_add_left→Va
open Option renaming map_some→Nu,bind_some→Nz,map_none→Pw,map_eq_some_iff→Rm,isSome_iff_exists→Th,getD_none→Vb,getD_some→Vc
open Option.some renaming inj→MQ,injEq→TH
open Or renaming inl→Os,inr→PH
open Prod renaming ext→P0,ext_iff→Su
open PyProof renaming noPylong_of_log2→SX
open PyProof.Rows renaming callWith_type1→NK,seqObj→Ph,envOfC→Qu,AllBare→QX,listUpdate_at→RB,callWith_builtin1→RM,subscriptTail_builtinR→RQ,IntsAre→T7,subscriptTail→U2
open PySem renaming wpAny_bind→on,wpAny_pure→Mg,Value→Mh,Shared→Ml,starEach→Mx,wpAny→Mz,model→ML,World→MY,Around→M8,wpAny_mono→M9,wpAny_call_entry→Ng,foldedSetIterable→Nj,Comprehension→No,compareOp→Nw,wpAny_newObj_type→Nx,mem_of_lookup→Ny,wpAny_field→ND,wpAny_holding→NI,wpAny_truthy_bool→NJ,wpAny_setField_rec→NM,cellsFrom→NU,keywordEach→NW,wpAny_setState_of→NX,backTo→NZ,wpAny_seqItems→N0,treeTable→N5,wpAny_standAt→N6,mainGlobals→Oe,sizeLine_eq→Of,wpAny_loadPart_at→Ot,wpAny_isInstance→Oz,binaryOp→OC,backToKw→OK,wpAny_comprehension_free→OQ,codeAny→OX,IsPair→OY,wpAny_typeNameOfWhole_itemiter→O1,codeAny_mono→Pb,standAt→Pc,wpAny_Call_Name_kw→Pd,wpAny_specialOf→Pf,NameKind→Pt,sliceBounds→Px,wpAny_of_eq→Py,wpAny_rule→Pz,wpAny_setField→PD,bootBuiltins→PM,holding→PN,wpAny_typeNameOf_itemiter→PR,attributeBase→PX,swapsWith→P5,firstArgMember→Qe,pyNext→Qh,rawInt→Qi,Within→Qt,sysModules→Qv,wpAny_askSetting→Qw,wpAny_call→Qx,behindInMarks→Qy,wpAny_attempt→Qz,codeAny_call_builtin→QB,assign→QO,letOwnedTupleGo→QR,wpAny_passesOwn→QT,wpAny_isSubtype_exc→QW,Keyword→QZ,getMethod→Rb,IsItemIter→Rc,Paired→Re,evalEach→Rg,isInstance→Rh,isSubtype_type→Ri,IsZip→Rr,intKind→Ru,wpAny_pyIter_list→Rv,wpAny_pyIter_slot→Rw,wpAny_onRaise→RC,wpAny_forIn_list→RH,OsState→RO,assignEach→RP,wpAny_isOneOf_itemiter→RT,wpAny_pyIter_rangeiter→RU,builtinLookup_eq_fast→R1,isSubtype_tuple_tuple→R3,Params→R9,pyIter→Sb,wpAny_fieldsOf→Sc,wpAny_letGo→Sd,wpAny_newTuple→Se,wpAny_updateSeq_pair→Sf,BindsTo→Sg,wpAny_setEntries_of→Sz,wpAny_pyIter_tuple→SJ,wpAny_tupleItemsOf→SK,callWith→S3,callerA→S4,ofAClassStatement→S8,searchCouldBeSeen→Ta,wpAny_assign_Name→Tc,wpAny_dictEntries→Td,plainObj_wpAny_Assign_Attribute→Tk,checkBuiltinCall→Tu,noFill_tuple_add→Tv,pickOrder→Tw,Draws→Tz,IsRangeIter→TD,again→TR,codeAny_builtin→TY,codeAny_of_tree→TZ,typeLookup_type→T0,wpAny_dictEpoch→T1,wpAny_execs_nil→T3,CmpOp→Ub,Model→Ud,atKey→Uj,builtinsNs→Uk,call_meets→Ul,compPost→Uo,entryFor_alias→Uq,intItems→Ur,isSubtype_stop→Us,newFunctionEnv→Uu,setField→Uv,wpAny_loadPart→Ux,call→UY,evalPart_none→UZ,seq_tuple_add→U1,wpAny_getItem_list_slice→U3,wpAny_handled→U4,list_append→Vi,bindC→Vk,bindL→Vl,eqIsQuiet→Vm,field→Vn,lastMarks→Vp,slicePick→Vq,Result→Vy,newExc→VA,seqIndex_neg→VB,wpAny_Call_method_late→VC,wpAny_pyNext_range_end→VD
open PySem.Around renaming under→R4,under_plainId→T5
open PySem.BindsTo renaming of_defaults→RF
open PySem.Builtin.BaseException renaming bexcPut→UK
open PySem.Builtin.Dict renaming showsAll→SG
open PySem.Builtin.Dict_items renaming ownsTuple→PF,ownedTupleFields→QH,ownedTupleIsFree→QI,pairFromOwner→Q6
open PySem.Builtin.Int renaming intBits→Tf
open PySem.Builtin.List renaming listTooLong→Qn,listExtendWith→RZ,listSameRef→Si
open PySem.Builtin.Range renaming rangeFitsLong→Nr,rangeSize→Sj
open PySem.Builtin.SmallTypes renaming nextOf→NY,ownedTupleIsFree→N9,ownedTupleHandOut→QC,refuseKeywords→QY
open PySem.Builtin.Tuple renaming tupleHashOf→Qa
open PySem.Calls renaming callWith_builtin→Ro,Name_function_global→SU,evalArgs_plain→Ua,Constant_str→UL,spliced_cons→UM,spliced_nil→U6
open PySem.Challenge renaming rw_edgetally_k16_whole_dealings_closed→MW
open PySem.Code renaming quiet_builtin→R5,isFrame→T6
open PySem.Draws renaming list→UN
open PySem.F renaming slot_dict_itemiterator_next→NV,excBase_ValueError→Pa,slot_tuple_iterator_next→Pp,args_tuple_add_2→QL,slot_list_append→QM,type_list_append→QN,entry_tuple_add→Q2,plainAttrs_list→Q3,slot_tuple_add→Rf,slot_zip_next→RI,args_dict_itemiterator_next_1→SL,entry_dict_itemiterator_next→SV,slot_dict_itemiterator_iter→Tg,plainAttrs_dict→Ti,args_tuple_iterator_next_1→Tl,entry_tuple_iterator_next→TC,slot_dict_get→TK,slot_dict_items_iter→UO,args_list_append_2→Vr
open PySem.Heap renaming get?_push_of_some→Mi,get?_push_size→MB,lt_size→MI,SameBut→MT,size_push→Nv,get?_update_self→N8,get?_update_ne→OI,get?_update_other→PY,ExtBut→SH,get?_none_of_le→UA,get?_push_ne→Vs
open PySem.Heap.IsSliceOf renaming new→SM
open PySem.Heap.Ns1 renaming of_empty→Uc
open PySem.Heap.SameBut renaming update→NH
open PySem.IntMulOk renaming of_bits→UB
open PySem.IsTupleKey renaming typeIs→TV
open PySem.Manifest renaming find?→U9
open PySem.NameKind renaming free→OB,cell→SR
open PySem.Obj renaming mapSeq→NT,data_mapFields→Oh,putSet→Rz,isFreed_of_fields→RG,cls_mapFields→Sy
open PySem.P renaming add_list→US
open PySem.SeqAt renaming shaped→Sa
open PySem.SeqAt.EqAt renaming int_str→TL,str_int→TM
open PySem.SetTable renaming fits→SS,fresh→Vj
open PySem.Str renaming ofString→M1,empty→O9
open PySem.Value renaming ref→My,none→Nl,type→OH,int→O5,isInt_shape→QV,isInt→SD,bool→SZ,str→TN,float→Ui
open PySem.W renaming findIn→Om,Looks→OW,fnOf→PU,kia_one→Qf,kia_tup→Qg,codeIn→Qr,segRun→Qs,piecesOf→Q4,keepIn→RA,instObj→Sv,kitx_list→Sw,methodCall_KW→SE,callWith_K→SI,hideAll→S5,hideAll_none→S6,looks_findIn→S7,kitx_float→Uh,cellsFrom_some→Um,kitx_tuple→Ut,topFrame→Uw,kitx_bool→UF,kitx_none→UG,plainOver→UH,handedIn→UT,kitx_int→UU,kitx_own→UV,kitx_str→UW,kp_binds→UX,bind_fn→Vd,findCls→Ve,makesIn→Vf,takesIn→Vg,topStub→Vh,kitx_dict→Vo,kitAny→Vw,topRun→Vx,hashAt→Vz
open PySem.W.Looks renaming here→SY,ld→Tq
open PySem.W.OpenLaw renaming row→Ox
open PySem.W.OpenRow renaming toRowW→Oi
open PySem.W.RowW renaming prog→Ts
open PySem.W.WData renaming int→Tj
open PySem.Within renaming cons→Tt
open PySem.pickOrder renaming go→S9
open Sum renaming inl→RX,inr→RY
open True renaming intro→Oy
noncomputable abbrev Mr:=@if_neg
noncomputable abbrev Mu:=@if_pos
noncomputable abbrev MM:=@absurd
noncomputable abbrev MX:=@decide_eq_true
noncomputable abbrev M5:=@decide_eq_false
noncomputable abbrev Na:=@if_true
noncomputable abbrev Nh:=@if_false
noncomputable abbrev Ni:=@decide_eq_true_eq
noncomputable abbrev Nq:=@congrArg
noncomputable abbrev Oa:=@beq_self_eq_true
noncomputable abbrev OP:=@beq_iff_eq
noncomputable abbrev O8:=@bne_self_eq_false
noncomputable abbrev P4:=@or_false
noncomputable abbrev QP:=@decide_false
noncomputable abbrev QS:=@of_decide_eq_true
noncomputable abbrev Rq:=@decide_true
noncomputable abbrev TX:=@beq_eq_false_iff_ne
open PySem.W (Frag instObj methodObj hideAll hideAll_get of_hideAll hideAll_none lookIn plainGet hasDictIn findIn plainGet_of isFn takerIn looks_clsIn emptyDict looks_findIn keepIn specialIn mroIn kitOne kia_one kitx_list kitx_tuple kitx_dict callWith_K methodCall_KW cellsFrom_some mg_of clsIn kia_tup)
noncomputable abbrev LI:=List (List Int)
noncomputable abbrev LP:=List (List (Int×Int))
--CHANGE:your row's module here,as the last of these rows
namespace L2
open PySem PySem.Spec PyProof.Rows
noncomputable abbrev Key:=Sum Int Str
noncomputable def DO:Key->Mh->Bool
 | .inl k,v=>SD k v
 | .inr x,v=>Value.isStrOf x v
noncomputable def keyH(w:MY):Key->Int
 | .inl k=>hashInt k
 | .inr x=>hashStr w x
theorem keyIs_shape:∀{k:Key} {v:Mh},DO k v=true->(∃i t,k=RX i/\v=O5 i t)\/(∃x t,k=RY x/\v=TN x t)
 | .inl i,v,h=>by
  obtain⟨t,e⟩:=QV (k:=i) (v:=v) h
  exact .inl ⟨i,t,rfl,e⟩
 | .inr x,v,h=>by
  obtain⟨t,e⟩:=Value.isStrOf_shape (x:=x) (v:=v) h
  exact .inr ⟨x,t,rfl,e⟩
theorem Jh(a b:Int):decide ((RX a:Key)=RX b)=(a==b):=by
 by_cases e:a=b
 ·subst e;simp
 ·have h:¬(RX a:Key)=RX b:=λq=>e (RX.inj q)
  rw[M5 h]
  exact(beq_eq_false_iff_ne.mpr e).symm
theorem Je(a b:Str):decide ((RY a:Key)=RY b)=decide (a=b):=by
 by_cases e:a=b
 ·subst e;simp
 ·have h:¬(RY a:Key)=RY b:=λq=>e (RY.inj q)
  rw[M5 h,M5 e]
theorem Jg(a:Int)(b:Str):decide ((RX a:Key)=RY b)=false:=M5 (λq=>nomatch q)
theorem Jf(a:Str)(b:Int):decide ((RY a:Key)=RX b)=false:=M5 (λq=>nomatch q)
noncomputable def pB(prog:Program)(w:MY):PySem.KeyKind prog w Key where
 is:=DO
 hash:=keyH w
 inj:=λv a b ha f=>by
  rcases keyIs_shape ha with⟨i,t,rfl,rfl⟩|⟨x,t,rfl,rfl⟩
  ·rcases keyIs_shape f with⟨j,u,rfl,e⟩|⟨y,u,rfl,e⟩
   ·injection e with c _;rw[c]
   ·exact nomatch e
  ·rcases keyIs_shape f with⟨j,u,rfl,e⟩|⟨y,u,rfl,e⟩
   ·exact nomatch e
   ·injection e with c _;rw[c]
 byValue:=λk v h=>by
  rcases keyIs_shape h with⟨i,t,rfl,rfl⟩|⟨x,t,rfl,rfl⟩<;>rfl
 pyHash:=λd h=>by
  rcases keyIs_shape d with⟨i,t,rfl,rfl⟩|⟨x,t,rfl,rfl⟩
  ·exact wpAny_pyHash_int h
  ·exact wpAny_pyHash_str h
 eqBool:=λg d h=>by
  rcases keyIs_shape g with⟨i,t,rfl,rfl⟩|⟨x,t,rfl,rfl⟩
  ·rcases keyIs_shape d with⟨j,u,rfl,rfl⟩|⟨y,u,rfl,rfl⟩
   ·rw[Jh]at h;exact wpAny_eqBool_int h
   ·rw[Jg]at h;exact TL i t y u _ _ _ _ h
  ·rcases keyIs_shape d with⟨j,u,rfl,rfl⟩|⟨y,u,rfl,rfl⟩
   ·rw[Jf]at h;exact TM x t j u _ _ _ _ h
   ·rw[Je]at h;exact wpAny_eqBool_str h
 «strs»:=λk x t v h=>by
  rcases keyIs_shape h with⟨i,u,rfl,e⟩|⟨y,u,rfl,e⟩
  ·exact nomatch e
  ·injection e with c _
   subst c
   cases v<;>rfl
inductive V where
 |non|bl (b:Bool)|int (i:Int)|str (x:Str)|byt (b:Array UInt8)|flt (b:UInt64)|ref (a:Addr)|ty (n:String)
 deriving DecidableEq
noncomputable def aC:V->Mh->Prop
 | .non,u=>u=Nl
 | .bl b,u=>u=SZ b
 | .int i,u=>∃t,u=O5 i t
 | .str x,u=>∃t,u=TN x t
 | .byt b,u=>∃t,u=Value.bytes b t
 | .flt b,u=>∃t,u=Ui b t
 | .ref a,u=>u=My a
 | .ty n,u=>u=OH n
noncomputable abbrev ak:List V->List Mh->Prop:=Re aC
theorem ak.length{xs:List V}{us:List Mh}(r:ak xs us):xs.length=us.length:=Paired.length r
theorem ak.get:∀{xs:List V} {us:List Mh} {i:Nat} {x:V},ak xs us->xs[i]?=some x->∃u,us[i]?=some u/\aC x u
 |_,_,_,_,.nil,e=>by simp at e
 |_,_,0,_,.cons r _,e=>by simp at e;subst e;exact⟨_,rfl,r⟩
 |_,_,i+1,x,.cons _ t,e=>by
  obtain⟨u,a,b⟩:=ak.get (i:=i) (x:=x) t (by simpa using e)
  exact⟨u,by simpa using a,b⟩
theorem ak.set{x:V}{u:Mh}(r:aC x u):∀{xs:List V} {us:List Mh} (i:Nat),ak xs us->ak (xs.set i x) (us.set i u)
 |_,_,_,.nil=> .nil
 |_,_,0,.cons _ t=> .cons r t
 |_,_,i+1,.cons q t=> .cons q (ak.set r i t)
theorem ak.append:∀{xs ys:List V} {us a:List Mh},ak xs us->ak ys a->ak (xs++ys) (us++a)
 |_,_,_,_,.nil,s=>s
 |_,_,_,_,.cons r t,s=> .cons r (ak.append t s)
theorem ak.take:∀{xs:List V} {us:List Mh} (n:Nat),ak xs us->ak (xs.take n) (us.take n)
 |_,_,0,_=> .nil
 |_,_,_+1,.nil=> .nil
 |_,_,n+1,.cons r t=> .cons r (ak.take n t)
theorem ak.drop:∀{xs:List V} {us:List Mh} (n:Nat),ak xs us->ak (xs.drop n) (us.drop n)
 |_,_,0,r=>r
 |_,_,_+1,.nil=> .nil
 |_,_,n+1,.cons _ t=>ak.drop n t
noncomputable def gR:Option V->Option Mh->Prop
 |some v,some u=>aC v u
 |none,none=>True
 |_,_=>False
noncomputable def KV{κ:Type}:List (κ×V)->List (κ×Mh)->Prop:=Re λ(p:κ×V) (q:κ×Mh)=>p.1=q.1/\aC p.2 q.2
noncomputable def kV:Key->V
 | .inl i=> .int i
 | .inr x=> .str x
inductive HO where
 |lst (xs:List V)
 |tup (xs:List V)
 |dK (kvs:List (Key×V))|dT (kvs:List (List Key×V))
 |set (S:Int->Bool) (n:Nat)
 |ins (C dx:Addr) (fs:List (Str×V))
 |own (x:Addr)
 |xd (fs:List (Str×V))
 |met (f x:Addr)
 |rng (lo hi:Int)
 |frz (o:Obj) (u:HO)
 |tbl (ps:Array Mh)
 |ext (φ:Heap->Prop)
noncomputable abbrev Hp:=Addr->Option HO
noncomputable def upd(H:Hp)(a:Addr)(o:HO):Hp:=λb=>if b=a then some o else H b
theorem ai{H:Hp}{a:Addr}{o:HO}:upd H a o a=some o:=by unfold upd;rw[Mu rfl]
theorem upd_ne{H:Hp}{a b:Addr}{o:HO}(h:b≠a):upd H a o b=H b:=by unfold upd;rw[Mr h]
theorem LK{H:Hp}{a b:Addr}{o u:HO}(h:H a=some o)(h':H b=some u)(d:o≠u):a≠b:=by
 intro e;subst e;rw[h]at h';exact d (MQ h')
theorem ne_of_none{H:Hp}{a b:Addr}{o:HO}(h:H a=some o)(h':H b=none):a≠b:=by
 intro e;subst e;rw[h]at h';cases h'
section
variable(P:Program)(w:MY)
noncomputable def bd(H:Hp)(h:Heap)(a:Addr):HO->Prop
 | .lst xs=>xs.length<=sizeLine/\∃(its:List Mh) (n:Nat),ak xs its/\h.get? a=some {cls:= .type "list",data:= .seq its.toArray n}
 | .tup xs=>xs.length<=sizeLine/\∃its:List Mh,ak xs its/\IsTup h a its.toArray
 | .dK kvs=>kvs.length<=sizeLine/\(a==Qv)=false/\∃vs,KV kvs vs/\h.DictOf (pB P w) a vs
 | .dT kvs=>kvs.length<=sizeLine/\(a==Qv)=false/\∃xs:List (List Key×Addr×Mh),
   Re (λ(p:List Key×V) (q:List Key×Addr×Mh)=>p.1=q.1/\H q.2.1=some (.tup (p.1.map kV))/\aC p.2 q.2.2) kvs xs/\
   ∃o es ep,h.get? a=some o/\o.ExactDict/\o.data= .dict es ep/\es.toList=xs.map (entryOfKey (tupleKind (pB P w)))/\(xs.map (·.1)).Nodup
 | .set S n=>h.SetOf (Ru P w) a S n
 | .ins C dx fs=>H dx=some (.own a)/\fs.length<=1000/\dx≠a/\h.get? a=some (Sv C dx)/\
   ∃b,h.Ns1 dx b/\(∀f,gR (fs.lookup f) (b f))/\Qt b (fs.map (·.1))
 | .own _=>∃o,h.get? a=some o
 | .xd fs=>∃b,h.Ns1 a b/\∀f,gR (fs.lookup f) (b f)
 | .rng lo hi=>∃t u v,h.get? a=some {cls:= .type "range",data:= .fields #[.int lo t,.int hi u,.int 1 v]}
 | .frz o u=>h.get? a=some o/\bd H h a u
 | .tbl ps=>h.get? a=some {cls:= .none,data:= .fields ps}
 | .met f x=>h.get? a=some (methodObj (.ref f) (.ref x))
 | .ext φ=>φ h/\(∃o,h.get? a=some o)/\∀c d:Heap,φ c->(∀o,c.get? a=some o->d.get? a=some o)->φ d
noncomputable def HOk(H:Hp)(h:Heap):Prop:=∀a o,H a=some o->bd P w H h a o
end
section
variable{P:Program}{w:MY}{H H':Hp}{h h':Heap}{a:Addr}{o:HO}
theorem bd.lt(x:bd P w H h a o):a<h.objs.size:=by
 cases o with
 |lst xs=>obtain⟨_,_,_,_,e⟩:=x;exact MI e
 |tup xs=>obtain⟨_,_,_,p⟩:=x;exact p.lt
 |dK kvs=>obtain⟨_,_,_,_,o,_,_,e,_⟩:=x;exact MI e
 |dT kvs=>obtain⟨_,_,_,_,o,_,_,e,_⟩:=x;exact MI e
 |set S n=>obtain⟨o,_,_,_,e,_⟩:=x;exact MI e
 |ins C dx fs=>obtain⟨_,_,_,e,_⟩:=x;exact MI e
 |own y=>obtain⟨_,e⟩:=x;exact MI e
 |xd fs=>obtain⟨_,⟨_,_,_,e,_⟩,_⟩:=x;exact MI e
 |rng lo hi=>obtain⟨_,_,_,e⟩:=x;exact MI e
 |frz ob u=>obtain⟨e,_⟩:=x;exact MI e
 |tbl ps=>exact MI (show h.get? a=some _ from x)
 |met f y=>exact MI (show h.get? a=some _ from x)
 |ext φ=>obtain⟨_,⟨_,e⟩,_⟩:=x;exact MI e
theorem Paired.mapP{α β:Type}{F G:α->β->Prop}:∀{l₁:List α} {l₂:List β},Re F l₁ l₂->(∀a b,F a b->G a b)->Re G l₁ l₂
 |_,_,.nil,_=> .nil
 |_,_,.cons r t,f=> .cons (f _ _ r) (Paired.mapP t f)
theorem bd.stay(x:bd P w H h a o)(k:∀b u,(b=a\/H b=some (.own a))->h.get? b=some u->h'.get? b=some u)
  (l:∀b,H b=some (.own a)->H' b=some (.own a)) (m:∀b xs,H b=some (.tup xs)->H' b=some (.tup xs)):bd P w H' h' a o:=by
 induction o with
 |lst xs=>obtain⟨z,its,n,r,e⟩:=x;exact⟨z,its,n,r,k _ _ (.inl rfl) e⟩
 |tup xs=>obtain⟨z,its,r,g,e,c⟩:=x;exact⟨z,its,r,g,k _ _ (.inl rfl) e,c⟩
 |dK kvs=>obtain⟨z,y,vs,r,g,es,ep,e,c⟩:=x;exact⟨z,y,vs,r,g,es,ep,k _ _ (.inl rfl) e,c⟩
 |dT kvs=>
  obtain⟨z,y,xs,r,g,es,ep,e,c⟩:=x
  exact⟨z,y,xs,Paired.mapP r λp q z=>⟨z.1,m _ _ z.2.1,z.2.2⟩,g,es,ep,k _ _ (.inl rfl) e,c⟩
 |set S n=>obtain⟨g,es,ep,t,e,c⟩:=x;exact⟨g,es,ep,t,k _ _ (.inl rfl) e,c⟩
 |ins C dx fs=>
  obtain⟨d,z,ne,e,i,⟨j,es,ep,s,c⟩,r⟩:=x
  exact⟨l _ d,z,ne,k _ _ (.inl rfl) e,i,⟨j,es,ep,k _ _ (.inr d) s,c⟩,r⟩
 |own y=>obtain⟨g,e⟩:=x;exact⟨g,k _ _ (.inl rfl) e⟩
 |xd fs=>obtain⟨i,⟨j,es,ep,e,c⟩,r⟩:=x;exact⟨i,⟨j,es,ep,k _ _ (.inl rfl) e,c⟩,r⟩
 |rng lo hi=>obtain⟨t,u,v,e⟩:=x;exact⟨t,u,v,k _ _ (.inl rfl) e⟩
 |frz g u ih=>obtain⟨e,q⟩:=x;exact⟨k _ _ (.inl rfl) e,ih q⟩
 |tbl ps=>
  have e:h.get? a=some {cls:= .none,data:= .fields ps}:=x
  show h'.get? a=some {cls:= .none,data:= .fields ps}
  exact k a _ (.inl rfl) e
 |met f y=>
  have e:h.get? a=some (methodObj (.ref f) (.ref y)):=x
  show h'.get? a=some (methodObj (.ref f) (.ref y))
  exact k a _ (.inl rfl) e
 |ext φ=>obtain⟨p,⟨o,e⟩,st⟩:=x;exact⟨st _ _ p λo q=>k _ _ (.inl rfl) q,⟨o,k _ _ (.inl rfl) e⟩,st⟩
theorem HOk.lt(x:HOk P w H h)(e:H a=some o):a<h.objs.size:=(x a o e).lt
theorem HOk.fresh(x:HOk P w H h)(e:h.objs.size<=a):H a=none:=by
 cases q:H a with
 |none=>rfl
 |some u=>exact MM (MP (x.lt q) e) (Nf _)
theorem HOk.kept(x:HOk P w H h)(k:∀b u,h.get? b=some u->h'.get? b=some u):HOk P w H h':=λa o e=>
 (x a o e).stay (λb u _ q=>k b u q) (λ_ q=>q) λ_ _ q=>q
theorem HOk.laid(x:HOk P w H h)(k:∀b u,h.get? b=some u->h'.get? b=some u)(f:h.objs.size<=a)(new:bd P w (upd H a o) h' a o):HOk P w (upd H a o) h':=λb u e=>by
 have hn:=x.fresh f
 by_cases d:b=a
 ·subst d;rw[ai]at e;cases e;exact new
 ·rw[upd_ne d]at e
  exact(x b u e).stay (λc v _ q=>k c v q) (λc q=>by rw[upd_ne (ne_of_none q hn)];exact q) λc xs q=>by rw[upd_ne (ne_of_none q hn)];exact q
end
noncomputable def Rd(H:Hp)(a:Addr)(u:HO):Prop:=H a=some u\/∃o,H a=some (.frz o u)
theorem Rd.ok{P:Program}{w:MY}{H:Hp}{h:Heap}{a:Addr}{u:HO}(r:Rd H a u)(x:HOk P w H h):bd P w H h a u:=by
 rcases r with r|⟨o,r⟩
 ·exact x a u r
 ·obtain⟨_,q⟩:=x a _ r
  exact q
noncomputable def Mut:Option HO->Prop
 |some (.lst _)=>True
 |some (.dK _)=>True
 |some (.dT _)=>True
 |some (.set _ _)=>True
 |some (.ins _ _ _)=>True
 |some (.ext _)=>True
 |_=>False
section
variable{P:Program}{w:MY}{H:Hp}{h h':Heap}{x e:Addr}{o':HO}
theorem HOk.write(ok:HOk P w H h)(mu:Mut (H x))(l:e=x\/H e=some (.own x))(k:∀b u,b≠e->h.get? b=some u->h'.get? b=some u)(j:∃u,h'.get? e=some u)
  (new:bd P w (upd H x o') h' x o'):HOk P w (upd H x o') h':=λb u q=>by
 have d:∀c y,H c=some (.own y)->c≠x:=λc y r z=>by subst z;rw[r]at mu;exact mu
 have f:∀c xs,H c=some (.tup xs)->c≠x:=λc xs r z=>by subst z;rw[r]at mu;exact mu
 by_cases g:b=x
 ·subst g;rw[ai]at q;cases q;exact new
 ·rw[upd_ne g]at q
  by_cases a:b=e
  ·have m:H b=some (.own x):=by
    rcases l with z|z
    ·exact MM (a.trans z) g
    ·rw[a];exact z
   rw[q]at m;cases m
   obtain⟨v,n⟩:=j
   exact⟨v,by rw[a];exact n⟩
  ·refine(ok b u q).stay (λc v i r=>k c v ?_ r) (λc r=>by rw[upd_ne (d c b r)];exact r) λc xs r=>by rw[upd_ne (f c xs r)];exact r
   rcases i with rfl|i
   ·exact a
   ·rintro rfl
    rcases l with z|z
    ·exact d c b i z
    ·rw[i]at z;cases z;exact g rfl
end
structure Un (fs ex:List Addr) (H H':Hp) (h h':Heap):Prop where
 keep:∀b o,h.get? b=some o->H b=none->b∉fs->b∉ex->h'.get? b=some o
 slot:∀b o,h.get? b=some o->H b=none->b∈fs->b∉ex->∃sl,h'.get? b=some {o with slots:=sl}
 free:∀b o,h.get? b=some o->H b=none->b∉ex->H' b=none
 there:∀b o,h.get? b=some o->b∉ex->∃o',h'.get? b=some o'
 tups:∀b xs,H b=some (.tup xs)->H' b=some (.tup xs)
 frzs:∀b o u,H b=some (.frz o u)->H' b=some (.frz o u)
 tbls:∀b ps,H b=some (.tbl ps)->∃more,H' b=some (.tbl (ps++more))
section
variable{fs fs' ex ex':List Addr}{H H1 H2:Hp}{h h1 h2 h':Heap}{a x e:Addr}{o:HO}
theorem Un.any(u:Un fs ex H H1 h h1){b:Addr}{c:Obj}(q:h.get? b=some c)(n:H b=none)(d:b∉ex):∃g,h1.get? b=some {c with slots:=g}:=by
 by_cases f:b∈fs
 ·exact u.slot b c q n f d
 ·exact⟨c.slots,u.keep b c q n f d⟩
theorem Un.trans(a:Un fs ex H H1 h h1)(b:Un fs ex H1 H2 h1 h2):Un fs ex H H2 h h2 where
 keep:=λc d q n i f=>b.keep c d (a.keep c d q n i f) (a.free c d q n f) i f
 slot:=λc d q n i f=>by
  obtain⟨p,g⟩:=a.slot c d q n i f
  obtain⟨j,k⟩:=b.slot c _ g (a.free c d q n f) i f
  exact⟨j,k⟩
 free:=λc d q n f=>by
  obtain⟨l,g⟩:=a.there c d q f
  exact b.free c l g (a.free c d q n f) f
 there:=λc d q f=>by
  obtain⟨l,g⟩:=a.there c d q f
  exact b.there c l g f
 tups:=λc xs q=>b.tups c xs (a.tups c xs q)
 frzs:=λc d xs q=>b.frzs c d xs (a.frzs c d xs q)
 tbls:=λc m q=>by
  obtain⟨m1,g⟩:=a.tbls c m q
  obtain⟨m2,k⟩:=b.tbls c _ g
  exact⟨m1++m2,by rw[k,UI]⟩
theorem Un.kept(k:∀b u,h.get? b=some u->h'.get? b=some u):Un fs ex H H h h':=
 ⟨λb c q _ _ _=>k b c q,λb c q _ _ _=>⟨c.slots,k b c q⟩,λ_ _ _ n _=>n,λb c q _=>⟨c,k b c q⟩,λ_ _ q=>q,λ_ _ _ q=>q,λ_ d q=>⟨#[],by rw[q];simp⟩⟩
theorem Un.refl:Un fs ex H H h h:=Un.kept λ_ _ q=>q
theorem Un.laid(k:∀b u,h.get? b=some u->h'.get? b=some u)(c:h.objs.size<=a)(hn:H a=none):Un fs ex H (upd H a o) h h' where
 keep:=λb u q _ _ _=>k b u q
 slot:=λb u q _ _ _=>⟨u.slots,k b u q⟩
 free:=λb u q n _=>by rw[upd_ne (M6 (MP (MI q) c))];exact n
 there:=λb u q _=>⟨u,k b u q⟩
 tups:=λb xs q=>by rw[upd_ne (ne_of_none q hn)];exact q
 frzs:=λb u xs q=>by rw[upd_ne (ne_of_none q hn)];exact q
 tbls:=λb d q=>⟨#[],by rw[upd_ne (ne_of_none q hn),q];simp⟩
theorem Un.write(mu:Mut (H x))(i:e=x\/H e=some (.own x))(k:∀b u,b≠e->h.get? b=some u->h'.get? b=some u)(d:∃u,h'.get? e=some u):Un fs ex H (upd H x o) h h':=by
 have f:∀b,H b=none->b≠x:=λb n z=>by subst z;rw[n]at mu;exact mu
 have g:∀b,H b=none->b≠e:=λb n z=>by
  subst z
  rcases i with r|r
  ·exact f b n r
  ·rw[n]at r;cases r
 have hm:∀b u,H b=some u->¬Mut (some u)->b≠x:=λb u q nm z=>by subst z;rw[q]at mu;exact nm mu
 refine⟨λb u q n _ _=>k b u (g b n) q,λb u q n _ _=>⟨u.slots,k b u (g b n) q⟩,λb u q n _=>by rw[upd_ne (f b n)];exact n,λb u q _=>?_,
  λb xs q=>by rw[upd_ne (hm b _ q λz=>z)];exact q,λb u xs q=>by rw[upd_ne (hm b _ q λz=>z)];exact q,λb j q=>⟨#[],by rw[upd_ne (hm b _ q λz=>z),q];simp⟩⟩
 by_cases c:b=e
 ·subst c;exact d
 ·exact⟨u,k b u c q⟩
theorem Un.mono(u:Un fs ex H H1 h h1)(hs:∀b∈fs,b∈fs')(f:∀b∈ex,b∈ex'):Un fs' ex' H H1 h h1:=
 ⟨λb d q n g c=>u.keep b d q n (λz=>g (hs b z)) λz=>c (f b z),λ_ _ q n _ c=>u.any q n λz=>c (f _ z),λb d q n c=>u.free b d q n λz=>c (f b z),λb d q c=>u.there b d q λz=>c (f b z),u.tups,u.frzs,u.tbls⟩
end
noncomputable def trk(h:Heap)(H:Hp):List Addr:=(Mv h.objs.size).filter λa=>(H a).isSome
noncomputable def j7(h:Heap)(H:Hp):Heap:=S5 h (trk h H)
theorem zb(h:Heap)(H:Hp):(j7 h H).objs.size=h.objs.size:=PySem.W.hideAll_size _ _
theorem BQ{h:Heap}{H:Hp}{b:Addr}{o:Obj}(e:h.get? b=some o)(n:H b=none):(j7 h H).get? b=some o:=
 hideAll_get _ e λhm=>by
  have q:(H b).isSome=true:=(SO.mp hm).2
  rw[n]at q;simp at q
theorem GF{h:Heap}{H:Hp}{b:Addr}{o:Obj}(e:(j7 h H).get? b=some o):h.get? b=some o/\H b=none:=by
 have a:h.get? b=some o:=of_hideAll (trk h H) e
 refine⟨a,?_⟩
 cases q:H b with
 |none=>rfl
 |some x=>
  have hm:b∈trk h H:=SO.mpr ⟨MO.mpr (MI a),by simp[q]⟩
  have z:(j7 h H).get? b=none:=S6 (trk h H) hm
  rw[z]at e;cases e
structure Mod (K:Frag) (mg:Str->Option Mh) (base:Heap):Prop where
 kin:K.In base
 glob:base.Ns Oe mg
 blt:∃mb,base.Ns Uk mb/\∀x:Str,x≠"__name__"->mb x=PM x
 nolimit:base.NoLimit
structure Cx where
 prog:Program
 w:MY
 K:Frag
 mg:Str->Option Mh
 base:Heap
 A:M8
 N:List Str
 s₀:Ml
 H₀:Hp
 env:Env
 outer:List Env
 stack:List Env
 ex:List Addr
 fn:Str->Bool
 calm:Bool
 pn:List (Addr×Obj)
 xe:Mh->Ml->Prop
noncomputable def frs(l:List Env):List Addr:=l.filterMap (·.frame)
noncomputable abbrev Cx.fs(X:Cx):List Addr:=frs X.outer
noncomputable def Vis(a:Scope)(x:Str):Prop:=a.names.lookup x=some .local\/a.names.lookup x=some .cell\/a.names.lookup x=some .free
noncomputable def Loc(a:Scope)(x:Str):Prop:=a.names.lookup x=some .local\/a.names.lookup x=some .cell
noncomputable def Look(env:Env)(h:Heap)(m:Str->Option Mh)(x:Str)(u:Mh):Prop:=
 (env.kindOf x=some .local/\m x=some u)\/((env.kindOf x=some .cell\/env.kindOf x=some .free)/\∃c,env.cells.lookup x=some c/\h.IsCell c (some u))
structure Cx.Ok (X:Cx):Prop where
 mod:Mod X.K X.mg X.base
 kind:X.env.scope.kind= .function
 glob:X.env.globals=Oe
 blt:X.env.builtins=Uk
 above:X.s₀.heap.objs.size<=X.env.locals
 inj:∀x y c,X.env.cells.lookup x=some c->X.env.cells.lookup y=some c->x=y
 has:∀x,(X.env.kindOf x=some .cell\/X.env.kindOf x=some .free)->∃c,X.env.cells.lookup x=some c
 cab:∀x c,X.fn x=true->X.env.cells.lookup x=some c->X.s₀.heap.objs.size<=c
 hd:X.calm=true->X.A.handled=none
 frames:X.A.frames=some X.stack
 stk:X.stack=X.outer\/(X.stack=X.env::X.outer/\X.env.frame=some X.env.locals)
 exf:∀b∈X.ex,b≠X.env.locals/\∀x c,X.env.cells.lookup x=some c->c≠b
 bs:∀b o,X.base.get? b=some o->X.s₀.heap.get? b=some o/\X.H₀ b=none
 bsz:X.base.objs.size<=X.s₀.heap.objs.size
 noex:∀b o,X.base.get? b=some o->b∉X.ex
 exfs:∀b∈X.ex,b∉X.fs
 funs:X.s₀.heap.FunFrames X.base X.outer
 frf:∀b∈X.fs,X.H₀ b=none
structure Inv (X:Cx) (pins:List (Addr×Obj)) (σ:List (Option V)) (H:Hp) (s:Ml):Prop where
 ok:X.Ok
 os:s.os=X.s₀.os
 bare:QX s.gens
 base:Un X.fs X.ex X.H₀ H X.s₀.heap s.heap
 loc:∃m,s.heap.Ns X.env.locals m/\∀(i:Nat) (x:Str) (v:V),X.N[i]?=some x->σ[i]?=some (some v)->Vis X.env.scope x->∃u,aC v u/\Look X.env s.heap m x u
 cell:∀x c,X.env.cells.lookup x=some c->∃v,s.heap.IsCell c v
 free:H X.env.locals=none
 freeC:∀x c,X.env.cells.lookup x=some c->H c=none
 pin:∀p∈X.pn++pins,s.heap.get? p.1=some p.2/\H p.1=none/\p.1≠X.env.locals/\p.1∉X.fs/\∀v,p.2.data≠ .cell v
 hok:HOk X.prog X.w H s.heap
 len:σ.length=X.N.length
section
variable{X:Cx}{pins:List (Addr×Obj)}{σ:List (Option V)}{H H':Hp}{s:Ml}{h':Heap}
theorem Cx.Ok.nofr(ok:X.Ok){b:Addr}{o:Obj}(e:X.base.get? b=some o):b∉X.fs:=λa=>by
 have:=(ok.funs.mem a).1
 rw[e]at this;cases this
theorem Inv.bs(I:Inv X pins σ H s):∀b o,X.base.get? b=some o->s.heap.get? b=some o/\H b=none:=λb o e=>
 ⟨I.base.keep b o (I.ok.bs b o e).1 (I.ok.bs b o e).2 (I.ok.nofr e) (I.ok.noex b o e),I.base.free b o (I.ok.bs b o e).1 (I.ok.bs b o e).2 (I.ok.noex b o e)⟩
theorem Inv.bk(I:Inv X pins σ H s):∀b o,X.base.get? b=some o->s.heap.get? b=some o:=λb o e=>(I.bs b o e).1
theorem Inv.mod(I:Inv X pins σ H s):Mod X.K X.mg X.base:=I.ok.mod
theorem Inv.kIn(I:Inv X pins σ H s):X.K.In s.heap:=I.ok.mod.kin.keeps I.bk
theorem Inv.fr(I:Inv X pins σ H s):∃m,Fr X.base X.env.locals s.heap m:=
 let ⟨m,hn,_⟩:=I.loc
 ⟨m,hn,I.bk,MS I.ok.bsz I.ok.above⟩
theorem Inv.lt(I:Inv X pins σ H s):X.env.locals<s.heap.objs.size:=let ⟨_,hn,_⟩:=I.loc;hn.lt
theorem Inv.sz(I:Inv X pins σ H s):X.s₀.heap.objs.size<=s.heap.objs.size:=MS I.ok.above (Ry I.lt)
theorem Inv.nofs(I:Inv X pins σ H s){a:Addr}(h:s.heap.objs.size<=a):a∉X.fs:=λb=>by
 obtain⟨_,o,c,_⟩:=I.ok.funs.mem b
 exact MM (MP (MI c) (MS I.sz h)) (Nf _)
theorem Inv.cne(I:Inv X pins σ H s):∀x c,X.env.cells.lookup x=some c->c≠X.env.locals:=λx c e z=>by
 obtain⟨v,o,d,hd⟩:=I.cell x c e
 obtain⟨m,⟨f,es,ep,a,b,_⟩,_⟩:=I.loc
 rw[z,a]at d;cases d;rw[b]at hd;cases hd
theorem Inv.funs(I:Inv X pins σ H s):s.heap.FunFrames X.base X.outer:=by
 have all:∀(l:List Env),(∀b∈frs l,b∈X.fs)->X.s₀.heap.FunFrames X.base l->s.heap.FunFrames X.base l:=by
  intro l
  induction l with
  |nil=>intro _ _;trivial
  |cons env r ih=>
   intro hs f
   obtain⟨g,⟨L,o,a,hn,h,hd⟩,i⟩:=f
   have c:L∈X.fs:=hs L (by unfold frs;rw[NN,a];exact Mq)
   obtain⟨j,e⟩:=I.base.slot L o h (I.ok.frf L c) c λz=>I.ok.exfs L z c
   exact⟨g,⟨L,_,a,hn,e,hd⟩,ih (λb d=>hs b (by unfold frs;rw[NN,a];exact Mo _ d)) i⟩
 exact all X.outer (λ_ d=>d) I.ok.funs
theorem Inv.stack(I:Inv X pins σ H s):s.heap.FunFrames X.base X.stack:=by
 rcases I.ok.stk with e|⟨e,a⟩
 ·rw[e];exact I.funs
 ·rw[e]
  obtain⟨m,hn,_⟩:=I.loc
  refine .cons (by rw[I.ok.kind];decide) a hn ?_ I.funs
  exact UA (MS I.ok.bsz I.ok.above)
theorem Inv.stkSub(I:Inv X pins σ H s):∀b∈frs X.stack,b∈X.env.locals::X.fs:=λb a=>by
 rcases I.ok.stk with e|⟨e,c⟩
 ·rw[e]at a;exact Mo _ a
 ·rw[e]at a
  unfold frs at a
  rw[NN,c]at a
  exact a
theorem Inv.stkFree(I:Inv X pins σ H s):∀b∈frs X.stack,H b=none:=λb a=>by
 rcases MH.mp (I.stkSub b a)with e|a
 ·rw[e];exact I.free
 ·obtain⟨_,o,c,_⟩:=I.ok.funs.mem a
  exact I.base.free b o c (I.ok.frf b a) λz=>I.ok.exfs b z a
theorem Inv.step{g':Array GenState}{t':Nat}{d':Drawn}{ch:List Addr}(I:Inv X pins σ H s)
  (f:∀b∈ch,(b∈X.ex\/X.s₀.heap.objs.size<=b)/\b≠X.env.locals/\(∀x c,X.env.cells.lookup x=some c->c≠b)/\∀p∈X.pn++pins,p.1≠b)
  (keep:∀b o,b≠X.env.locals->b∉X.fs->b∉ch->s.heap.get? b=some o->H b=none->h'.get? b=some o)
  (slot:∀b o,b≠X.env.locals->b∈X.fs->b∉ch->s.heap.get? b=some o->H b=none->∃F,h'.get? b=some {o with slots:=F}) (free:∀b o,b∉ch->s.heap.get? b=some o->H b=none->H' b=none)
  (there:∀b o,b∉ch->s.heap.get? b=some o->∃B,h'.get? b=some B)
  (tups:∀b xs,H b=some (.tup xs)->H' b=some (.tup xs)) (frzs:∀b o u,H b=some (.frz o u)->H' b=some (.frz o u)) (tbls:∀b E,H b=some (.tbl E)->∃more,H' b=some (.tbl (E++more)))
  (ns:∀m,s.heap.Ns X.env.locals m->h'.Ns X.env.locals m) (hok:HOk X.prog X.w H' h') (L:QX g'):
  Inv X pins σ H' {s with heap:=h',gens:=g',drawn:=d',toks:=t'}:=by
 have C:∀b o,X.s₀.heap.get? b=some o->b≠X.env.locals:=λb o e=>M6 (MP (MI e) I.ok.above)
 have j:∀b o,X.s₀.heap.get? b=some o->b∉X.ex->b∉ch:=λb o e a y=>by
  rcases(f b y).1 with z|z
  ·exact a z
  ·exact MM (MP (MI e) z) (Nf _)
 have g:∀x c,X.env.cells.lookup x=some c->∀v,s.heap.IsCell c v->h'.IsCell c v:=λx c e v ⟨o,A,hd⟩=>by
  have h:c∉ch:=λz=>(f c z).2.2.1 x c e rfl
  by_cases J:c∈X.fs
  ·obtain⟨F,q⟩:=slot c o (I.cne x c e) J h A (I.freeC x c e)
   exact⟨_,q,hd⟩
  ·exact⟨o,keep c o (I.cne x c e) J h A (I.freeC x c e),hd⟩
 refine⟨I.ok,I.os,L,⟨λb o e n y a=>?_,λb o e n y a=>?_,λb o e n a=>?_,λb o e a=>?_,λb xs e=>tups b xs (I.base.tups b xs e),λb o xs e=>frzs b o xs (I.base.frzs b o xs e),λb E e=>?_⟩,?_,λx c e=>?_,?_,λx c e=>?_,λp K=>?_,hok,I.len⟩
 ·exact keep b o (C b o e) y (j b o e a) (I.base.keep b o e n y a) (I.base.free b o e n a)
 ·obtain⟨F,t⟩:=I.base.slot b o e n y a
  obtain⟨G,D⟩:=slot b _ (C b o e) y (j b o e a) t (I.base.free b o e n a)
  exact⟨G,D⟩
 ·obtain⟨B,t⟩:=I.base.there b o e a
  exact free b B (j b o e a) t (I.base.free b o e n a)
 ·obtain⟨B,t⟩:=I.base.there b o e a
  exact there b B (j b o e a) t
 ·obtain⟨m1,t⟩:=I.base.tbls b E e
  obtain⟨m2,D⟩:=tbls b _ t
  exact⟨m1++m2,by rw[D,UI]⟩
 ·obtain⟨m,hn,M⟩:=I.loc
  refine⟨m,ns m hn,λi x v t D N=>?_⟩
  obtain⟨u,r,l⟩:=M i x v t D N
  refine⟨u,r,?_⟩
  rcases l with l|⟨k,c,e,z⟩
  ·exact .inl l
  ·exact .inr ⟨k,c,e,g x c e _ z⟩
 ·obtain⟨v,z⟩:=I.cell x c e
  exact⟨v,g x c e v z⟩
 ·obtain⟨m,⟨o,_,_,A,_⟩,_⟩:=I.loc
  exact free _ o (λz=>(f _ z).2.1 rfl) A I.free
 ·obtain⟨v,o,A,hd⟩:=I.cell x c e
  exact free c o (λz=>(f c z).2.2.1 x c e rfl) A (I.freeC x c e)
 ·obtain⟨e,n,ne,nf,d⟩:=I.pin p K
  have h:p.1∉ch:=λz=>(f p.1 z).2.2.2 p K rfl
  exact⟨keep p.1 p.2 ne nf h e n,free p.1 p.2 h e n,ne,nf,d⟩
theorem Inv.un{t':Nat}(I:Inv X pins σ H s)(u:Un X.fs [] H H' s.heap h')(hok:HOk X.prog X.w H' h'):Inv X pins σ H' {s with heap:=h',toks:=t'}:=by
 obtain⟨m,⟨o,es,ep,g,r⟩,_⟩:=id I.loc
 obtain⟨j,h⟩:=u.any g I.free (by simp)
 exact I.step (g':=s.gens) (d':=s.drawn) (ch:=[]) (λ_ z=>nomatch z) (λb o _ c _ e n=>u.keep b o e n c (by simp)) (λb o _ c _ e n=>u.slot b o e n c (by simp)) (λb o _ e n=>u.free b o e n (by simp)) (λb o _ e=>u.there b o e (by simp)) u.tups u.frzs u.tbls (λk hm=>by
  obtain⟨l,d,f,a,i⟩:=hm
  rw[g]at a;cases a
  exact⟨_,d,f,h,i⟩) hok I.bare
theorem Inv.call{g':Array GenState}{t':Nat}{d':Drawn}{ch:List Addr}(I:Inv X pins σ H s)(u:Un (frs X.stack) ch H H' s.heap h')(hok:HOk X.prog X.w H' h')(k:QX g')
  (d:∀b∈ch,(b∈X.ex\/X.s₀.heap.objs.size<=b)/\b≠X.env.locals/\(∀x c,X.env.cells.lookup x=some c->c≠b)/\∀p∈X.pn++pins,p.1≠b):
  Inv X pins σ H' {s with heap:=h',gens:=g',drawn:=d',toks:=t'}:=by
 obtain⟨m,⟨o,es,ep,j,r⟩,_⟩:=id I.loc
 obtain⟨t,g⟩:=u.any j I.free λz=>(d _ z).2.1 rfl
 exact I.step (ch:=ch) d (λb o g l a e n=>u.keep b o e n (λz=>(MH.mp (I.stkSub b z)).elim g l) a) (λb o _ _ a e n=>u.any e n a) (λb o a e n=>u.free b o e n a) (λb o a e=>u.there b o e a) u.tups u.frzs u.tbls (λv hm=>by
  obtain⟨y,h,i,f,q⟩:=hm
  rw[j]at f;cases f
  exact⟨_,h,i,g,q⟩) hok k
theorem Inv.turned{t':Nat}{it:Addr}(I:Inv X pins σ H s)(k:∀b o,b≠it->s.heap.get? b=some o->h'.get? b=some o)(hn:H it=none)(f:it≠X.env.locals)
  (g:it∈X.ex\/X.s₀.heap.objs.size<=it) (h:∀x c,X.env.cells.lookup x=some c->c≠it) (i:∀p∈X.pn++pins,p.1≠it):Inv X pins σ H {s with heap:=h',toks:=t'}:=by
 have d:∀b u,H b=some u->b≠it:=λb u e z=>by rw[z,hn]at e;cases e
 refine I.step (g':=s.gens) (d':=s.drawn) (ch:=[it]) (λb j=>?_) (λb o _ _ a e _=>k b o (λz=>a (by simp[z])) e) (λb o _ _ a e _=>⟨o.slots,k b o (λz=>a (by simp[z])) e⟩) (λ_ _ _ _ n=>n)
  (λb o a e=>⟨o,k b o (λz=>a (by simp[z])) e⟩) (λ_ _ e=>e) (λ_ _ _ e=>e) (λb t e=>⟨#[],by rw[e];simp⟩) (λm hm=>?_) (λb u e=>?_) I.bare
 ·have e:b=it:=by simpa using j
  subst e
  exact⟨g,f,h,i⟩
 ·obtain⟨o,es,ep,l,r⟩:=hm
  exact⟨o,es,ep,k _ o (Ne.symm f) l,r⟩
 ·refine(I.hok b u e).stay (λc v a q=>k c v ?_ q) (λ_ q=>q) λ_ _ q=>q
  rcases a with z|z
  ·rw[z];exact d b u e
  ·exact d c _ z
theorem Inv.tok(I:Inv X pins σ H s)(t:Nat):Inv X pins σ H {s with toks:=t}:=I.un (h':=s.heap) (t':=t) Un.refl I.hok
theorem Inv.kept{t':Nat}(I:Inv X pins σ H s)(k:∀b u,s.heap.get? b=some u->h'.get? b=some u):Inv X pins σ H {s with heap:=h',toks:=t'}:=I.un (Un.kept k) (I.hok.kept k)
theorem Inv.laid{a:Addr}{o:HO}{t':Nat}(I:Inv X pins σ H s)(k:∀b u,s.heap.get? b=some u->h'.get? b=some u)(c:s.heap.objs.size<=a)(new:bd X.prog X.w (upd H a o) h' a o):
  Inv X pins σ (upd H a o) {s with heap:=h',toks:=t'}:=I.un (Un.laid k c (I.hok.fresh c)) (I.hok.laid k c new)
theorem Inv.write{x e:Addr}{o:HO}{t':Nat}(I:Inv X pins σ H s)(mu:Mut (H x))(c:e=x\/H e=some (.own x))(k:∀b u,b≠e->s.heap.get? b=some u->h'.get? b=some u)(a:∃u,h'.get? e=some u)
  (new:bd X.prog X.w (upd H x o) h' x o):Inv X pins σ (upd H x o) {s with heap:=h',toks:=t'}:=I.un (Un.write mu c k a) (I.hok.write mu c k a new)
theorem Inv.pins_of{a:List (Addr×Obj)}(I:Inv X pins σ H s)(h:∀p∈a,s.heap.get? p.1=some p.2/\H p.1=none/\p.1≠X.env.locals/\p.1∉X.fs/\∀v,p.2.data≠ .cell v):Inv X a σ H s:=
 ⟨I.ok,I.os,I.bare,I.base,I.loc,I.cell,I.free,I.freeC,λp b=>(NL.mp b).elim (λz=>I.pin p (OE _ z)) (h p),I.hok,I.len⟩
theorem s9{N:List Str}(c:N.Nodup){i j:Nat}{x:Str}(a:N[i]?=some x)(b:N[j]?=some x):i=j:=by
 obtain⟨f,d⟩:=MF.mp a
 obtain⟨g,e⟩:=MF.mp b
 exact(List.getElem_inj c).mp (d.trans e.symm)
theorem kH{M:Ud}{A:M8}{E:Mh->Ml->Prop}{i:Nat}{x:Str}{v:V}{u:Mh}{Q:Unit->Ml->Prop}(I:Inv X pins σ H s)(hN:X.N.Nodup)(L:X.N[i]?=some x)(t:Loc X.env.scope x)(r:aC v u)
  (h:∀s',Inv X pins (σ.set i (some v)) H s'->(∃a,MT a s.heap s'.heap/\(a=X.env.locals\/X.env.cells.lookup x=some a))->Q () s') (hf:X.fn x=true\/X.env.scope.names.lookup x=some .local:=by first|exact .inl rfl|exact .inr rfl|assumption):Mz M A (storeName X.env x u) Q E s:=by
 obtain⟨m,hn,hl⟩:=id I.loc
 have O:(X.env.scope.kind== .class||(X.env.scope.kind== .module&&X.env.locals !=X.env.globals))=false:=by rw[I.ok.kind];rfl
 have D:i<σ.length:=by rw[I.len];exact(MF.mp L).1
 have cne:=I.cne
 have f:∀{a:Addr} {h':Heap},(∃o,s.heap.get? a=some o/\H a=none)->MT a s.heap h'->HOk X.prog X.w H h':=λ{a h'} ha hs b ob e=>by
  obtain⟨_,_,B⟩:=ha
  refine(I.hok b ob e).stay (λc U l q=>(hs.2 c ?_).trans q) (λ_ q=>q) λ_ _ q=>q
  rintro rfl
  rcases l with rfl|l
  ·rw[B]at e;cases e
  ·rw[B]at l;cases l
 rcases t with F|F
 ·refine wpAny_storeName_local F hn (λh' Y hs=>?_) O
  obtain⟨oL,_,_,Z,_⟩:=id hn
  refine h _ ⟨I.ok,I.os,I.bare,⟨λb o e n G t=>?_,λb o e n G t=>?_,I.base.free,λb o e t=>?_,I.base.tups,I.base.frzs,I.base.tbls⟩,⟨_,Y,λj y v' g C e3=>?_⟩,λy c e=>?_,I.free,I.freeC,λp hp=>?_,f ⟨oL,Z,I.free⟩ hs,by simpa using I.len⟩ ⟨_,hs,.inl rfl⟩
  ·exact(hs.2 b (M6 (MP (MI e) I.ok.above))).trans (I.base.keep b o e n G t)
  ·obtain⟨sl,g⟩:=I.base.slot b o e n G t
   exact⟨sl,(hs.2 b (M6 (MP (MI e) I.ok.above))).trans g⟩
  ·obtain⟨o',g⟩:=I.base.there b o e t
   exact⟨o',(hs.2 b (M6 (MP (MI e) I.ok.above))).trans g⟩
  ·by_cases J:j=i
   ·subst J
    rw[L]at g;cases g
    rw[T8 D]at C
    cases C
    exact⟨u,r,.inl ⟨F,by simp⟩⟩
   ·rw[UC (Ne.symm J)]at C
    obtain⟨u',r',q⟩:=hl j y v' g C e3
    refine⟨u',r',?_⟩
    rcases q with⟨k,e⟩|⟨k,c,e,z⟩
    ·refine .inl ⟨k,?_⟩
     have:y≠x:=λe=>J (s9 hN g (e▸L))
     simp[this,e]
    ·exact .inr ⟨k,c,e,z.sameBut hs (cne y c e)⟩
  ·obtain⟨U,z⟩:=I.cell y c e
   exact⟨U,z.sameBut hs (cne y c e)⟩
  ·obtain⟨e,n,ne,nf,d⟩:=I.pin p hp
   exact⟨(hs.2 p.1 ne).trans e,n,ne,nf,d⟩
 ·have K:X.fn x=true:=by
   rcases hf with z|z
   ·exact z
   ·rw[z]at F;cases F
  obtain⟨c,l⟩:=I.ok.has x (.inl F)
  obtain⟨U,z⟩:=I.cell x c l
  refine wpAny_storeName_cell I.ok.kind F l z (λh' P hs=>?_)
  obtain⟨oc,R,S⟩:=id z
  refine h {s with heap:=h'} ⟨I.ok,I.os,I.bare,⟨λb o e n G t=>?_,λb o e n G t=>?_,I.base.free,λb o e t=>?_,I.base.tups,I.base.frzs,I.base.tbls⟩,⟨m,hn.sameBut hs (Ne.symm (cne x c l)),λj y v' g C e3=>?_⟩,λy W e=>?_,I.free,I.freeC,λp hp=>?_,f ⟨oc,R,I.freeC x c l⟩ hs,by simpa using I.len⟩ ⟨c,hs,.inr l⟩
  ·exact(hs.2 b (M6 (MP (MI e) (I.ok.cab x c K l)))).trans (I.base.keep b o e n G t)
  ·obtain⟨sl,g⟩:=I.base.slot b o e n G t
   exact⟨sl,(hs.2 b (M6 (MP (MI e) (I.ok.cab x c K l)))).trans g⟩
  ·obtain⟨o',g⟩:=I.base.there b o e t
   exact⟨o',(hs.2 b (M6 (MP (MI e) (I.ok.cab x c K l)))).trans g⟩
  ·by_cases J:j=i
   ·subst J
    rw[L]at g;cases g
    rw[T8 D]at C
    cases C
    exact⟨u,r,.inr ⟨.inl F,c,l,P⟩⟩
   ·rw[UC (Ne.symm J)]at C
    obtain⟨u',r',q⟩:=hl j y v' g C e3
    refine⟨u',r',?_⟩
    rcases q with q|⟨k,W,e,z'⟩
    ·exact .inl q
    ·refine .inr ⟨k,W,e,z'.sameBut hs ?_⟩
     rintro rfl
     exact J (s9 hN g (I.ok.inj _ _ _ e l▸L))
  ·by_cases T:W=c
   ·subst T;exact⟨_,P⟩
   ·obtain⟨w2,z2⟩:=I.cell y W e
    exact⟨w2,z2.sameBut hs T⟩
  ·obtain⟨e,n,ne,nf,d⟩:=I.pin p hp
   refine⟨(hs.2 p.1 ?_).trans e,n,ne,nf,d⟩
   intro q
   rw[q,R]at e
   have q':oc=p.2:=MQ e
   exact d U (by rw[←q'];exact S)
theorem mI{M:Ud}{A:M8}{E:Mh->Ml->Prop}{i:Nat}{x:Str}{v:V}{u:Mh}{Q:Unit->Ml->Prop}(I:Inv X pins σ H s)(a:X.N.Nodup)(b:X.N[i]?=some x)(c:Loc X.env.scope x)(r:aC v u)
  (h:∀s',Inv X pins (σ.set i (some v)) H s'->Q () s') (d:X.fn x=true\/X.env.scope.names.lookup x=some .local:=by first|exact .inl rfl|exact .inr rfl|assumption):Mz M A (storeName X.env x u) Q E s:=
 kH I a b c r (λs' e _=>h s' e) d
theorem Inv.call'{s':Ml}{ch:List Addr}(I:Inv X pins σ H s)(d:s'.os=s.os)(u:Un (frs X.stack) ch H H' s.heap s'.heap)(hok:HOk X.prog X.w H' s'.heap)(f:QX s'.gens)
  (a:∀b∈ch,(b∈X.ex\/X.s₀.heap.objs.size<=b)/\b≠X.env.locals/\(∀x c,X.env.cells.lookup x=some c->c≠b)/\∀p∈X.pn++pins,p.1≠b):Inv X pins σ H' s':=by
 obtain⟨h',g',d',t',g⟩:=s'
 have e:g=s.os:=d
 subst e
 exact I.call (g':=g') (t':=t') (d':=d') u hok f a
end
noncomputable abbrev XK:=Mh->Option Addr->Hp->Prop
noncomputable abbrev St:=List (Option V)
noncomputable abbrev VK:=V->Hp->Prop
noncomputable abbrev TE:=St->Hp->VK->Prop
noncomputable abbrev TT:=St->Hp->(Bool->Hp->Prop)->Prop
noncomputable abbrev TA:=St->Hp->(List V->Hp->Prop)->Prop
structure Ends where
 nx:St->Hp->Prop
 rt:VK
 bk:St->Hp->Prop:=λ_ _=>False
 ct:St->Hp->Prop:=λ_ _=>False
noncomputable abbrev TS:=Ends->St->Hp->Prop
noncomputable def EP(X:Cx)(a:List (Addr×Obj))(c:St)(Q:VK)(u:Mh)(s':Ml):Prop:=∃v b,Inv X a c b s'/\aC v u/\Q v b
noncomputable def TP(X:Cx)(a:List (Addr×Obj))(d:St)(Q:Bool->Hp->Prop)(b:Bool)(s':Ml):Prop:=∃c,Inv X a d c s'/\Q b c
noncomputable def AP(X:Cx)(a:List (Addr×Obj))(c:St)(Q:List V->Hp->Prop)(us:List Mh)(s':Ml):Prop:=∃vs b,Inv X a c b s'/\ak vs us/\Q vs b
noncomputable def SP(X:Cx)(b:List (Addr×Obj))(D:Ends)(f:Flow)(s':Ml):Prop:=
 match f with
 | .next=>∃a c,Inv X b a c s'/\D.nx a c
 | .brk=>∃a c,Inv X b a c s'/\D.bk a c
 | .cont=>∃a c,Inv X b a c s'/\D.ct a c
 | .ret u=>∃v a c,Inv X b a c s'/\aC v u/\D.rt v c
noncomputable def PE(X:Cx)(e:Expr)(t:TE):Prop:=
 ∀(a:List (Addr×Obj)) (s:Ml) (b:St) (H:Hp) (Q:VK),Inv X a b H s->t b H Q->Mz (ML X.prog X.w) X.A (eval e X.env) (EP X a b Q) X.xe s
noncomputable def PT(X:Cx)(e:Expr)(t:TT):Prop:=
 ∀(a:List (Addr×Obj)) (s:Ml) (b:St) (H:Hp) (Q:Bool->Hp->Prop),Inv X a b H s->t b H Q->Mz (ML X.prog X.w) X.A (isTrue e X.env (eval e X.env)) (TP X a b Q) X.xe s
noncomputable def PW(X:Cx)(e:Expr)(t:TT):Prop:=
 ∀(b:Sem Mh) (a:List (Addr×Obj)) (s:Ml) (c:St) (H:Hp) (Q:Bool->Hp->Prop),Inv X a c H s->t c H Q->Mz (ML X.prog X.w) X.A (isTrue e X.env b) (TP X a c Q) X.xe s
theorem PW.pt{X:Cx}{e:Expr}{t:TT}(h:PW X e t):PT X e t:=h _
noncomputable def PA(X:Cx)(es:List Expr)(t:TA):Prop:=
 ∀(pos:Pos) (a:List (Addr×Obj)) (s:Ml) (b:St) (H:Hp) (Q:List V->Hp->Prop),Inv X a b H s->t b H Q->Mz (ML X.prog X.w) X.A (spliced (NZ pos (Mx es X.env))) (AP X a b Q) X.xe s
noncomputable def PS(X:Cx)(st:Stmt)(t:TS):Prop:=
 ∀(a:List (Addr×Obj)) (s:Ml) (b:St) (H:Hp) (D:Ends),Inv X a b H s->t D b H->Mz (ML X.prog X.w) X.A (exec st X.env) (SP X a D) X.xe s
noncomputable def PSs(X:Cx)(st:List Stmt)(t:TS):Prop:=
 ∀(a:List (Addr×Obj)) (s:Ml) (b:St) (H:Hp) (D:Ends),Inv X a b H s->t D b H->Mz (ML X.prog X.w) X.A (execs st X.env) (SP X a D) X.xe s
theorem thn{α:Type}{t:Sem α}{Q b:α->Ml->Prop}{M:Ud}{A:M8}{E:Mh->Ml->Prop}{s:Ml}(h:Mz M A t Q E s)(c:∀a s,Q a s->b a s):Mz M A t b E s:=M9 h c λ_ _ x=>x
section
variable{X:Cx}
noncomputable def o6(i:Nat):TE:=λa H Q=>∃v,a[i]?=some (some v)/\Q v H
noncomputable def tC(v:V):TE:=λ_ H Q=>Q v H
theorem ID{i:Nat}{x:Str}{pos:Pos}(k:X.N[i]?=some x)(n:Vis X.env.scope x)(hd:(x==("__debug__":Str))=false:=by decide)(g:(x==("__classdict__":Str))=false:=by decide):PE X (.Name x pos) (o6 i):=by
 intro f s o H Q I h
 obtain⟨v,e,h⟩:=h
 obtain⟨m,hn,p⟩:=I.loc
 obtain⟨u,r,l⟩:=p i x v k e n
 have b:EP X f o Q u s:=⟨v,H,I,r,h⟩
 rcases l with⟨d,hm⟩|⟨d,c,j,a⟩
 ·exact wpAny_Name (wpAny_loadName_local I.ok.kind d hn hm b) hd
 ·rcases d with d|d
  ·exact wpAny_Name (wpAny_loadName_cell I.ok.kind d j a b) hd
  ·exact wpAny_Name (wpAny_loadName_free I.ok.kind d j a b g) hd
theorem bz{i j pos}:PE X (.Constant (.int i) j pos) (tC (.int i)):=λ_ _ _ H _ I h=>wpAny_Constant_int ⟨.int i,H,I.tok _,⟨_,rfl⟩,h⟩
theorem LB{b j pos}:PE X (.Constant (.bool b) j pos) (tC (.bl b)):=λ_ _ _ H _ I h=>Constant_bool ⟨.bl b,H,I,rfl,h⟩
theorem IH{j pos}:PE X (.Constant .none j pos) (tC .non):=λ_ _ _ H _ I h=>Constant_none ⟨.non,H,I,rfl,h⟩
theorem n5{x j pos}:PE X (.Constant (.str x) j pos) (tC (.str x)):=λ_ _ _ H _ I h=>UL ⟨.str x,H,I.tok _,⟨_,rfl⟩,h⟩
noncomputable def Gl(X:Cx)(x:Str):Prop:=X.env.kindOf x=some .globalImplicit
theorem h9{E:Mh->Ml->Prop}{a:List (Addr×Obj)}{s:Ml}{b:St}{H:Hp}{x:Str}{u:Mh}{pos:Pos}{Q:Mh->Ml->Prop}(I:Inv X a b H s)(c:Gl X x)(hm:X.mg x=some u)(h:Q u s)
  (hd:(x==("__debug__":Str))=false:=by decide):Mz (ML X.prog X.w) X.A (eval (.Name x pos) X.env) Q E s:=
 SU I.ok.kind c (Calls.loadGlobal_global (by rw[I.ok.glob];exact I.mod.glob.keeps I.bk) hm h) hd
theorem eV{E:Mh->Ml->Prop}{a:List (Addr×Obj)}{s:Ml}{b:St}{H:Hp}{x:Str}{u:Mh}{pos:Pos}{Q:Mh->Ml->Prop}(I:Inv X a b H s)(c:Gl X x)(hm:X.mg x=none)(d:PM x=some u)(h:Q u s)
  (hn:x≠"__name__":=by decide) (hd:(x==("__debug__":Str))=false:=by decide):Mz (ML X.prog X.w) X.A (eval (.Name x pos) X.env) Q E s:=by
 obtain⟨g,e,f⟩:=I.mod.blt
 exact SU I.ok.kind c (Calls.loadGlobal_builtin (by rw[I.ok.glob];exact I.mod.glob.keeps I.bk) hm (by rw[I.ok.blt];exact e.keeps I.bk) ((f x hn).trans d) h) hd
theorem FT{x:Str}{v:V}{u:Mh}{pos:Pos}(a:Gl X x)(hm:X.mg x=some u)(r:aC v u)(hd:(x==("__debug__":Str))=false:=by decide):PE X (.Name x pos) (tC v):=
 λ_ _ _ H _ I h=>h9 I a hm ⟨v,H,I,r,h⟩ hd
theorem cr{x:Str}{v:V}{u:Mh}{pos:Pos}(a:Gl X x)(hm:X.mg x=none)(b:PM x=some u)(r:aC v u)(hn:x≠"__name__":=by decide)(hd:(x==("__debug__":Str))=false:=by decide):PE X (.Name x pos) (tC v):=
 λ_ _ _ H _ I h=>eV I a hm b ⟨v,H,I,r,h⟩ hn hd
variable{a b:Expr}{ta tb:TE}{pos:Pos}
variable{tA tB':TT}{rest:List Expr}
noncomputable def tOr(t u:TT):TT:=λd H Q=>t d H λc e=>if c=true then Q true e else u d e Q
noncomputable def tNot(t:TT):TT:=λd H Q=>t d H λc e=>Q (!c) e
theorem Iq(ha:PT X a tA):PW X (.BoolOp .Or [a] pos) tA:=by
 intro g d s f H Q I h
 refine isTrue_or (thn (ha d s f H Q I h) λc i e=>?_)
 cases c with
 |false=>exact isTrue_or_nil e
 |true=>exact e
theorem Ly(ha:PT X a tA)(i:PW X (.BoolOp .Or (b::rest) pos) tB'):PW X (.BoolOp .Or (a::b::rest) pos) (tOr tA tB'):=by
 intro j d s e H Q I h
 refine isTrue_or (thn (ha d s e H _ I h) λc k ⟨f,g,q1⟩=>?_)
 cases c with
 |true=>exact⟨f,g,q1⟩
 |false=>exact i j d k e f Q g q1
theorem Iu(ha:PT X a tA):PT X (.UnaryOp .Not a pos) (tNot tA):=by
 intro d s e H Q I h
 exact isTrue_not (ha d s e H (λc f=>Q (!c) f) I h)
noncomputable def Lq(ta tb:TE):TE:=λd H Q=>ta d H λx e=>∃c,x= .bl c/\if c=true then tb d e Q else Q (.bl false) e
theorem IG{op}{t:TE}(h:PE X a t):PE X (.BoolOp op [a] pos) t:=λc s d H Q I e=>BoolOp_one (h c s d H Q I e)
theorem IJ(ha:PE X a ta)(i:PE X (.BoolOp .And (b::rest) pos) tb):PE X (.BoolOp .And (a::b::rest) pos) (Lq ta tb):=by
 intro d s e H Q I h
 refine BoolOp_and (thn (ha d s e H _ I h) λv j ⟨x,f,g,r1,q1⟩=>?_)
 obtain⟨c,rfl,q1⟩:=q1
 cases r1
 refine NJ ?_
 cases c with
 |true=>exact i d j e f Q g q1
 |false=>exact⟨.bl false,f,g,rfl,q1⟩
noncomputable def tIf(t:TT)(ta tb:TE):TE:=λd H Q=>t d H λc e=>if c=true then ta d e Q else tb d e Q
theorem AK{c:Expr}(k:PT X c tA)(ha:PE X a ta)(l:PE X b tb):PE X (.IfExp c a b pos) (tIf tA ta tb):=by
 intro e s f H Q I h
 refine wpAny_IfExp (thn (k e s f H _ I h) λd g ⟨i,j,q1⟩=>?_)
 cases d with
 |true=>exact ha e g f i Q j q1
 |false=>exact l e g f i Q j q1
end
noncomputable def SqL(K:Frag)(H:Hp)(a:Addr)(xs:List V):Prop:=
 Rd H a (.lst xs)\/
  ∃(o:Obj) (its:Array Mh) (n:Nat),K.lookup a=some o/\o.cls= .type "list"/\o.dict=none/\o.data= .seq its n/\its.size<=sizeLine/\ak xs its.toList
noncomputable def SqT(K:Frag)(H:Hp)(a:Addr)(xs:List V):Prop:=
 Rd H a (.tup xs)\/
  ∃(o:Obj) (its:Array Mh) (n:Nat),K.lookup a=some o/\o.cls= .type "tuple"/\o.data= .seq its n/\its.size<=sizeLine/\ak xs its.toList
noncomputable def absV:Mh->Option V
 | .none=>some .non
 | .bool b=>some (.bl b)
 | .int i _=>some (.int i)
 | .str x _=>some (.str x)
 | .bytes b _=>some (.byt b)
 | .float b _=>some (.flt b)
 | .ref a=>some (.ref a)
 | .type n=>some (.ty n)
 |_=>none
theorem aC.abs{x:V}{u:Mh}(r:aC x u):absV u=some x:=by
 cases x with
 |non=>cases r;rfl
 |bl _=>cases r;rfl
 |int _=>obtain⟨t,rfl⟩:=r;rfl
 |str _=>obtain⟨t,rfl⟩:=r;rfl
 |byt _=>obtain⟨t,rfl⟩:=r;rfl
 |flt _=>obtain⟨t,rfl⟩:=r;rfl
 |ref _=>cases r;rfl
 |ty _=>cases r;rfl
theorem aC.inj{x y:V}{u:Mh}(r:aC x u)(q:aC y u):x=y:=MQ (r.abs.symm.trans q.abs)
theorem ak.inj:∀{xs ys:List V} {us:List Mh},ak xs us->ak ys us->xs=ys
 |_,_,_,.nil,.nil=>rfl
 |_,_,_,.cons r t,.cons r' t'=>by rw[r.inj r',ak.inj t t']
section
variable{X:Cx}{pins:List (Addr×Obj)}{σ:St}{H:Hp}{s:Ml}{a:Addr}{xs ys:List V}
theorem SqL.of{K:Frag}(h:H a=some (.lst xs)):SqL K H a xs:= .inl (.inl h)
theorem Inv.list(I:Inv X pins σ H s)(h:SqL X.K H a xs):∃its:List Mh,ak xs its/\PlainL s.heap a its.toArray/\xs.length<=sizeLine:=by
 rcases h with h|⟨o,its,n,b,c,hd,hs,d,r⟩
 ·obtain⟨z,its,n,r,e⟩:=h.ok I.hok
  exact⟨its,r,⟨_,n,e,rfl,rfl,rfl⟩,z⟩
 ·refine⟨its.toList,r,⟨o,n,I.kIn a o b,c,hd,by simpa using hs⟩,?_⟩
  have e:=r.length
  simp only[M0]at e
  omega
theorem Inv.tuple(I:Inv X pins σ H s)(h:SqT X.K H a xs):∃its:List Mh,ak xs its/\IsTup s.heap a its.toArray/\xs.length<=sizeLine:=by
 rcases h with h|⟨o,its,n,b,c,hs,d,r⟩
 ·obtain⟨z,its,r,p⟩:=h.ok I.hok
  exact⟨its,r,p,z⟩
 ·refine⟨its.toList,r,⟨o,I.kIn a o b,c,n,by simpa using hs⟩,?_⟩
  have e:=r.length
  simp only[M0]at e
  omega
theorem Inv.list_inj(I:Inv X pins σ H s)(h:SqL X.K H a xs)(h':SqL X.K H a ys):xs=ys:=by
 obtain⟨its,r,⟨o,n,e,_,_,d⟩,_⟩:=I.list h
 obtain⟨its',c,⟨f,g,b,_,_,d'⟩,_⟩:=I.list h'
 rw[e]at b;cases b
 rw[d]at d'
 injection d' with d1 _
 have:its=its':=by simpa using Nq Array.toList d1
 subst this
 exact r.inj c
theorem Inv.tuple_inj(I:Inv X pins σ H s)(h:SqT X.K H a xs)(h':SqT X.K H a ys):xs=ys:=by
 obtain⟨its,r,⟨o,e,_,n,d⟩,_⟩:=I.tuple h
 obtain⟨its',c,⟨f,b,_,g,d'⟩,_⟩:=I.tuple h'
 rw[e]at b;cases b
 rw[d]at d'
 injection d' with d1 _
 have:its=its':=by simpa using Nq Array.toList d1
 subst this
 exact r.inj c
end
noncomputable abbrev Cx.wish(X:Cx)(E:Mh->Ml->Prop):Cx:={X with xe:=E}
noncomputable abbrev Cx.nox(X:Cx):Cx:=X.wish λ_ _=>False
theorem Cx.Ok.wish{X:Cx}(ok:X.Ok)(E:Mh->Ml->Prop):(X.wish E).Ok:=
 ⟨ok.mod,ok.kind,ok.glob,ok.blt,ok.above,ok.inj,ok.has,ok.cab,ok.hd,ok.frames,ok.stk,ok.exf,ok.bs,ok.bsz,ok.noex,ok.exfs,ok.funs,ok.frf⟩
theorem Cx.Ok.unwish{X:Cx}{E:Mh->Ml->Prop}(ok:(X.wish E).Ok):X.Ok:=
 ⟨ok.mod,ok.kind,ok.glob,ok.blt,ok.above,ok.inj,ok.has,ok.cab,ok.hd,ok.frames,ok.stk,ok.exf,ok.bs,ok.bsz,ok.noex,ok.exfs,ok.funs,ok.frf⟩
section
variable{X:Cx}{pins:List (Addr×Obj)}{σ:St}{H:Hp}{s:Ml}{E:Mh->Ml->Prop}
theorem Inv.wish(I:Inv X pins σ H s)(E:Mh->Ml->Prop):Inv (X.wish E) pins σ H s:=⟨I.ok.wish E,I.os,I.bare,I.base,I.loc,I.cell,I.free,I.freeC,I.pin,I.hok,I.len⟩
theorem Inv.unwish(I:Inv (X.wish E) pins σ H s):Inv X pins σ H s:=⟨I.ok.unwish,I.os,I.bare,I.base,I.loc,I.cell,I.free,I.freeC,I.pin,I.hok,I.len⟩
theorem SP.unwish{D:Ends}{f:Flow}{s':Ml}(h:SP (X.wish E) pins D f s'):SP X pins D f s':=by
 cases f with
 |next=>obtain⟨a,b,I,q⟩:=h;exact⟨a,b,I.unwish,q⟩
 |brk=>obtain⟨a,b,I,q⟩:=h;exact⟨a,b,I.unwish,q⟩
 |cont=>obtain⟨a,b,I,q⟩:=h;exact⟨a,b,I.unwish,q⟩
 |ret u=>obtain⟨v,a,b,I,r,q⟩:=h;exact⟨v,a,b,I.unwish,r,q⟩
theorem PSs.nox{st:List Stmt}{t:TS}(h:PSs X.nox st t):PSs X st t:=λpins s σ H D I a=>
 M9 (h pins s σ H D (I.wish _) a) (λ_ _ q=>q.unwish) λ_ _ z=>NQ z
end
section
variable{X:Cx}{st:Stmt}{rest:List Stmt}{t u:TS}{e:Expr}{te:TE}{pos:Pos}
noncomputable def Ln:TS:=λD a H=>D.nx a H
noncomputable def tSeq(t u:TS):TS:=λD a H=>t {D with nx:=u D} a H
theorem ph:PSs X [] Ln:=λ_ _ a H _ I h=>T3 ⟨a,H,I,h⟩
theorem bO(c:PS X st t)(d:PSs X rest u):PSs X (st::rest) (tSeq t u):=by
 intro a s g H D I h
 refine wpAny_execs_cons (thn (c a s g H {D with nx:=u D} I h) λf i q=>?_)
 cases f with
 |next=>
  obtain⟨b,j,k,q⟩:=q
  exact d a i b j D k q
 |ret v=>exact q
 |brk=>exact q
 |cont=>exact q
theorem fD(b:PS X st t):PSs X [st] t:=by
 intro a s c H D I h
 refine wpAny_execs_cons (thn (b a s c H D I h) λf d q=>?_)
 cases f with
 |next=>exact T3 q
 |ret v=>exact q
 |brk=>exact q
 |cont=>exact q
theorem Inv.quiet{a:List (Addr×Obj)}{b:St}{H:Hp}{s:Ml}(I:Inv X a b H s):interactive X.env=false:=by simp[interactive,I.ok.kind]
noncomputable def wb(te:TE):TS:=λD a H=>te a H λ_ b=>D.nx a b
theorem cS(c:PE X e te)(hs:P5 e none pos.line X.env=pure false:=by rfl):PS X (.Expr e pos) (wb te):=by
 intro a s b H D I h
 exact wpAny_Expr_any (thn (c a s b H _ I h) λv g ⟨x,d,f,r1,q1⟩=>⟨b,d,f,q1⟩) I.quiet hs
noncomputable def HN(te:TE):TS:=λD a H=>te a H D.rt
theorem aB(c:PE X e te):PS X (.Return (some e) pos) (HN te):=by
 intro a s b H D I h
 exact wpAny_Return_some (thn (c a s b H _ I h) λv g ⟨x,d,f,r1,q1⟩=>⟨x,b,d,f,r1,q1⟩)
noncomputable def tIfS(c:TT)(t u:TS):TS:=λD a H=>c a H λb d=>if b=true then t D a d else u D a d
theorem DI{c:Expr}{a b:List Stmt}{i:TT}(m:PT X c i)(ha:PSs X a t)(n:PSs X b u):PS X (.If c a b pos) (tIfS i t u):=by
 intro f s g H D I h
 refine wpAny_If (thn (m f s g H _ I h) λd j ⟨k,l,q1⟩=>?_)
 cases d with
 |true=>exact ha f j g k D l q1
 |false=>exact n f j g k D l q1
end
noncomputable abbrev TG:=V->St->Hp->(St->Hp->Prop)->Prop
noncomputable abbrev TGs:=List V->St->Hp->(St->Hp->Prop)->Prop
noncomputable def PG(X:Cx)(a:Expr)(t:TG):Prop:=
 ∀(b:List (Addr×Obj)) (s:Ml) (d:St) (H:Hp) (v:V) (u:Mh) (Q:St->Hp->Prop),Inv X b d H s->aC v u->t v d H Q->
  Mz (ML X.prog X.w) X.A (QO a X.env u) (λ_ s'=>∃c e,Inv X b c e s'/\Q c e) X.xe s
noncomputable def PGs(X:Cx)(e:List Expr)(t:TGs):Prop:=
 ∀(a:List (Addr×Obj)) (s:Ml) (c:St) (H:Hp) (vs:List V) (us:List Mh) (Q:St->Hp->Prop),Inv X a c H s->ak vs us->t vs c H Q->
  Mz (ML X.prog X.w) X.A (assignInOrder ((RP e X.env).map (·.2)) us) (λ_ s'=>∃b d,Inv X a b d s'/\Q b d) X.xe s
noncomputable abbrev CK:=V->V->V->Hp->(Hp->Prop)->Prop
noncomputable def K5(X:Cx)(t:CK):Prop:=
 ∀(a:List (Addr×Obj)) (s:Ml) (b:St) (H:Hp) (o i v:V) (c d u:Mh) (Q:Hp->Prop),Inv X a b H s->aC o c->aC i d->aC v u->t o i v H Q->
  Mz (ML X.prog X.w) X.A (setItem c d u) (λ_ s'=>∃e,Inv X a b e s'/\Q e) X.xe s
noncomputable abbrev TIp:=V->V->Hp->VK->Prop
noncomputable def PIp(X:Cx)(op:Operator)(t:TIp):Prop:=
 ∀(a:List (Addr×Obj)) (s:Ml) (b:St) (H:Hp) (x y:V) (v u:Mh) (Q:VK),Inv X a b H s->aC x v->aC y u->t x y H Q->
  Mz (ML X.prog X.w) X.A (inplaceOp op v u) (EP X a b Q) X.xe s
section
variable{X:Cx}{pos:Pos}
noncomputable def ef(i:Nat):TG:=λv a H Q=>Q (a.set i (some v)) H
theorem u6{i:Nat}{x:Str}(b:X.N.Nodup)(c:X.N[i]?=some x)(d:Loc X.env.scope x)(e:X.fn x=true\/X.env.scope.names.lookup x=some .local:=by first|exact .inl rfl|exact .inr rfl|assumption):PG X (.Name x pos) (ef i):=by
 intro a s g H v u Q I r h
 exact Tc (mI I b c d r (λs' f=>⟨_,H,f,h⟩) e)
noncomputable def gNil:TGs:=λvs a H Q=>vs=[]/\Q a H
noncomputable def w9(t:TG)(u:TGs):TGs:=λvs b H Q=>∃v r,vs=v::r/\t v b H λa c=>u r a c Q
theorem cq:PGs X [] gNil:=by
 intro a s b H vs us Q I r h
 obtain⟨e,h⟩:=h
 subst e
 cases r
 exact assignInOrder_nil ⟨b,H,I,h⟩
theorem aN{e:Expr}{es:List Expr}{t:TG}{u:TGs}(c:PG X e t)(d:PGs X es u)
  (hs:(RP (e::es) X.env).map (·.2)=QO e X.env::(RP es X.env).map (·.2):=by rfl):PGs X (e::es) (w9 t u):=by
 intro a s f H vs us Q I r h
 obtain⟨v,m,g,h⟩:=h
 subst g
 cases r with
 |cons r i=>
  rw[hs]
  refine assignInOrder_cons (thn (c a s f H _ _ _ I r h) λ_ j ⟨b,k,l,q1⟩=>?_)
  exact d a j b k _ _ Q l i q1
noncomputable def BT(K:Frag)(n:Nat)(t:TGs):TG:=λv b H Q=>∃a xs,v= .ref a/\SqT K H a xs/\xs.length=n/\t xs b H Q
theorem dm{es:List Expr}{k:Nat}{t:TGs}{n:Nat}(j:X.calm=true)(h:PGs X es t)
  (hn:(RP es X.env).length=n:=by rfl) (d:(RP es X.env).findIdx? (·.1)=none:=by rfl):PG X (.Tuple es k pos) (BT X.K n t):=by
 intro c s g H v u Q I r f
 obtain⟨a,xs,l,m,p,f⟩:=f
 subst l
 cases r
 obtain⟨its,i,q,y⟩:=I.tuple m
 refine assign_Tuple_tuple (I.ok.hd j) q (by simp[hn,←p,i.length]) d λh' w=>?_
 have x:Inv X c g H {s with heap:=h'}:=I.kept (t':=s.toks) λb o e=>w b o (M6 (MI e)) e
 exact h c _ g H xs _ Q x (by simpa using i) f
noncomputable def Jq(to b:TE)(t:CK):TG:=λv a H Q=>to a H λo c=>b a c λi d=>t o i v d λe=>Q a e
theorem nZ{o i:Expr}{to e:TE}{t:CK}(f:PE X o to)(g:PE X i e)(hs:K5 X t)
  (ha:∀v,QO (.Subscript o i pos) X.env v=(do
   let b ←PN [v] (eval o X.env)
   let c ←PN [v,b] (eval i X.env)
   Pc pos
   PN [v,b,c] (setItem b c v)
   release [v,b,c] []):=by intro _;rfl):PG X (.Subscript o i pos) (Jq to e t):=by
 intro a s d H v u Q I r h
 rw[ha]
 refine on (NI (thn (f a s d H _ I h) λb j ⟨x,k,l,r1,q1⟩=>?_))
 refine on (NI (thn (g a j d k _ l q1) λc m ⟨y,n,p,q,q2⟩=>?_))
 refine on (N6 (on (NI (thn (hs a m d n x y v b c u _ p r1 q r q2) λ_ A ⟨w,z,q3⟩=>?_))))
 exact wpAny_release ⟨d,w,z,q3⟩
noncomputable def i6(b:TE)(g:TG):TS:=λD a H=>b a H λx c=>g x a c D.nx
theorem jr{tg e:Expr}{b:TE}{g:TG}(d:PE X e b)(f:PG X tg g)(hs:swapsWithSole [tg] e pos.line X.env=pure false:=by rfl)(i:swappedStores [tg] e X.env=pure none:=by rfl)
  (j:(RP [tg] X.env).map (·.2)=[QO tg X.env]:=by rfl):PS X (.Assign [tg] e pos) (i6 b g):=by
 intro a s c H D I h
 refine wpAny_Assign_stores (thn (d a s c H _ I h) λv k ⟨x,l,m,r1,q1⟩=>?_) hs i
 rw[j]
 exact thn (f a k c l x v _ m r1 q1) λ_ n q=>q
theorem nX{i:Nat}{x:Str}{e:Expr}{c:TE}{a:Pos}(d:X.N.Nodup)(f:X.N[i]?=some x)(g:Loc X.env.scope x)(j:PE X e c)(hs:P5 e (some (.Name x a)) pos.line X.env=pure false:=by rfl)(k:X.fn x=true\/X.env.scope.names.lookup x=some .local:=by first|exact .inl rfl|exact .inr rfl|assumption):
  PS X (.Assign [.Name x a] e pos) (i6 c (ef i)):=by
 intro b s l H D I h
 refine wpAny_Assign_Name (thn (j b s l H _ I h) λv p ⟨y,m,n,r1,q1⟩=>?_) hs
 exact mI n d f g r1 (λq o=>⟨_,m,o,q1⟩) k
noncomputable def HW(i:Nat)(b:TE)(c:TIp):TS:=λD a H=>∃x,a[i]?=some (some x)/\b a H λy d=>c x y d λz e=>D.nx (a.set i (some z)) e
theorem kQ{i:Nat}{x:Str}{e:Expr}{p:TE}{op:Operator}{q:TIp}{f:Pos}(C:X.N.Nodup)(t:X.N[i]?=some x)(n:Loc X.env.scope x)(E:PE X e p)(F:PIp X op q)(G:X.fn x=true\/X.env.scope.names.lookup x=some .local:=by first|exact .inl rfl|exact .inr rfl|assumption):
  PS X (.AugAssign (.Name x f) op e pos) (HW i p q):=by
 intro a s B H D I h
 obtain⟨v,J,h⟩:=h
 obtain⟨m,hn,K⟩:=I.loc
 have o:Vis X.env.scope x:=by rcases n with k|k;exact .inl k;exact .inr (.inl k)
 obtain⟨u,r,l⟩:=K i x v t J o
 refine wpAny_AugAssign_Name ?_
 have go:Mz (ML X.prog X.w) X.A (eval e X.env) (λw g=>Mz (ML X.prog X.w) X.A (inplaceOp op u w) (λr j=>Mz (ML X.prog X.w) X.A (storeName X.env x r) (λ_=>SP X a D .next) X.xe j) X.xe g) X.xe s:=by
  refine thn (E a s B H _ I h) λw L ⟨y,M,O,r1,q1⟩=>?_
  refine thn (F a L B M v y u w _ O r r1 q1) λz U ⟨V,P,Q,R,q2⟩=>?_
  exact mI Q C t n R (λW S=>⟨_,P,S,q2⟩) G
 rcases l with⟨b,hm⟩|⟨b,c,T,d⟩
 ·exact wpAny_loadName_local I.ok.kind b hn hm go
 ·rcases b with b|b
  ·exact wpAny_loadName_cell I.ok.kind b T d go
  ·rcases n with k|k
   ·have:X.env.scope.names.lookup x=some .free:=b
    rw[k]at this;cases this
   ·have:X.env.scope.names.lookup x=some .free:=b
    rw[k]at this;cases this
noncomputable def ipI(f:Int->Int->Int):TIp:=λx y H Q=>∃i j,x= .int i/\y= .int j/\Q (.int (f i j)) H
theorem y6:PIp X .Add (ipI λi j=>i+j):=by
 intro a s e H x y v u Q I r1 b h
 obtain⟨i,j,c,d,q⟩:=h
 subst c;subst d
 obtain⟨t,rfl⟩:=r1
 obtain⟨t',rfl⟩:=b
 exact iadd_int ⟨.int _,H,I.tok _,⟨_,rfl⟩,q⟩
end
section
variable{X:Cx}{pos:Pos}
end
structure It where
 go:Nat->Hp->Prop
 yld:Nat->Hp->V->Hp->Prop
 stop:Nat->Hp->Prop
noncomputable def eL(X:Cx)(a:List (Addr×Obj))(H:Hp)(b:Addr):Prop:=
 H b=none/\b≠X.env.locals/\b∉X.fs/\(b∈X.ex\/X.s₀.heap.objs.size<=b)/\(∀x c,X.env.cells.lookup x=some c->c≠b)/\∀p∈X.pn++a,p.1≠b
theorem Inv.fpOk{X:Cx}{a:List (Addr×Obj)}{g:St}{H f:Hp}{s:Ml}{b:Addr}(I:Inv X a g H s)(d:s.heap.objs.size<=b)(hn:f b=none):eL X a f b:=by
 refine⟨hn,Ou (MP I.lt d),I.nofs d,.inr (MS I.sz d),λx c e z=>?_,λp h z=>?_⟩
 ·obtain⟨v,q⟩:=I.cell x c e
  exact MM (MP q.lt (by rw[z];exact d)) (Nf _)
 ·exact MM (MP (MI (I.pin p h).1) (by rw[z];exact d)) (Nf _)
structure Turn (P:Program) (w:MY) (K:Frag) (tg:Expr) (J:It) (fp:List Addr) (it:Addr) (tn:Nat->Heap->Prop):Prop where
 mem:it∈fp
 obj:∀i h,tn i h->∀b∈fp,∃o,h.get? b=some o/\∀v,o.data≠ .cell v
 keep:∀i h h',tn i h->(∀b∈fp,∀o,h.get? b=some o->h'.get? b=some o)->tn i h'
 item:∀(X:Cx),X.prog=P->X.w=w->X.K=K->X.calm=true->∀(i:Nat) (pins:List (Addr×Obj)) (s:Ml) (σ:St) (H:Hp) (E:Mh->Ml->Prop),Inv X pins σ H s->(∀b∈fp,eL X pins H b)->tn i s.heap->J.go i H->
  Mz (ML P w) X.A (Qh (.ref it)) (λr s1=>∃u,r=some u/\
   Mz (ML P w) X.A (QR tg (.ref it) u) (λ_ s2=>∃x H',Inv X pins σ H' s2/\aC x u/\J.yld i H x H'/\tn (i+1) s2.heap/\∀b∈fp,H' b=none) E s1) E s
 done:∀(X:Cx),X.prog=P->X.w=w->X.K=K->X.calm=true->∀(i:Nat) (pins:List (Addr×Obj)) (s:Ml) (σ:St) (H:Hp) (E:Mh->Ml->Prop),Inv X pins σ H s->(∀b∈fp,eL X pins H b)->tn i s.heap->J.stop i H->
  Mz (ML P w) X.A (Qh (.ref it)) (λr s1=>r=none/\Inv X pins σ H s1) E s
 self:∀(A:M8) (i:Nat) (s:Ml) (Q:Mh->Ml->Prop) (E:Mh->Ml->Prop),tn i s.heap->Q (.ref it) s->Mz (ML P w) A (Sb (.ref it)) Q E s
noncomputable abbrev TI:=St->Hp->(It->Hp->Prop)->Prop
noncomputable def PIE(X:Cx)(a:List (Addr×Obj))(h:St)(tg:Expr)(R:It->Hp->Prop)(c:Mh)(e:Ml):Prop:=
 ∃(it:Addr) (f:List Addr) (g:Nat->Heap->Prop) (J:It) (d:Hp),c= .ref it/\Inv X a h d e/\Turn X.prog X.w X.K tg J f it g/\g 0 e.heap/\(∀b∈f,eL X a d b)/\R J d
noncomputable def PI(X:Cx)(tg b:Expr)(d:TI):Prop:=
 ∀(a:List (Addr×Obj)) (s:Ml) (c:St) (H:Hp) (R:It->Hp->Prop),Inv X a c H s->d c H R->
  Mz (ML X.prog X.w) X.A (eval b X.env) (λv e=>Mz (ML X.prog X.w) X.A (Sb v) (PIE X a c tg R) X.xe e) X.xe s
theorem rL{M:Ud}{A:M8}{E:Mh->Ml->Prop}{s:Ml}{tg:Expr}{it:Addr}{u:Mh}{o:Obj}{n:String}{vs:Array Mh}{Q:Unit->Ml->Prop}(b:s.heap.get? it=some o)(c:o.cls= .type n)(hd:o.data= .fields vs)
  (hn:["enumerate","zip","dict_itemiterator","dict_reverseitemiterator","odict_iterator","itertools.zip_longest","itertools.pairwise"].contains n=false) (a:Q () s):Mz M A (QR tg (.ref it) u) Q E s:=by
 unfold QR
 cases tg<;>first
  |exact Mg a
  |(cases u<;>first
   |exact Mg a
   |(refine on (wpAny_load b ?_)
     rw[c,hd]
     show Mz M A (if(["enumerate","zip","dict_itemiterator","dict_reverseitemiterator","odict_iterator","itertools.zip_longest","itertools.pairwise"].contains n&&vs[0]?==some (Qi _))=true then _ else _) Q E s
     rw[Mr (by intro h;rw[hn,Te]at h;cases h)]
     exact Mg a))
noncomputable def Itl(K:Frag)(a:Addr):It:=
 ⟨λi H=>∃xs x,SqL K H a xs/\xs[i]?=some x,λi H x b=>b=H/\∀xs,SqL K H a xs->xs[i]?=some x,λi H=>∃xs,SqL K H a xs/\xs.length<=i⟩
noncomputable def Itt(K:Frag)(a:Addr):It:=
 ⟨λi H=>∃xs x,SqT K H a xs/\xs[i]?=some x,λi H x b=>b=H/\∀xs,SqT K H a xs->xs[i]?=some x,λi H=>∃xs,SqT K H a xs/\xs.length<=i⟩
noncomputable def Itr(lo:Int)(n:Nat):It:=⟨λi _=>i<n,λi H x a=>a=H/\x= .int (lo+i),λi _=>n<=i⟩
theorem qc{P:Program}{w:MY}{K:Frag}{tg:Expr}(a it:Addr):Turn P w K tg (Itl K a) [it] it (λi h=>h.IsListIter it a i) where
 mem:=by simp
 obj:=λi h st b g=>by
  have e:b=it:=by simpa using g
  subst e
  obtain⟨o,e,c,d⟩:=st
  exact⟨o,e,λv z=>by rw[d]at z;cases z⟩
 keep:=λi h h' st k=>st.at λo e=>k it (by simp) o e
 item:=by
  intro X n q r G i f s J H E I l st t
  subst n q r
  obtain⟨xs,x,m,y⟩:=t
  obtain⟨its,A,p,L⟩:=I.list m
  obtain⟨u,M,N⟩:=A.get y
  obtain⟨B,f1,f2,C,D,F⟩:=l it (by simp)
  refine wpAny_pyNext_list_item st p.isList (x:=u) (by simpa using M) λh' j O=>?_
  have Q:Inv X f J H {s with heap:=h'}:=I.turned (t':=s.toks) (λb o g e=>(O.2 b g).trans e) B f1 C D F
  obtain⟨o,e,c,d⟩:=id j
  exact⟨u,rfl,rL (s:={s with heap:=h'}) e c d (by decide) ⟨x,H,Q,N,⟨rfl,λys R=>by rw[I.list_inj R m];exact y⟩,j,λb g=>(l b g).1⟩⟩
 done:=by
  intro X n q r G i f s J H E I l st t
  subst n q r
  obtain⟨xs,m,y⟩:=t
  obtain⟨its,A,p,L⟩:=I.list m
  obtain⟨B,f1,f2,C,D,F⟩:=l it (by simp)
  have T:=A.length
  exact wpAny_pyNext_list_end (I.ok.hd G) st p.isList (by simp;omega) λh' S=>⟨rfl,I.turned (t':=s.toks) (λb o g e=>S b o g e) B f1 C D F⟩
 self:=λ_ _ _ _ _ st h=>wpAny_pyIter_listiter st h
theorem v6{P:Program}{w:MY}{K:Frag}{tg:Expr}(a it:Addr):Turn P w K tg (Itt K a) [it] it (λi h=>h.IsTupleIter it a i) where
 mem:=by simp
 obj:=λi h st b g=>by
  have e:b=it:=by simpa using g
  subst e
  obtain⟨o,e,c,d⟩:=st
  exact⟨o,e,λv z=>by rw[d]at z;cases z⟩
 keep:=λi h h' st k=>st.at λo e=>k it (by simp) o e
 item:=by
  intro X n q r G i f s J H E I l st t
  subst n q r
  obtain⟨xs,x,m,y⟩:=t
  obtain⟨its,A,p,L⟩:=I.tuple m
  obtain⟨u,M,N⟩:=A.get y
  obtain⟨B,f1,f2,C,D,F⟩:=l it (by simp)
  refine wpAny_pyNext_tuple_item st (show s.heap.IsTuple a its.toArray from p) (x:=u) (by simpa using M) λh' j O=>?_
  have Q:Inv X f J H {s with heap:=h'}:=I.turned (t':=s.toks) (λb o g e=>(O.2 b g).trans e) B f1 C D F
  obtain⟨o,e,c,d⟩:=id j
  exact⟨u,rfl,rL (s:={s with heap:=h'}) e c d (by decide) ⟨x,H,Q,N,⟨rfl,λys R=>by rw[I.tuple_inj R m];exact y⟩,j,λb g=>(l b g).1⟩⟩
 done:=by
  intro X n q r G i f s J H E I l st t
  subst n q r
  obtain⟨xs,m,y⟩:=t
  obtain⟨its,A,p,L⟩:=I.tuple m
  obtain⟨B,f1,f2,C,D,F⟩:=l it (by simp)
  have T:=A.length
  exact wpAny_pyNext_tuple_end (I.ok.hd G) st (show s.heap.IsTuple a its.toArray from p) (by simp;omega) λh' S=>⟨rfl,I.turned (t':=s.toks) (λb o g e=>S b o g e) B f1 C D F⟩
 self:=λ_ _ _ _ _ st h=>wpAny_pyIter_tupleiter st h
theorem v7{P:Program}{w:MY}{K:Frag}{tg:Expr}(it:Addr)(lo:Int)(n:Nat):Turn P w K tg (Itr lo n) [it] it (λi h=>TD h it (lo+(i:Nat)*1) ((n:Int)-(i:Nat)) 1) where
 mem:=by simp
 obj:=λi h st b c=>by
  have e:b=it:=by simpa using c
  subst e
  exact⟨_,st,λv z=>by
   have B:Data.fields _=Data.cell v:=z
   cases B⟩
 keep:=λi h h' st k=>k it (by simp) _ st
 item:=by
  intro X g j l m i a s y H E I f st p
  subst g j l
  obtain⟨q,f1,f2,r,u,x⟩:=f it (by simp)
  have W:=Walks.range (prog:=X.prog) (w:=X.w) (I.ok.hd m) it lo 1 n
  refine W.item i s _ _ p st λv h' A C d D=>?_
  obtain⟨t,rfl⟩:=C
  have F:Inv X a y H {s with heap:=h',toks:=A}:=I.turned (λb o c e=>D b o (by simpa using c) e) q f1 r u x
  refine⟨_,rfl,rL (s:={s with heap:=h',toks:=A}) (n:="range_iterator") d rfl rfl (by decide) ⟨.int (lo+i),H,F,⟨t,?_⟩,⟨rfl,rfl⟩,d,λb c=>(f b c).1⟩⟩
  rw[Int.mul_one]
 done:=by
  intro X g j l m i a s y H E I f st p
  subst g j l
  obtain⟨q,f1,f2,r,u,x⟩:=f it (by simp)
  exact VD (I.ok.hd m) st (by have:n<=i:=p;omega) λh' G=>⟨rfl,I.turned (t':=s.toks) (λb o c e=>G b o c e) q f1 r u x⟩
 self:=λ_ _ _ _ _ st h=>RU st h
section
variable{X:Cx}{tg:Expr}
noncomputable def L6(K:Frag)(c:TE):TI:=λd H R=>c d H λx b=>∃a,x= .ref a/\(∃xs,SqL K b a xs)/\R (Itl K a) b
theorem FO{l:Expr}{g:TE}(i:PE X l g):PI X tg l (L6 X.K g):=by
 intro c s j H R I h
 refine thn (i c s j H _ I h) λv d ⟨x,k,f,r1,q1⟩=>?_
 obtain⟨a,e,⟨xs,m⟩,q⟩:=q1
 subst e
 cases r1
 obtain⟨its,r,p,t⟩:=f.list m
 refine Rv p.isList ?_
 refine⟨d.heap.objs.size,[d.heap.objs.size],_,_,k,rfl,f.kept (t':=d.toks) λb o e=>Mi _ e,qc a _,⟨_,MB _ rfl,rfl,rfl⟩,λb n=>?_,q⟩
 have e:b=d.heap.objs.size:=by simpa using n
 subst e
 exact f.fpOk (Mw _) (f.hok.fresh (Mw _))
theorem sP{c:List (Addr×Obj)}{d:St}{H:Hp}{s:Ml}{R:It->Hp->Prop}{E:Mh->Ml->Prop}{lo a:Int}{t u v:Tok}{f:Nat}(I:Inv X c d H s)(h:-(2^62)<=lo)(i:lo<2^62)(j:-(2^62)<=a)(k:a<2^62)
  (q:R (Itr lo (a-lo).toNat) H):Mz (ML X.prog X.w) X.A (Sb (.ref s.heap.objs.size)) (PIE X c d tg R) E {s with heap:=s.heap.push {cls:= .type "range",data:= .fields #[.int lo t,.int a u,.int 1 v]},toks:=f}:=by
 refine wpAny_pyIter_range (IsRange.new ..) (small_one h i j k) ?_
 have g:Inv X c d H {s with heap:=s.heap.push {cls:= .type "range",data:= .fields #[.int lo t,.int a u,.int 1 v]},toks:=f}:=I.kept λb o e=>Mi _ e
 refine⟨(s.heap.push {cls:= .type "range",data:= .fields #[.int lo t,.int a u,.int 1 v]}).objs.size,[(s.heap.push {cls:= .type "range",data:= .fields #[.int lo t,.int a u,.int 1 v]}).objs.size],_,_,H,rfl,
  g.kept (t':=f) λb o e=>Mi _ e,v7 _ lo (a-lo).toNat,?_,λb l=>?_,q⟩
 ·have m:lo+((0:Nat):Int)*1=lo:=by simp
  have n:(((a-lo).toNat:Nat):Int)-((0:Nat):Int)=Sj lo a 1:=by rw[rangeSize_one];split<;>omega
  show TD _ _ (lo+((0:Nat):Int)*1) ((((a-lo).toNat:Nat):Int)-((0:Nat):Int)) 1
  rw[m,n]
  exact MB _ rfl
 ·have e:b=(s.heap.push {cls:= .type "range",data:= .fields #[.int lo t,.int a u,.int 1 v]}).objs.size:=by simpa using l
  subst e
  exact g.fpOk (Mw _) (g.hok.fresh (Mw _))
noncomputable def L0(a:TA):TI:=λb H R=>a b H λvs c=>∃j:Int,vs=[.int j]/\-(2^62)<=j/\j<2^62/\R (Itr 0 j.toNat) c
noncomputable def LZ(a:TA):TI:=λb H R=>a b H λvs c=>∃i j:Int,vs=[.int i,.int j]/\(-(2^62)<=i/\i<2^62/\-(2^62)<=j/\j<2^62)/\R (Itr i (j-i).toNat) c
theorem yq{a:Expr}{c:TA}{p pos:Pos}(d:Gl X "range")(hm:X.mg "range"=none)(ha:PA X [a] c)(hs:Mx [a] X.env=[(false,eval a X.env)]:=by rfl):PI X tg (.Call (.Name "range" p) [a] [] pos) (L0 c):=by
 intro b s f H R I h
 refine Call_ (eV I d hm boot_range (NK (thn (ha pos b s f H _ I h) λus k ⟨vs,l,g,r1,q1⟩=>?_) hs rfl))
 obtain⟨j,e,q1,q2,q⟩:=q1
 subst e
 cases r1 with
 |cons r i=>
  cases i
  obtain⟨t,rfl⟩:=r
  exact call_range_1 (sP g (by omega) (by omega) q1 q2 (by simpa using q))
theorem yp{a b:Expr}{g:TA}{p pos:Pos}(k:Gl X "range")(hm:X.mg "range"=none)(ha:PA X [a,b] g)(hs:Mx [a,b] X.env=[(false,eval a X.env),(false,eval b X.env)]:=by rfl)(c:Mx [b] X.env=[(false,eval b X.env)]:=by rfl):
  PI X tg (.Call (.Name "range" p) [a,b] [] pos) (LZ g):=by
 intro d s l H R I h
 refine Call_ (eV I k hm boot_range (NK (thn (ha pos d s l H _ I h) λus o ⟨vs,u,m,r1,q1⟩=>?_) (by rw[hs,c]) (by rw[c];rfl)))
 obtain⟨i,j,e,⟨q1,q2,q3,q4⟩,q⟩:=q1
 subst e
 cases r1 with
 |cons r f=>
  cases f with
  |cons n f=>
   cases f
   obtain⟨t,rfl⟩:=r
   obtain⟨t',rfl⟩:=n
   exact call_range_2 (sP m q1 q2 q3 q4 q)
noncomputable def HU(f:TI)(g:TG)(h:TS):TS:=λD a H=>f a H λJ j=>∃W:Nat->Nat->St->Hp->Prop,(∃m,W 0 m a j)/\∀i m a H,W i m a H->
 (J.stop i H/\D.nx a H)\/(J.go i H/\∃N:St->Hp->Prop,(∀b c,N b c->∃e,e<m/\W (i+1) e b c)/\∀x c,J.yld i H x c->g x a c λd k=>h {D with nx:=N,ct:=N,bk:=D.nx} d k)
noncomputable def kR(a:List Addr)(h:Heap):List (Addr×Obj):=a.filterMap λb=>(h.get? b).map λo=>(b,o)
theorem g9{a:List Addr}{h:Heap}{b:Addr}{o:Obj}(c:b∈a)(e:h.get? b=some o):(b,o)∈kR a h:=QE.mpr ⟨b,c,by rw[e];rfl⟩
theorem yA{a:List Addr}{h:Heap}{p:Addr×Obj}(c:p∈kR a h):p.1∈a/\h.get? p.1=some p.2:=by
 obtain⟨b,d,e⟩:=QE.mp c
 cases q:h.get? b with
 |none=>rw[q]at e;cases e
 |some o=>
  rw[q]at e
  have f:(b,o)=p:=MQ e
  subst f
  exact⟨d,q⟩
theorem Inv.pinned{a:List (Addr×Obj)}{f:St}{H:Hp}{s:Ml}{c:List Addr}(I:Inv X a f H s)(i:∀b∈c,eL X a H b)(j:∀b∈c,∃o,s.heap.get? b=some o/\∀v,o.data≠ .cell v):Inv X (a++kR c s.heap) f H s:=
 I.pins_of λp k=>(NL.mp k).elim (λz=>I.pin p (M4 _ z)) λz=>by
  obtain⟨g,e⟩:=yA z
  obtain⟨l,f1,f2,_⟩:=i p.1 g
  obtain⟨o,h,d⟩:=j p.1 g
  rw[e]at h;cases h
  exact⟨e,l,f1,f2,d⟩
theorem Inv.unpinned{a pl:List (Addr×Obj)}{b:St}{H:Hp}{s:Ml}(I:Inv X (a++pl) b H s):Inv X a b H s:=I.pins_of λp c=>I.pin p (M4 _ (OE _ c))
theorem bS{j:Expr}{body:List Stmt}{Y:TI}{g:TG}{Z:TS}{pos:Pos}(E:PassesOwn (ML X.prog X.w) X.A X.env X.xe)(hc:X.calm=true)(hi:PI X tg j Y)(hg:PG X tg g)(k:PSs X body Z)
  (hs:∀x,Nj j X.env x=pure x:=by intro _;rfl):PS X (.For tg j body [] pos) (HU Y g Z):=by
 intro a s σ H D I h
 refine wpAny_For (thn (hi a s σ H _ I h) λv s1 h1=>thn h1 λitv s2 h2=>?_) hs
 obtain⟨it,F,tn,J,H2,e,I2,T,P,f2,W,⟨m0,w0⟩,G⟩:=h2
 subst e
 --what stays true of the iterator's objects through the loop
 have l:∀{z:Hp},(∀b∈F,z b=none)->∀b∈F,eL X a z b:=λhn b k=>⟨hn b k,(f2 b k).2⟩
 refine codeAny_forLoop_any (λn s'=>∃i p z,Inv X a p z s'/\tn i s'.heap/\(∀b∈F,z b=none)/\W i n p z) ?_ m0 ⟨0,σ,H2,I2,P,λb k=>(f2 b k).1,w0⟩
 rintro n s3 ⟨i,q,O,I3,K,L,w3⟩
 rcases G i n q O w3 with⟨stop,qn⟩|⟨go,N,hN,step⟩
 ·refine QT E (thn (T.done X rfl rfl rfl hc i a s3 q O X.xe I3 (l L) K stop) λr s4 ⟨Q,I4⟩=>?_)
  subst Q
  exact T3 ⟨q,O,I4,qn⟩
 ·refine QT E (thn (T.item X rfl rfl rfl hc i a s3 q O X.xe I3 (l L) K go) λr s4 ⟨u,Q,h4⟩=>?_)
  subst Q
  refine QT E (thn h4 λ_ s5 ⟨x,H5,I5,r5,y5,C,R⟩=>?_)
  have S:=I5.pinned (l R) (T.obj _ _ C)
  refine QT E (thn (hg _ s5 q H5 x u _ S r5 (step x H5 y5)) λ_ s6 ⟨U,H6,I6,q6⟩=>?_)
  refine QT E (thn (k _ s6 U H6 _ I6 q6) λf V B=>?_)
  have TR:∀{c:St} {t:Hp},Inv X (a++kR F s5.heap) c t V->N c t->∃m,m<n/\∃i p z,Inv X a p z V/\tn i V.heap/\(∀b∈F,z b=none)/\W i m p z:=λ{c t} y M=>by
   obtain⟨m',hm,w7⟩:=hN c t M
   refine⟨m',hm,i+1,c,t,y.unpinned,T.keep _ _ _ C λb k o e=>(y.pin (b,o) (M4 _ (M4 _ (g9 k e)))).1,λb k=>?_,w7⟩
   obtain⟨o,e,d⟩:=T.obj _ _ C b k
   exact(y.pin (b,o) (M4 _ (M4 _ (g9 k e)))).2.1
  cases f with
  |next=>obtain⟨c,t,y,M⟩:=B;exact TR y M
  |cont=>obtain⟨c,t,y,M⟩:=B;exact TR y M
  |brk=>obtain⟨c,t,y,B⟩:=B;exact⟨c,t,y.unpinned,B⟩
  |ret v=>obtain⟨x7,c,t,y,r7,B⟩:=B;exact⟨x7,c,t,y.unpinned,r7,B⟩
end
noncomputable abbrev R2:=V->V->Hp->VK->Prop
noncomputable def OpR(X:Cx)(f:Mh->Mh->Sem Mh)(r:R2):Prop:=
 ∀(a:List (Addr×Obj)) (s:Ml) (b:St) (H:Hp) (x y:V) (v u:Mh) (Q:VK),Inv X a b H s->aC x v->aC y u->r x y H Q->
  Mz (ML X.prog X.w) X.A (f v u) (EP X a b Q) X.xe s
noncomputable def UnR(X:Cx)(f:Mh->Sem Mh)(r:V->Hp->VK->Prop):Prop:=
 ∀(a:List (Addr×Obj)) (s:Ml) (b:St) (H:Hp) (x:V) (v:Mh) (Q:VK),Inv X a b H s->aC x v->r x H Q->
  Mz (ML X.prog X.w) X.A (f v) (EP X a b Q) X.xe s
noncomputable def cz(X:Cx)(f:Mh)(r:List V->Hp->VK->Prop):Prop:=
 ∀(a:List (Addr×Obj)) (s:Ml) (b:St) (H:Hp) (xs:List V) (us:List Mh) (Q:VK),Inv X a b H s->ak xs us->r xs H Q->
  Mz (ML X.prog X.w) X.A (call f us) (EP X a b Q) X.xe s
noncomputable def TruR(X:Cx)(r:V->Hp->(Bool->Hp->Prop)->Prop):Prop:=
 ∀(a:List (Addr×Obj)) (s:Ml) (b:St) (H:Hp) (x:V) (v:Mh) (Q:Bool->Hp->Prop),Inv X a b H s->aC x v->r x H Q->
  Mz (ML X.prog X.w) X.A (truthy v) (TP X a b Q) X.xe s
noncomputable def tOp(r:R2)(b c:TE):TE:=λa H Q=>b a H λx d=>c a d λy e=>r x y e Q
noncomputable def tUn(r:V->Hp->VK->Prop)(a:TE):TE:=λb H Q=>a b H λx c=>r x c Q
noncomputable def rI(C:Int->Int->Prop)(g:Int->Int->V):R2:=λx y H Q=>∃i j,x= .int i/\y= .int j/\C i j/\Q (g i j) H
noncomputable def rI0(g:Int->Int->V):R2:=λx y H Q=>∃i j,x= .int i/\y= .int j/\Q (g i j) H
noncomputable def rU(g:Int->V):V->Hp->VK->Prop:=λx H Q=>∃i,x= .int i/\Q (g i) H
section
variable{X:Cx}{a b c:Expr}{ta tb tc:TE}{pos:Pos}
theorem CG(ha:PE X a ta)(m:PE X b tb){d:List (Addr×Obj)}{s:Ml}{e:St}{H:Hp}{R:V->V->Hp->Prop}(I:Inv X d e H s)
  (h:ta e H λx l=>tb e l λy g=>R x y g) {Q:Mh->Ml->Prop} {f:Mh->Mh->Sem Mh}
  (n:∀v u k x y g,Inv X d e g k->aC x v->aC y u->R x y g->Mz (ML X.prog X.w) X.A (f v u) Q X.xe k):
  Mz (ML X.prog X.w) X.A (eval a X.env) (λv i=>Mz (ML X.prog X.w) X.A (eval b X.env) (λu j=>Mz (ML X.prog X.w) X.A (f v u) Q X.xe j) X.xe i) X.xe s:=by
 refine thn (ha d s e H _ I h) λv o ⟨x,l,p,r1,q1⟩=>?_
 refine thn (m d o e l _ p q1) λu k ⟨y,g,q,r,q2⟩=>?_
 exact n v u k x y g q r1 r q2
theorem cZ{op:Operator}{r:R2}(e:OpR X (OC op) r)(ha:PE X a ta)(f:PE X b tb):PE X (.BinOp a op b pos) (tOp r ta tb):=by
 intro d s g H Q I h
 exact wpAny_BinOp (CG ha f I h λv u i x y j k l m q=>e d i g j x y v u Q k l m q)
theorem LA{op:UnaryOp}{r:V->Hp->VK->Prop}(f:UnR X (unaryOp op) r)(ha:PE X a ta):PE X (.UnaryOp op a pos) (tUn r ta):=by
 intro d s e H Q I h
 exact UnaryOp_ (thn (ha d s e H _ I h) λv g ⟨x,i,j,r1,q1⟩=>f d g e i x v Q j r1 q1)
theorem opI{f:Mh->Mh->Sem Mh}{C:Int->Int->Prop}{g:Int->Int->Int}
  (d:∀(i j:Int) (t u:Tok) (s:Ml) (Q:Mh->Ml->Prop) (E:Mh->Ml->Prop),C i j->Q (.int (g i j) s.toks) {s with toks:=s.toks+1}->Mz (ML X.prog X.w) X.A (f (.int i t) (.int j u)) Q E s):
  OpR X f (rI C λi j=> .int (g i j)):=by
 intro e s n H x y v u Q I k l h
 obtain⟨i,j,rfl,rfl,m,q⟩:=h
 obtain⟨t,rfl⟩:=k
 obtain⟨t',rfl⟩:=l
 exact d i j t t' s _ _ m ⟨.int (g i j),H,I.tok _,⟨_,rfl⟩,q⟩
theorem IS{f:Mh->Mh->Sem Mh}{g:Int->Int->Int}
  (d:∀(i j:Int) (t u:Tok) (s:Ml) (Q:Mh->Ml->Prop) (E:Mh->Ml->Prop),Q (.int (g i j) s.toks) {s with toks:=s.toks+1}->Mz (ML X.prog X.w) X.A (f (.int i t) (.int j u)) Q E s):
  OpR X f (rI0 λi j=> .int (g i j)):=by
 intro e s m H x y v u Q I k l h
 obtain⟨i,j,rfl,rfl,q⟩:=h
 obtain⟨t,rfl⟩:=k
 obtain⟨t',rfl⟩:=l
 exact d i j t t' s _ _ ⟨.int (g i j),H,I.tok _,⟨_,rfl⟩,q⟩
theorem wB{f:Mh->Mh->Sem Mh}{g:Int->Int->Bool}
  (d:∀(i j:Int) (t u:Tok) (s:Ml) (Q:Mh->Ml->Prop) (E:Mh->Ml->Prop),Q (.bool (g i j)) s->Mz (ML X.prog X.w) X.A (f (.int i t) (.int j u)) Q E s):
  OpR X f (rI0 λi j=> .bl (g i j)):=by
 intro e s m H x y v u Q I k l h
 obtain⟨i,j,rfl,rfl,q⟩:=h
 obtain⟨t,rfl⟩:=k
 obtain⟨t',rfl⟩:=l
 exact d i j t t' s _ _ ⟨.bl (g i j),H,I,rfl,q⟩
noncomputable def CDiv(i j:Int):Prop:=0<j/\j<1073741824
noncomputable def CPow(i j:Int):Prop:=0<=j/\j<=1000000/\i.natAbs<2^64
noncomputable def CN(i j:Int):Prop:=(-(2^64)<i/\i<2^64)\/(-(2^64)<j/\j<2^64)
theorem CN.ok{i j:Int}(h:CN i j):IntMulOk i j:=by
 rcases h with⟨d,e⟩|⟨d,e⟩
 ·exact .of_left (intBits_le_64 d e)
 ·exact .of_right (intBits_le_64 d e)
theorem n6:OpR X (OC .Add) (rI0 λi j=> .int (i+j)):=IS λ_ _ _ _ _ _ _ q=>add_int q
theorem jt:OpR X (OC .Sub) (rI0 λi j=> .int (i-j)):=IS λ_ _ _ _ _ _ _ q=>sub_int q
theorem IO:OpR X (OC .Mult) (rI CN λi j=> .int (i*j)):=opI λ_ _ _ _ _ _ _ d q=>mul_int q d.ok
theorem u9:OpR X (OC .FloorDiv) (rI CDiv λi j=> .int (i/j)):=opI λi j _ _ _ _ _ d q=>by
 have e:(0:Int)<j:=d.1
 have f:j<1073741824:=d.2
 exact floordiv_int (by omega) (by rw[QK i (by omega)];exact q) (.inl (PyProof.noPylong_small (by omega)))
theorem kT:OpR X (OC .Mod) (rI (λ_ j=>0<j) λi j=> .int (i % j)):=opI λi j _ _ _ _ _ d q=>by
 have e:(0:Int)<j:=d
 exact mod_int' (by omega) (by rw[Int.fmod_eq_emod_of_nonneg i (by omega)];exact q)
theorem IM:OpR X (OC .Pow) (rI CPow λi j=> .int (i^j.toNat)):=opI λ_ _ _ _ _ _ _ d q=>pow_int_small d.1 d.2.1 d.2.2 q
theorem unI{f:Mh->Sem Mh}{g:Int->Int}
  (d:∀(i:Int) (t:Tok) (s:Ml) (Q:Mh->Ml->Prop) (E:Mh->Ml->Prop),Q (.int (g i) s.toks) {s with toks:=s.toks+1}->Mz (ML X.prog X.w) X.A (f (.int i t)) Q E s):
  UnR X f (rU λi=> .int (g i)):=by
 intro e s k H x v Q I j h
 obtain⟨i,rfl,q⟩:=h
 obtain⟨t,rfl⟩:=j
 exact d i t s _ _ ⟨.int (g i),H,I.tok _,⟨_,rfl⟩,q⟩
theorem xG:UnR X (unaryOp .USub) (rU λi=> .int (-i)):=unI λ_ _ _ _ _ q=>neg_int q
end
noncomputable def z5:V->V->Bool
 | .non,.non=>true| .non,.int _=>true| .int _,.non=>true| .non,.bl _=>true| .bl _,.non=>true| .non,.str _=>true| .str _,.non=>true
 | .int _,.int _=>true| .bl _,.bl _=>true| .str _,.str _=>true| .byt _,.byt _=>true
 | .int _,.str _=>true| .str _,.int _=>true| .bl _,.str _=>true| .str _,.bl _=>true
 |_,_=>false
noncomputable def rEq:R2:=λx y H Q=>z5 x y=true/\Q (.bl (decide (x=y))) H
noncomputable def rNe:R2:=λx y H Q=>z5 x y=true/\Q (.bl (!decide (x=y))) H
theorem vG{i j:Int}:decide (V.int i=V.int j)=(i==j):=by
 rw[Qm]
 simp
theorem dec_bl{i j:Bool}:decide (V.bl i=V.bl j)=(i==j):=by
 rw[Qm]
 simp
theorem vF{i j:Str}:decide (V.str i=V.str j)=(i==j):=by
 rw[Qm]
 simp
theorem vH{i j:Array UInt8}:decide (V.byt i=V.byt j)=(i.toList==j.toList):=by
 rw[Qm]
 cases i
 cases j
 simp
section
variable{X:Cx}{a b c:Expr}{ta tb tc:TE}{pos:Pos}
theorem fin_bl{d:List (Addr×Obj)}{f:St}{H:Hp}{s:Ml}{Q:VK}{k g:Bool}(I:Inv X d f H s)(q:Q (.bl k) H)(e:k=g):EP X d f Q (.bool g) s:=by
 subst e
 exact⟨.bl k,H,I,rfl,q⟩
theorem LE:OpR X (Nw .Eq) rEq:=by
 intro f s g H x y v u Q I e d h
 obtain⟨hs,q⟩:=h
 cases x with
 |non=>
  cases e
  cases y with
  |non=>cases d;exact PySem.EqNone.eq_none_none (fin_bl I q (by simp))
  |bl j=>cases d;exact PySem.EqNone.eq_none_bool (fin_bl I q (by simp))
  |int j=>obtain⟨t',rfl⟩:=d;exact PySem.EqNone.eq_none_int (fin_bl I q (by simp))
  |str j=>obtain⟨t',rfl⟩:=d;exact PySem.EqNone.eq_none_str (fin_bl I q (by simp))
  |_=>exact MM (show false=true from hs) Ms
 |bl i=>
  cases e
  cases y with
  |non=>cases d;exact PySem.EqNone.eq_bool_none (fin_bl I q (by simp))
  |bl j=>cases d;exact eq_bool (fin_bl I q dec_bl)
  |str j=>obtain⟨t',rfl⟩:=d;exact PySem.EqMixed.eq_bool_str (fin_bl I q (by simp))
  |_=>exact MM (show false=true from hs) Ms
 |int i=>
  obtain⟨t,rfl⟩:=e
  cases y with
  |non=>cases d;exact PySem.EqNone.eq_int_none (fin_bl I q (by simp))
  |int j=>obtain⟨t',rfl⟩:=d;exact eq_int (fin_bl I q vG)
  |str j=>obtain⟨t',rfl⟩:=d;exact PySem.EqMixed.eq_int_str (fin_bl I q (by simp))
  |_=>exact MM (show false=true from hs) Ms
 |str i=>
  obtain⟨t,rfl⟩:=e
  cases y with
  |non=>cases d;exact PySem.EqNone.eq_str_none (fin_bl I q (by simp))
  |bl j=>cases d;exact PySem.EqMixed.eq_str_bool (fin_bl I q (by simp))
  |int j=>obtain⟨t',rfl⟩:=d;exact PySem.EqMixed.eq_str_int (fin_bl I q (by simp))
  |str j=>obtain⟨t',rfl⟩:=d;exact eq_str (fin_bl I q vF)
  |_=>exact MM (show false=true from hs) Ms
 |byt i=>
  obtain⟨t,rfl⟩:=e
  cases y with
  |byt j=>obtain⟨t',rfl⟩:=d;exact PySem.W.eq_bytes (fin_bl I q vH)
  |_=>exact MM (show false=true from hs) Ms
 |_=>cases y<;>exact MM (show false=true from hs) Ms
theorem LC:OpR X (Nw .NotEq) rNe:=by
 intro f s g H x y v u Q I e d h
 obtain⟨hs,q⟩:=h
 cases x with
 |non=>
  cases e
  cases y with
  |non=>cases d;exact PySem.EqNone.ne_none_none (fin_bl I q (by simp))
  |bl j=>cases d;exact PySem.EqNone.ne_none_bool (fin_bl I q (by simp))
  |int j=>obtain⟨t',rfl⟩:=d;exact PySem.EqNone.ne_none_int (fin_bl I q (by simp))
  |str j=>obtain⟨t',rfl⟩:=d;exact PySem.EqNone.ne_none_str (fin_bl I q (by simp))
  |_=>exact MM (show false=true from hs) Ms
 |bl i=>
  cases e
  cases y with
  |non=>cases d;exact PySem.EqNone.ne_bool_none (fin_bl I q (by simp))
  |bl j=>cases d;exact ne_bool (fin_bl I q (Nq not dec_bl))
  |str j=>obtain⟨t',rfl⟩:=d;exact PySem.EqMixed.ne_bool_str (fin_bl I q (by simp))
  |_=>exact MM (show false=true from hs) Ms
 |int i=>
  obtain⟨t,rfl⟩:=e
  cases y with
  |non=>cases d;exact PySem.EqNone.ne_int_none (fin_bl I q (by simp))
  |int j=>obtain⟨t',rfl⟩:=d;exact ne_int (fin_bl I q (Nq not vG))
  |str j=>obtain⟨t',rfl⟩:=d;exact PySem.EqMixed.ne_int_str (fin_bl I q (by simp))
  |_=>exact MM (show false=true from hs) Ms
 |str i=>
  obtain⟨t,rfl⟩:=e
  cases y with
  |non=>cases d;exact PySem.EqNone.ne_str_none (fin_bl I q (by simp))
  |bl j=>cases d;exact PySem.EqMixed.ne_str_bool (fin_bl I q (by simp))
  |int j=>obtain⟨t',rfl⟩:=d;exact PySem.EqMixed.ne_str_int (fin_bl I q (by simp))
  |str j=>obtain⟨t',rfl⟩:=d;exact ne_str (fin_bl I q (Nq not vF))
  |_=>exact MM (show false=true from hs) Ms
 |byt i=>
  obtain⟨t,rfl⟩:=e
  cases y with
  |byt j=>obtain⟨t',rfl⟩:=d;exact PySem.W.ne_bytes (fin_bl I q (Nq not vH))
  |_=>exact MM (show false=true from hs) Ms
 |_=>cases y<;>exact MM (show false=true from hs) Ms
theorem rE:OpR X (Nw .Lt) (rI0 λi j=> .bl (decide (i<j))):=wB λ_ _ _ _ _ _ _ q=>lt_int q
theorem jW:OpR X (Nw .LtE) (rI0 λi j=> .bl (decide (i<=j))):=wB λ_ _ _ _ _ _ _ q=>le_int q
theorem wA:OpR X (Nw .Gt) (rI0 λi j=> .bl (decide (j<i))):=wB λ_ _ _ _ _ _ _ q=>gt_int q
theorem LD:OpR X (Nw .GtE) (rI0 λi j=> .bl (decide (j<=i))):=wB λ_ _ _ _ _ _ _ q=>ge_int q
theorem sU:OpR X (Nw .Is) (λx y H Q=>y= .non/\Q (.bl (decide (x= .non))) H):=by
 intro d s g H x y v u Q I e f h
 obtain⟨rfl,q⟩:=h
 cases f
 refine is_none_gen (fin_bl I q ?_)
 cases x<;>first
  |(cases e;rfl)
  |(obtain⟨t,rfl⟩:=e;rfl)
theorem OpR.or{f:Mh->Mh->Sem Mh}{r e:R2}(h:OpR X f r)(h':OpR X f e):OpR X f (λx y H Q=>r x y H Q\/e x y H Q):=by
 intro d s g H x y v u Q I i j q
 rcases q with q|q
 ·exact h d s g H x y v u Q I i j q
 ·exact h' d s g H x y v u Q I i j q
theorem s0(b:Expr){op:Ub}(h:op≠ .In:=by decide)(d:op≠ .NotIn:=by decide):Qy op b=false:=by
 have e:(op==CmpOp.In)=false:=by cases op<;>first|rfl|exact MM rfl h
 have f:(op==CmpOp.NotIn)=false:=by cases op<;>first|rfl|exact MM rfl d
 cases b<;>simp[Qy,e,f]
theorem FV{op:Ub}{r:R2}(e:OpR X (Nw op) r)(ha:PE X a ta)(f:PE X b tb)(hm:Qy op b=false):PE X (.Compare a [op] [b] pos) (tOp r ta tb):=by
 intro d s g H Q I h
 exact wpAny_Compare1 (CG ha f I h λv u i x y j k l m q=>e d i g j x y v u Q k l m q) hm
noncomputable def v9(t:TE):TT:=λd H Q=>t d H λx e=>∃k,x= .bl k/\Q k e
theorem uX{op:Ub}{r:R2}(g:OpR X (Nw op) r)(ha:PE X a ta)(i:PE X b tb)(hm:Qy op b=false):PT X (.Compare a [op] [b] pos) (v9 (tOp r ta tb)):=by
 intro d s f H Q I h
 refine wpAny_isTrue_Compare1 (thn (ha d s f H _ I h) λv j ⟨x,l,m,r1,q1⟩=>thn (i d j f l _ m q1) λu n ⟨y,o,p,q,q2⟩=>
  thn (g d n f o x y v u _ p r1 q q2) λc B ⟨z,t,w,A,k,e,q3⟩=>?_) hm
 subst e
 cases A
 exact NJ ⟨t,w,q3⟩
noncomputable def xQ(r f:R2)(ta tb tc:TE):TE:=λd H Q=>ta d H λx g=>tb d g λy h=>r x y h λz e=>∃k,z= .bl k/\
 (if k=true then tc d e λi j=>f y i j Q else Q (.bl false) e)
theorem AB{op g:Ub}{r l:R2}(p:OpR X (Nw op) r)(j:OpR X (Nw g) l)(ha:PE X a ta)(q:PE X b tb)(t:PE X c tc)
  (hm:Vp [op,g] [b,c]=false:=by with_unfolding_all rfl):PT X (.Compare a [op,g] [b,c] pos) (v9 (xQ r l ta tb tc)):=by
 intro f s i H Q I h
 refine isTrue_chain (thn (ha f s i H _ I h) λv w ⟨x,A,B,r1,q1⟩=>test_link (thn (q f w i A _ B q1) λu C ⟨y,D,E,m,q2⟩=>
  thn (p f C i D x y v u _ E r1 m q2) λd F ⟨z,n,o,G,k,e,q3⟩=>?_)) hm
 subst e
 cases G
 refine NJ ?_
 cases k with
 |false=>
  obtain⟨W,J,K⟩:=q3
  cases J
  exact ite_ff ⟨n,o,K⟩
 |true=>
  refine ite_tt (test_last (thn (t f F i n _ o q3) λL M ⟨N,O,P,R,q4⟩=>thn (j f M i O y N u L _ P m R q4) λd' Y ⟨Z,S,T,U,k2,V,q5⟩=>?_))
  subst V
  cases U
  exact NJ ⟨S,T,q5⟩
noncomputable def CJ(K:Frag)(x:V)(H:Hp)(k:Bool):Prop:=
 match x with
 | .non=>k=false
 | .bl b=>k=b
 | .int i=>k=(i !=0)
 | .str y=>y.length<=sizeLine/\k=((y.length:Int) !=0)
 | .byt y=>y.size<=sizeLine/\k=((y.size:Int) !=0)
 | .ref p=>(∃xs,SqL K H p xs/\k=!xs.isEmpty)\/(∃xs,SqT K H p xs/\k=!xs.isEmpty)\/∃kvs,H p=some (.dK kvs)/\k=!kvs.isEmpty
 |_=>False
theorem w5{κ:Type}{kvs:List (κ×V)}{vs:List (κ×Mh)}(r:KV kvs vs):(!vs.isEmpty)=!kvs.isEmpty:=by
 cases r<;>rfl
theorem oC{xs:List V}{its:List Mh}(r:ak xs its):(!its.toArray.isEmpty)=!xs.isEmpty:=by
 cases r<;>simp
theorem k8:(sizeLine:Nat)<2^63:=by rw[Of];decide
theorem HM:TruR X (λx H Q=>∃k,CJ X.K x H k/\Q k H):=by
 intro l s z H x v Q I g h
 obtain⟨k,e,q⟩:=h
 have A:=k8
 have hs:sizeLine=16777216:=Of
 cases x with
 |non=>
  cases g
  have d:k=false:=e
  subst d
  exact truthy_none ⟨H,I,q⟩
 |bl b=>
  cases g
  have d:k=b:=e
  subst d
  exact NJ ⟨H,I,q⟩
 |int i=>
  obtain⟨t,rfl⟩:=g
  have d:k=(i !=0):=e
  subst d
  exact PySem.P.truthy_int ⟨H,I,q⟩
 |str y=>
  obtain⟨t,rfl⟩:=g
  obtain⟨o,d⟩:y.length<=sizeLine/\k=((y.length:Int) !=0):=e
  subst d
  exact PySem.P.truthy_str (by omega) ⟨H,I.tok _,q⟩
 |byt y=>
  obtain⟨t,rfl⟩:=g
  obtain⟨o,d⟩:y.size<=sizeLine/\k=((y.size:Int) !=0):=e
  subst d
  exact PySem.W.truthy_bytes (by omega) ⟨H,I.tok _,q⟩
 |ref p=>
  cases g
  have d:(∃xs,SqL X.K H p xs/\k=!xs.isEmpty)\/(∃xs,SqT X.K H p xs/\k=!xs.isEmpty)\/∃kvs,H p=some (.dK kvs)/\k=!kvs.isEmpty:=e
  rcases d with⟨xs,j,d⟩|⟨xs,j,d⟩|⟨kvs,j,d⟩
  ·subst d
   obtain⟨its,r,pl,n⟩:=I.list j
   have f:=r.length
   exact wpAny_truthy_list pl.isList (by simp only[MG];omega) ⟨H,I.tok _,by rw[oC r];exact q⟩
  ·subst d
   obtain⟨its,r,pl,n⟩:=I.tuple j
   have f:=r.length
   exact truthy_tuple pl (by simp only[MG];omega) ⟨H,I.tok _,by rw[oC r];exact q⟩
  ·subst d
   obtain⟨n,u,vs,r,m⟩:kvs.length<=sizeLine/\(p==Qv)=false/\∃vs,KV kvs vs/\s.heap.DictOf (pB X.prog X.w) p vs:=I.hok p _ j
   have f:kvs.length=vs.length:=Paired.length r
   exact wpAny_truthy_dict u m (by omega) ⟨H,I.tok _,by rw[w5 r];exact q⟩
 |_=>exact(show False from e).elim
theorem AA(ha:PE X a ta)(i:∀d,isTrue a X.env d=(do let v ←d;Pc a.pos;PN [v] (truthy v))):
  PT X a (λf H Q=>ta f H λx g=>∃k,CJ X.K x g k/\Q k g):=by
 intro e s f H Q I h
 exact isTrue_plain (thn (ha e s f H _ I h) λv j ⟨x,l,m,r1,q1⟩=>HM e j f l x v Q m r1 q1) (i _)
theorem jL{x:V}{us:List Mh}(r:ak [x] us):∃u,us=[u]/\aC x u:=by
 cases r with
 |cons r1 d=>cases d;exact⟨_,rfl,r1⟩
theorem rm{x y:V}{us:List Mh}(r:ak [x,y] us):∃u d,us=[u,d]/\aC x u/\aC y d:=by
 cases r with
 |cons r1 e=>
  cases e with
  |cons f g=>cases g;exact⟨_,_,rfl,r1,f⟩
theorem CC:cz X (.builtin "abs") (λxs H Q=>∃i,xs=[.int i]/\Q (.int (if i<0 then -i else i)) H):=by
 intro d s e H xs us Q I r h
 obtain⟨i,rfl,q⟩:=h
 obtain⟨u,rfl,t,rfl⟩:=jL r
 exact call_abs_int λu f=>⟨.int (if i<0 then -i else i),H,I.tok _,⟨_,rfl⟩,q⟩
theorem zx(f:X.calm=true):cz X (.builtin "max") (λxs H Q=>∃i j,xs=[.int i,.int j]/\Q (.int (if j>i then j else i)) H):=by
 intro e s g H xs us Q I r h
 obtain⟨i,j,rfl,q⟩:=h
 obtain⟨u,l,rfl,⟨t,rfl⟩,⟨t',rfl⟩⟩:=rm r
 refine max_two_ints (I.ok.hd f) λh' m k=>⟨_,H,I.kept k,?_,q⟩
 by_cases d:j>i
 ·rw[Mu d,Mu d];exact⟨_,rfl⟩
 ·rw[Mr d,Mr d];exact⟨_,rfl⟩
theorem qN(f:X.calm=true):cz X (.builtin "min") (λxs H Q=>∃i j,xs=[.int i,.int j]/\Q (.int (if j<i then j else i)) H):=by
 intro e s g H xs us Q I r h
 obtain⟨i,j,rfl,q⟩:=h
 obtain⟨u,l,rfl,⟨t,rfl⟩,⟨t',rfl⟩⟩:=rm r
 refine min_two_ints (I.ok.hd f) λh' m k=>⟨_,H,I.kept k,?_,q⟩
 by_cases d:j<i
 ·rw[Mu d,Mu d];exact⟨_,rfl⟩
 ·rw[Mr d,Mr d];exact⟨_,rfl⟩
end
structure ObjM (h:Heap) (x dx C:Addr) (mA:Str->Option Mh):Prop where
 obj:h.get? x=some (Sv C dx)
 ns:h.Ns1 dx mA
 ne:dx≠x
theorem yO{h:Heap}{dx:Addr}{c:Str->Option Mh}(n:h.Ns1 dx c):∃d,h.get? dx=some d/\∀name,lookIn name d=some (c name):=by
 obtain⟨o,es,ep,f,hd,g,_,hm⟩:=n
 refine⟨o,f,λname=>?_⟩
 have e:=hm name
 unfold nsFind findBy at e
 rw[←Array.find?_toList]at e
 unfold lookIn
 rw[hd]
 dsimp only
 split
 ·rename_i y q
  rw[q]at e
  exact Nq some e
 ·rename_i q
  rw[q]at e
  have a:es.toList.any (·.refKey)=false:=by
   rw[Vt]
   intro y i
   obtain⟨z,t,b⟩:=g y (Array.mem_toList_iff.mp i)
   simp[DictEntry.refKey,b]
  have j:¬es.toList.any (·.refKey)=true:=by rw[a];exact Ms
  rw[Mr j]
  exact Nq some e
theorem ObjM.look{h:Heap}{x dx C:Addr}{b:Str->Option Mh}(I:ObjM h x dx C b):∃a,PySem.W.InstAt h x (Sv C dx) C (some a)/\∀name,lookIn name a=some (b name):=
 let ⟨a,ho,hl⟩:=yO I.ns
 ⟨a,⟨I.obj,rfl,rfl,ho⟩,hl⟩
section
variable{prog:Program}{w:MY}{A:M8}{E:Mh->Ml->Prop}{s:Ml}{K:Frag}{x dx C f:Addr}{mA:Str->Option Mh}{name:Str}{v:Mh}
theorem GY{a:Bool}{Q:Mh->Ml->Prop}(X:K.In s.heap)(I:ObjM s.heap x dx C mA)(c:plainGet K C name=true)(d:hasDictIn K C=true)
  (ha:Om K (.ref C) name=some none) (e:mA name=some v) (b:UT v=true) (h:Q v {s with toks:=s.toks+1}):
  Mz (ML prog w) A (getAttr (.ref x) name a) Q E s:=by
 obtain⟨i,J,g⟩:=I.look
 exact PySem.W.get_value X J (plainGet_of c).1 (PySem.W.findObj_own d ha rfl (by rw[g,e])) b h
theorem BS{pl:Sem Bool}{Q:Mh×List Mh->Ml->Prop}(X:K.In s.heap)(I:ObjM s.heap x dx C mA)(a:plainGet K C name=true)
  (b:Om K (.ref C) name=some (some (.ref f))) (c:isFn K (.ref f)=true) (d:mA name=none) (h:Q (.ref f,[.ref x]) s):
  Mz (ML prog w) A (Rb (.ref x) name pl) Q E s:=by
 obtain⟨e,J,g⟩:=I.look
 exact PySem.W.method_fn X J (plainGet_of a).1 (plainGet_of a).2 b (beq_iff_eq.mp c) (by show(lookIn name e).map (·.isSome)=some false;rw[g,d];rfl) h
theorem EY{ns:List Str}{Q:Unit->Ml->Prop}(X:K.In s.heap)(I:ObjM s.heap x dx C mA)
  (hs:Om K (.ref C) "__setattr__"=some (some (.builtin "object.__setattr__"))) (k:UH K C=true) (l:takerIn K C name=some none) (m:hasDictIn K C=true)
  (n:Qt mA ns) (o:ns.length<=sizeLine)
  (h:∀h',ObjM h' x dx C (λy=>if y=name then some v else mA y)->MT dx s.heap h'->Q () {s with heap:=h',toks:=s.toks+2}):
  Mz (ML prog w) A (setAttr (.ref x) name v) Q E s:=by
 obtain⟨z,J,B⟩:=I.look
 refine PySem.W.set_plain X J hs (PySem.W.osa_open (s:={s with toks:=s.toks+1}) (r:=none) X J k l λb=>?_)
 obtain⟨cd,p,e⟩:=PySem.W.any_some m
 have q:s.heap.get? x=some ⟨.ref C,some dx,.plain,#[]⟩:=I.obj
 refine on (Mg (on (on (Ux q (on (SY (s:={s with toks:=s.toks+1}) (looks_clsIn X p) ?_))))))
 rw[e]
 refine Mg (a:=some dx) (on (Mg (on ?_)))
 refine wpAny_nsSet1 (s:={s with toks:=s.toks+1}) I.ns λh' c d=>?_
 obtain⟨D,t,u,g,i,j⟩:=c.count (Tt name v n)
 refine on (wpAny_lookBehind g (by rw[i];exact pastItsLine_dict (MS j (by rw[MA];omega))) ?_)
 exact Mg (h _ ⟨(d.2 _ (Ne.symm I.ne)).trans I.obj,c,I.ne⟩ d)
theorem tH{R:Vy->Ml->Prop}{vs:List Mh}{a:List (Str×Mh)}(X:K.In s.heap)(hm:Vf K C=true)
  (b:Om K (.ref C) "__init__"=some (some (.ref f))) (c:PySem.W.typeIn K (.ref f)=some (.type "function"))
  (h:OX (ML prog w) (A.under (.builtin "type.__call__" ⟨.ref C::vs,a⟩)) (.call (.ref f) ⟨.ref (s.heap.objs.size+1)::vs,a⟩) (PySem.W.InitBack (s.heap.objs.size+1) R)
   {s with heap:=(s.heap.push emptyDict).push (Sv C s.heap.objs.size)}):
  OX (ML prog w) A (.call (.ref C) ⟨vs,a⟩) R s:=by
 obtain⟨e,g,d,t,os⟩:=s
 exact PySem.W.make_core (PySem.W.makes_of X hm) (S7 X b) (λself=>Vd X self c) (.inl rfl) h
end
noncomputable def cR(f:Str)(v:V):List (Str×V)->List (Str×V)
 |[]=>[(f,v)]
 |(g,x)::r=>if g=f then(g,v)::r else(g,x)::cR f v r
theorem mw(f g:Str)(v:V):∀fs:List (Str×V),(cR f v fs).lookup g=if g=f then some v else fs.lookup g
 |[]=>by
  show Qj g [(f,v)]=_
  by_cases h:g=f
  ·have a:(g==f)=true:=beq_iff_eq.mpr h
   simp only[Qj,a,Mu h]
  ·have a:(g==f)=false:=beq_eq_false_iff_ne.mpr h
   simp only[Qj,a,Mr h]
 |(k,x)::r=>by
  have ih:=mw f g v r
  rw[show cR f v ((k,x)::r)=(if k=f then(k,v)::r else(k,x)::cR f v r)from rfl]
  by_cases b:k=f
  ·rw[Mu b]
   by_cases h:g=k
   ·have a:(g==k)=true:=beq_iff_eq.mpr h
    simp only[Qj,a,Mu (h.trans b)]
   ·have a:(g==k)=false:=beq_eq_false_iff_ne.mpr h
    simp only[Qj,a,Mr (λe:g=f=>h (e.trans b.symm))]
  ·rw[Mr b]
   by_cases h:g=k
   ·have a:(g==k)=true:=beq_iff_eq.mpr h
    simp only[Qj,a,Mr (λe:g=f=>b (h.symm.trans e))]
   ·have a:(g==k)=false:=beq_eq_false_iff_ne.mpr h
    simp only[Qj,a]
    exact ih
theorem k9(f:Str)(v:V):∀fs:List (Str×V),f∈(cR f v fs).map (·.1)/\∀g,g∈fs.map (·.1)->g∈(cR f v fs).map (·.1)
 |[]=>⟨by simp[cR],λg h=>by simp at h⟩
 |(k,x)::r=>by
  obtain⟨b,c⟩:=k9 f v r
  rw[show cR f v ((k,x)::r)=(if k=f then(k,v)::r else(k,x)::cR f v r)from rfl]
  by_cases a:k=f
  ·rw[Mu a]
   subst a
   exact⟨by simp,λg h=>by simpa using h⟩
  ·rw[Mr a]
   refine⟨?_,λg h=>?_⟩
   ·rw[ME]
    exact Mo _ b
   ·rw[ME]at h⊢
    rcases MH.mp h with e|e
    ·exact MH.mpr (.inl e)
    ·exact Mo _ (c g e)
theorem mx(f:Str)(v:V):∀fs:List (Str×V),(cR f v fs).length<=fs.length+1
 |[]=>by simp[cR]
 |(k,x)::r=>by
  have ih:=mx f v r
  rw[show cR f v ((k,x)::r)=(if k=f then(k,v)::r else(k,x)::cR f v r)from rfl]
  by_cases a:k=f
  ·rw[Mu a,MA,MA];omega
  ·rw[Mr a,MA,MA];omega
theorem gR.some_of{v:V}{o:Option Mh}(r:gR (some v) o):∃u,o=some u/\aC v u:=by
 cases o with
 |none=>exact(show False from r).elim
 |some u=>exact⟨u,rfl,r⟩
theorem gR.none_of{o:Option Mh}(r:gR none o):o=none:=by
 cases o with
 |none=>rfl
 |some u=>exact(show False from r).elim
theorem zc{v:V}{u:Mh}(r:aC v u):UT u=true:=by
 cases v with
 |non=>cases(show u=Nl from r);rfl
 |bl b=>cases(show u=SZ b from r);rfl
 |int i=>obtain⟨t,e⟩:=(show ∃t,u=O5 i t from r);cases e;rfl
 |str x=>obtain⟨t,e⟩:=(show ∃t,u=TN x t from r);cases e;rfl
 |byt b=>obtain⟨t,e⟩:=(show ∃t,u=Value.bytes b t from r);cases e;rfl
 |flt b=>obtain⟨t,e⟩:=(show ∃t,u=Ui b t from r);cases e;rfl
 |ref a=>cases(show u=My a from r);rfl
 |ty n=>cases(show u=OH n from r);rfl
section
variable{P:Program}{w:MY}{H H':Hp}{h h':Heap}{a C dx:Addr}{fs fs':List (Str×V)}
theorem jz(hok:HOk P w H h)(e:H a=some (.ins C dx fs)):∃b,ObjM h a dx C b/\(∀f,gR (fs.lookup f) (b f))/\Qt b (fs.map (·.1))/\fs.length<=1000/\H dx=some (.own a):=by
 obtain⟨d,z,ne,c,b,n,r,q⟩:=(show bd P w H h a (.ins C dx fs)from hok a _ e)
 exact⟨b,⟨c,n,ne⟩,r,q,z,d⟩
end
structure Cls (K:Frag) (C:Addr):Prop where
 pg:plainGet K C O9=true
 hd:hasDictIn K C=true
 po:UH K C=true
 sa:Om K (.ref C) "__setattr__"=some (some (.builtin "object.__setattr__"))
theorem Cls.get{K:Frag}{C:Addr}(c:Cls K C)(f:Str):plainGet K C f=true:=c.pg
noncomputable def dA(K:Frag)(C:Addr)(f:Str):Prop:=Om K (.ref C) f=some none
theorem dA.taker{K:Frag}{C:Addr}{f:Str}(n:dA K C f):takerIn K C f=some none:=by
 unfold takerIn
 rw[show Om K (.ref C) f=some none from n]
 rfl
structure Meth (K:Frag) (C:Addr) (m:Str) (f:Addr):Prop where
 at_:Om K (.ref C) m=some (some (.ref f))
 fn:isFn K (.ref f)=true
 kp:RA K (.ref f)=true
section
variable{X:Cx}{pins:List (Addr×Obj)}{σ:St}{H:Hp}{s:Ml}{a C dx:Addr}{fs:List (Str×V)}{f:Str}{v:V}{A:M8}{E:Mh->Ml->Prop}
theorem w8{b:Bool}{Q:Mh->Ml->Prop}(I:Inv X pins σ H s)(e:H a=some (.ins C dx fs))(c:Cls X.K C)(n:dA X.K C f)(l:fs.lookup f=some v)
  (h:∀u s',Inv X pins σ H s'->aC v u->Q u s'):Mz (ML X.prog X.w) A (getAttr (.ref a) f b) Q E s:=by
 obtain⟨g,O,r,_,_,_⟩:=jz I.hok e
 obtain⟨u,i,d⟩:=gR.some_of (v:=v) (o:=g f) (by rw[←l];exact r f)
 exact GY I.kIn O (c.get f) c.hd n i (zc d) (h u _ (I.tok _) d)
theorem oH{m:Str}{g:Addr}{pl:Sem Bool}{Q:Mh×List Mh->Ml->Prop}(I:Inv X pins σ H s)(e:H a=some (.ins C dx fs))(c:Cls X.K C)(k:Meth X.K C m g)(l:fs.lookup m=none)
  (h:Q (.ref g,[.ref a]) s):Mz (ML X.prog X.w) A (Rb (.ref a) m pl) Q E s:=by
 obtain⟨b,O,r,_,_,_⟩:=jz I.hok e
 have hn:b m=none:=gR.none_of (by rw[←l];exact r m)
 exact BS I.kIn O (c.get m) k.at_ k.fn hn h
theorem wj{y:V}{u:Mh}{Q:Unit->Ml->Prop}(I:Inv X pins σ H s)(e:H a=some (.ins C dx fs))(c:Cls X.K C)(n:dA X.K C f)(D:fs.length<1000)(l:aC y u)
  (h:∀s',Inv X pins σ (upd H a (.ins C dx (cR f y fs))) s'->Q () s'):Mz (ML X.prog X.w) A (setAttr (.ref a) f u) Q E s:=by
 obtain⟨i,O,r,j,_,k⟩:=jz I.hok e
 have m:(fs.map (·.1)).length<=sizeLine:=by rw[Mj,Of];omega
 refine EY I.kIn O c.sa c.po n.taker c.hd j m λh' d p=>h _ ?_
 have hd:∃o,h'.get? dx=some o:=let ⟨o,_,_,e',_⟩:=d.ns;⟨o,e'⟩
 refine I.write (x:=a) (e:=dx) (by rw[e];exact Oy) (.inr k) (λb q t z=>(p.2 b t).trans z) hd ?_
 refine⟨by rw[upd_ne O.ne];exact k,?_,O.ne,d.obj,_,d.ns,λg=>?_,λg B=>?_⟩
 ·have:=mx f y fs;omega
 ·show gR ((cR f y fs).lookup g) (if g=f then some u else i g)
  rw[mw]
  by_cases q:g=f
  ·rw[Mu q,Mu q];exact l
  ·rw[Mr q,Mr q];exact r g
 ·by_cases q:g=f
  ·rw[q];exact(k9 f y fs).1
  ·refine(k9 f y fs).2 g (j g λz=>B ?_)
   show(if g=f then some u else i g)=none
   rw[Mr q];exact z
theorem Inv.made(I:Inv X pins σ H s):Inv X pins σ (upd (upd H s.heap.objs.size (.own (s.heap.objs.size+1))) (s.heap.objs.size+1) (.ins C s.heap.objs.size []))
  {s with heap:=(s.heap.push emptyDict).push (Sv C s.heap.objs.size)}:=by
 have c:(s.heap.push emptyDict).get? s.heap.objs.size=some emptyDict:=MB s.heap rfl
 have d:((s.heap.push emptyDict).push (Sv C s.heap.objs.size)).get? (s.heap.objs.size+1)=some (Sv C s.heap.objs.size):=by
  have:=MB (s.heap.push emptyDict) (o:=Sv C s.heap.objs.size) rfl
  rwa[Nv]at this
 have g:(s.heap.push emptyDict).Ns s.heap.objs.size (λ_=>none):=⟨emptyDict,#[],_,c,rfl,(λe h=>MM h (by simp)),λ_=>rfl⟩
 have i:=I.laid (a:=s.heap.objs.size) (o:= .own (s.heap.objs.size+1)) (h':=s.heap.push emptyDict) (t':=s.toks) (λb u q=>Mi _ q) (Mw _) ⟨_,c⟩
 refine i.laid (a:=s.heap.objs.size+1) (o:= .ins C s.heap.objs.size []) (t':=s.toks) (λb u q=>Mi _ q) (Ug (Nv _ _)) ?_
 have ne:s.heap.objs.size≠s.heap.objs.size+1:=M6 (Rp _)
 refine⟨by rw[upd_ne ne,ai],N2 _,ne,d,λ_=>none,(Uc g).at λo q=>Mi _ q,λ_=>Oy,λy j=>MM rfl j⟩
theorem HF{prog:Program}{w:MY}{env:Env}{e:Expr}{f:Str}{pos:Pos}{s:Ml}{Q:Mh->Ml->Prop}(c:PX e f env (eval e env)=eval e env)
  (h:Mz (ML prog w) A (eval e env) (λo b=>Mz (ML prog w) A (getAttr o f true) Q E b) E s):Mz (ML prog w) A (eval (.Attribute e f pos) env) Q E s:=
 Attribute_any_ h (by rw[arm_eval_Attribute,c])
end
noncomputable def tFld(K:Frag)(c:TE)(f:Str):TE:=λd H Q=>c d H λx b=>∃a C dx fs v,x= .ref a/\b a=some (.ins C dx fs)/\Cls K C/\dA K C f/\fs.lookup f=some v/\Q v b
noncomputable def Ij(K:Frag)(d e:TE)(f:Str):TS:=λD b H=>e b H λy g=>d b g λx c=>∃a C dx fs,x= .ref a/\c a=some (.ins C dx fs)/\Cls K C/\dA K C f/\fs.length<1000/\
 D.nx b (upd c a (.ins C dx (cR f y fs)))
section
variable{X:Cx}{o e value:Expr}{f:Str}{pos pos' tpos:Pos}{ta tv:TE}
theorem II(d:PE X e ta)(g:PX e f X.env (eval e X.env)=eval e X.env):PE X (.Attribute e f pos) (tFld X.K ta f):=by
 intro b s i H Q I h
 refine HF g (thn (d b s i H _ I h) λu w ⟨x,j,k,m,a,C,dx,fs,v,ex,p,c,n,l,q⟩=>?_)
 subst ex
 obtain rfl:u=My a:=m
 exact w8 k p c n l λy z r t=>⟨v,j,r,t,q⟩
theorem nY(ha:PE X o ta)(g:PE X value tv)(hs:P5 value (some (.Attribute o f pos')) pos.line X.env=pure false):PS X (.Assign [.Attribute o f pos'] value pos) (Ij X.K ta tv f):=by
 intro b s d H D I h
 refine Tk (thn (g b s d H _ I h) λu i ⟨y,j,k,m,q⟩=>thn (ha b i d j _ k q) λp z ⟨x,A,r,t,a,C,dx,fs,ex,v,c,n,l,q2⟩=>?_) hs
 subst ex
 obtain rfl:p=My a:=t
 exact wj r v c n l m λB w=>⟨d,_,w,q2⟩
end
section
variable{X:Cx}{pins:List (Addr×Obj)}{σ:St}{H:Hp}{s:Ml}{A:M8}{E:Mh->Ml->Prop}{Q:Mh->Ml->Prop}{c:Mh}{b:Bool}
inductive TyOf (K:Frag) (H:Hp):V->Mh->Prop where
 |non:TyOf K H .non (.type "NoneType")
 |bl (x:Bool):TyOf K H (.bl x) (.type "bool")
 |int (i:Int):TyOf K H (.int i) (.type "int")
 |str (x:Str):TyOf K H (.str x) (.type "str")
 |flt (x:UInt64):TyOf K H (.flt x) (.type "float")
 |lst {a:Addr} {xs:List V} (e:H a=some (.lst xs)):TyOf K H (.ref a) (.type "list")
 |frz {a:Addr} {o:Obj} {xs:List V} (e:H a=some (.frz o (.lst xs))):TyOf K H (.ref a) (.type "list")
 |tup {a:Addr} {xs:List V} (e:H a=some (.tup xs)):TyOf K H (.ref a) (.type "tuple")
 |dK {a:Addr} {kvs:List (Key×V)} (e:H a=some (.dK kvs)):TyOf K H (.ref a) (.type "dict")
 |dT {a:Addr} {kvs:List (List Key×V)} (e:H a=some (.dT kvs)):TyOf K H (.ref a) (.type "dict")
 |ins {a C dx:Addr} {fs:List (Str×V)} (e:H a=some (.ins C dx fs)) (cl:Cls K C) (ha:Om K (.ref C) "__class__"=some (some (.builtin "object.__class__")))
  (hn:specialIn K (.builtin "object.__class__") "__get__"=some (some (.builtin "getset_descriptor.__get__"))) (htk:Vg K (.builtin "object.__class__")=some true)
  (hm:mroIn K C (.type "object")=some true):TyOf K H (.ref a) (.ref C)
theorem yZ{x:V}{u t:Mh}(I:Inv X pins σ H s)(d:aC x u)(ty:TyOf X.K H x t)(e:kitOne X.K t c=some b)(h:∀j,Q (.bool b) {s with toks:=j}):
  Mz (ML X.prog X.w) A (call (.builtin "isinstance") [u,c]) Q E s:=by
 cases ty with
 |non=>cases(show u=Nl from d);exact Qf UG I.kIn Oy e (λz=>nomatch z) h
 |bl y=>cases(show u=SZ y from d);exact Qf UF I.kIn Oy e (λz=>nomatch z) h
 |int i=>obtain⟨t,q⟩:=(show ∃t,u=O5 i t from d);cases q;exact Qf UU I.kIn Oy e (λz=>nomatch z) h
 |str y=>obtain⟨t,q⟩:=(show ∃t,u=TN y t from d);cases q;exact Qf UW I.kIn Oy e (λz=>nomatch z) h
 |flt y=>obtain⟨t,q⟩:=(show ∃t,u=Ui y t from d);cases q;exact Qf Uh I.kIn Oy e (λz=>nomatch z) h
 |@lst a xs ea=>
  cases(show u=My a from d)
  obtain⟨_,_,n,_,f⟩:=(show bd X.prog X.w H s.heap a (.lst xs)from I.hok a _ ea)
  exact Qf Sw I.kIn ⟨_,f,rfl⟩ e (λz=>nomatch z) h
 |@frz a ob xs ea=>
  cases(show u=My a from d)
  obtain⟨_,_,_,n,_,f⟩:=(show bd X.prog X.w H s.heap a (.frz ob (.lst xs))from I.hok a _ ea)
  exact Qf Sw I.kIn ⟨_,f,rfl⟩ e (λz=>nomatch z) h
 |@tup a xs ea=>
  cases(show u=My a from d)
  obtain⟨_,_,_,p⟩:=(show bd X.prog X.w H s.heap a (.tup xs)from I.hok a _ ea)
  obtain⟨o,f,g,_⟩:=p
  exact Qf Ut I.kIn ⟨o,f,g⟩ e (λz=>nomatch z) h
 |@dK a kvs ea=>
  cases(show u=My a from d)
  obtain⟨_,_,vs,_,p⟩:=(show bd X.prog X.w H s.heap a (.dK kvs)from I.hok a _ ea)
  obtain⟨o,es,ep,f,g,_⟩:=p
  exact Qf Vo I.kIn ⟨o,f,g.1⟩ e (λz=>nomatch z) h
 |@dT a kvs ea=>
  cases(show u=My a from d)
  obtain⟨_,_,xs,_,o,es,ep,f,g,_⟩:=(show bd X.prog X.w H s.heap a (.dT kvs)from I.hok a _ ea)
  exact Qf Vo I.kIn ⟨o,f,g.1⟩ e (λz=>nomatch z) h
 |@ins a C dx fs ea cl ha hn htk hm=>
  cases(show u=My a from d)
  obtain⟨k,O,_⟩:=jz I.hok ea
  obtain⟨l,J,_⟩:=O.look
  exact Qf (UV (cl.get _) cl.hd ha hn htk hm) I.kIn J e (λz=>nomatch z) h
end
structure Room (k:Nat) (A:M8):Prop where
 hd:A.handled=none
 dp:A.depth+3*k+5<recursionLimit
 un:A.units+16*k+200<cLine
 gd:A.guards=some []
theorem Room.mono{j k:Nat}{A:M8}(r:Room k A)(h:j<=k):Room j A:=⟨r.hd,by have:=r.dp;omega,by have:=r.un;omega,r.gd⟩
theorem Room.deeper{k:Nat}{A:M8}(r:Room (k+1) A)(env:Env):Room k (A.deeper env):=
 ⟨r.hd,by have:=r.dp;show A.depth+1+3*k+5<_;omega,by have:=r.un;show A.units+3+16*k+200<_;omega,r.gd⟩
theorem wM{A:M8}{C:Addr}{us:List Mh}{a:List (Str×Mh)}:(A.under (.builtin "type.__call__" ⟨.ref C::us,a⟩)).depth=A.depth+1:=by
 first|rfl|simp[R4,Code.weight,Code.isCreation,Code.isGuard,Code.isCaller,Code.frames,T6,guardIds]
theorem wL{A:M8}{C:Addr}{us:List Mh}{a:List (Str×Mh)}:(A.under (.builtin "type.__call__" ⟨.ref C::us,a⟩)).units=A.units+1:=by
 first|rfl|simp[R4,Code.cUnits,Code.frames,T6]
theorem Room.make{k:Nat}{A:M8}(r:Room (k+1) A)(C:Addr)(us:List Mh)(a:List (Str×Mh)):Room k (A.under (.builtin "type.__call__" ⟨.ref C::us,a⟩)):=
 ⟨r.hd,by have:=r.dp;rw[wM];omega,by have:=r.un;rw[wL];omega,by first|exact r.gd|simp[R4,Code.guards,Code.isGuard,guardIds,pushGuards,r.gd]⟩
theorem Room.depth{k:Nat}{A:M8}(r:Room k A):A.depth<recursionLimit:=by have:=r.dp;omega
theorem Room.units{k:Nat}{A:M8}(r:Room k A):A.units+64<cLine:=by have:=r.un;omega
noncomputable def zV:TA:=λ_ H Q=>Q [] H
noncomputable def CY(b:TE)(tr:TA):TA:=λa H Q=>b a H λx c=>tr a c λxs d=>Q (x::xs) d
section
variable{X:Cx}{e:Expr}{es:List Expr}{te:TE}{t:TA}{pos:Pos}
theorem dW:PA X [] zV:=λ_ _ _ _ H Q I h=>U6 ⟨[],H,I,.nil,h⟩
theorem bh(ha:PE X e te)(c:PA X es t)(hs:Mx (e::es) X.env=(false,eval e X.env)::Mx es X.env:=by rfl):PA X (e::es) (CY te t):=by
 intro pos a s b H Q I h
 rw[hs]
 show Mz _ _ (spliced ((false,eval e X.env)::NZ pos (Mx es X.env))) _ _ s
 refine UM (thn (ha a s b H _ I h) λu d ⟨x,f,g,r1,q1⟩=>?_)
 exact thn (c pos a d b f _ g q1) λus l ⟨xs,i,j,k,q2⟩=>⟨x::xs,i,j,.cons r1 k,q2⟩
noncomputable def tTup(t:TA):TE:=λb H Q=>t b H λxs a=>xs.length<=sizeLine/\∀p,a p=none->Q (.ref p) (upd a p (.tup xs))
noncomputable def HR(t:TA):TE:=λb H Q=>t b H λxs a=>xs.length<=sizeLine/\∀p,a p=none->Q (.ref p) (upd a p (.lst xs))
theorem IE{x1}(h:PA X es t):PE X (.Tuple es x1 pos) (tTup t):=by
 intro a s g H Q I i
 refine wpAny_Tuple_spliced (thn (h pos a s g H _ I i) λus c ⟨xs,d,f,r,z,q⟩=>⟨by rw[←r.length];exact z,?_⟩)
 have j:d c.heap.objs.size=none:=f.hok.fresh (Mw _)
 refine⟨.ref c.heap.objs.size,upd d c.heap.objs.size (.tup xs),f.laid (t':=c.toks) (λb u e=>Mi _ e) (Mw _) ?_,rfl,q _ j⟩
 exact⟨z,us,r,⟨_,MB _ rfl,rfl,_,rfl⟩⟩
theorem ik(h:PA X es t):PE X (.List es pos) (HR t):=by
 intro a s g H Q I i
 refine wpAny_List_spliced (thn (h pos a s g H _ I i) λus c ⟨xs,d,f,r,z,q⟩=>⟨by rw[←r.length];exact z,?_⟩)
 have j:d c.heap.objs.size=none:=f.hok.fresh (Mw _)
 refine⟨.ref c.heap.objs.size,upd d c.heap.objs.size (.lst xs),f.laid (t':=c.toks) (λb u e=>Mi _ e) (Mw _) ?_,rfl,q _ j⟩
 exact⟨z,us,0,r,MB _ rfl⟩
end
noncomputable abbrev Sp:=List V->Hp->VK->XK->Prop
noncomputable abbrev CXT:=List Env->Hp->Ml->XK->Mh->Ml->Prop
structure Env0 (P:Program) (w:MY) (K:Frag) (mg:Str->Option Mh) (base:Heap) (A:M8) (outer:List Env) (s:Ml) (H:Hp):Prop where
 frames:A.frames=some outer
 mod:Mod K mg base
 bs:∀b o,base.get? b=some o->s.heap.get? b=some o/\H b=none
 bsz:base.objs.size<=s.heap.objs.size
 funs:s.heap.FunFrames base outer
 frf:∀b∈frs outer,H b=none
 hok:HOk P w H s.heap
 bare:QX s.gens
noncomputable def CE(outer:List Env)(P:Program)(w:MY)(H:Hp)(s:Ml)(Q:VK)(u:Mh)(s':Ml):Prop:=
 ∃v a,s'.os=s.os/\QX s'.gens/\Un (frs outer) [] H a s.heap s'.heap/\HOk P w a s'.heap/\aC v u/\Q v a
noncomputable def CR(CX:CXT)(outer:List Env)(P:Program)(w:MY)(H:Hp)(s:Ml)(Q:VK)(E:XK)(r:Vy)(s':Ml):Prop:=
 match r with
 | .ok (.ret u)=>CE outer P w H s Q u s'
 | .ok _=>False
 | .error e=>CX outer H s E e s'
structure FnOk (P:Program) (w:MY) (K:Frag) (mg:Str->Option Mh) (base:Heap) (CX:CXT) (k:Nat) (f:Addr) (fd:FuncData) (ps:List Str) (sp:Sp):Prop where
 len:∀vs H Q E,sp vs H Q E->vs.length=ps.length
 run:∀(A:M8) (outer:List Env) (s:Ml) (H:Hp) (args:Args) (us:List Mh) (vs:List V) (Q:VK) (E:XK),Room k A->Env0 P w K mg base A outer s H->Sg s fd args (ps.zip us)->ak vs us->sp vs H Q E->
  OX (ML P w) A (.call (.ref f) args) (CR CX outer P w H s Q E) s
theorem FnOk.mono{P:Program}{w:MY}{K:Frag}{mg:Str->Option Mh}{base:Heap}{CX:CXT}{j k:Nat}{f:Addr}{a:FuncData}{b:List Str}{sp:Sp}(F:FnOk P w K mg base CX j f a b sp)(h:j<=k):
  FnOk P w K mg base CX k f a b sp:=⟨F.len,λA outer s H args us vs Q E c=>F.run A outer s H args us vs Q E (c.mono h)⟩
theorem Env0.make{P:Program}{w:MY}{K:Frag}{mg:Str->Option Mh}{base:Heap}{A:M8}{outer:List Env}{s:Ml}{H:Hp}(e:Env0 P w K mg base A outer s H)(C:Addr)(us:List Mh)(a:List (Str×Mh)):
  Env0 P w K mg base (A.under (.builtin "type.__call__" ⟨.ref C::us,a⟩)) outer s H:=⟨by first|exact e.frames|(simpa[R4,Code.envs,T6,pushEnvs]using e.frames),e.mod,e.bs,e.bsz,e.funs,e.frf,e.hok,e.bare⟩
section
variable{X:Cx}{pins:List (Addr×Obj)}{σ:St}{H:Hp}{s s':Ml}
theorem Inv.env0(I:Inv X pins σ H s):Env0 X.prog X.w X.K X.mg X.base X.A X.stack s H:=
 ⟨I.ok.frames,I.ok.mod,I.bs,MS I.ok.bsz I.sz,I.stack,I.stkFree,I.hok,I.bare⟩
theorem Inv.after{Q:VK}{u:Mh}(I:Inv X pins σ H s)(h:CE X.stack X.prog X.w H s Q u s'):EP X pins σ Q u s':=by
 obtain⟨v,c,os,bare,un,hok,r,q⟩:=h
 obtain⟨e,g,d,t,a⟩:=s'
 obtain rfl:a=s.os:=os
 exact⟨v,c,I.call (h':=e) (g':=g) (d':=d) (t':=t) (ch:=[]) un hok bare (λb z=>MM z (by simp)),r,q⟩
end
noncomputable def CZ(sp:Sp)(a:List V)(E:St->XK)(t:TA):TE:=λb H Q=>t b H λvs c=>sp (vs++a) c Q (E b)
noncomputable def wa(C:Addr)(m:Str)(sp:Sp)(b:List V)(E:St->XK)(e:TE)(t:TA):TE:=λc H Q=>e c H λx d=>∃a dx fs,x= .ref a/\d a=some (.ins C dx fs)/\fs.lookup m=none/\
 t c d λvs f=>sp (x::(vs++b)) f Q (E c)
noncomputable def Lo(C:Addr)(sp:Sp)(a:List V)(E:St->XK)(t:TA):TE:=λc H Q=>t c H λvs b=>∀x dx,b x=none->b dx=none->dx≠x->
 sp (.ref x::(vs++a)) (upd (upd b dx (.own x)) x (.ins C dx [])) (λv d=>v= .non/\Q (.ref x) d) (E c)
noncomputable def aA(K:Frag)(b:FuncData)(a:List Str)(ds:List Mh):Prop:=
 ∀(s:Ml) (us:List Mh),K.In s.heap->(us++ds).length=a.length->Sg s b ⟨us,[]⟩ (a.zip (us++ds))
theorem aA.all{K:Frag}{b:FuncData}{a:List Str}(h:∀us:List Mh,us.length=a.length->bindArgs b ⟨us,[]⟩=pure (a.zip us)):aA K b a []:=λs us _ c=>by
 rw[M2]at c⊢
 exact .of_eq (h us c)
noncomputable def bD(CX:CXT)(X:Cx)(E:St->XK):Prop:=∀(a:List (Addr×Obj)) (b:St) (H:Hp) (s:Ml) (e:Mh) (s':Ml),Inv X a b H s->CX X.stack H s (E b) e s'->X.xe e s'
section
variable{X:Cx}{CX:CXT}{k:Nat}{f C:Addr}{fd:FuncData}{ps:List Str}{sp:Sp}{dvs:List V}{ds:List Mh}{E:St->XK}{x m:Str}{p pos apos:Pos}{e o:Expr}{es:List Expr}{ta:TE}{t:TA}
theorem nT{a:List (Addr×Obj)}{b:St}{H:Hp}{s:Ml}{Q:VK}{us:List Mh}{vs:List V}(F:FnOk X.prog X.w X.K X.mg X.base CX k f fd ps sp)(g:Room k X.A)(i:aA X.K fd ps ds)(hd:ak dvs ds)(j:bD CX X E)
  (I:Inv X a b H s) (r:ak vs us) (h:sp (vs++dvs) H Q (E b)):Mz (ML X.prog X.w) X.A (call (.ref f) us) (EP X a b Q) X.xe s:=by
 have d:ak (vs++dvs) (us++ds):=r.append hd
 have l:(us++ds).length=ps.length:=by rw[←d.length];exact F.len _ _ _ _ h
 refine Qx (Pb (F.run X.A X.stack s H ⟨us,[]⟩ (us++ds) (vs++dvs) Q (E b) g I.env0 (i s us I.kIn l) d h) λr s' c=>?_)
 cases r with
 |error e=>exact j a b H s e s' I c
 |ok fl=>
  cases fl with
  |ret u=>exact I.after c
  |next=>exact NQ c
  |brk=>exact NQ c
  |cont=>exact NQ c
theorem pi(F:FnOk X.prog X.w X.K X.mg X.base CX k f fd ps sp)(g:Room k X.A)(i:Gl X x)(hm:X.mg x=some (.ref f))(j:RA X.K (.ref f)=true)(l:aA X.K fd ps ds)(hd:ak dvs ds)(n:bD CX X E)
  (ha:PA X (e::es) t) (b:(x==("__debug__":Str))=false:=by decide) (u:Mx (e::es) X.env=(false,eval e X.env)::Mx es X.env:=by rfl) (c:(NZ pos (Mx es X.env)).any (·.1)=false:=by rfl):
  PE X (.Call (.Name x p) (e::es) [] pos) (CZ sp dvs E t):=by
 intro a s v H Q I h
 refine Pd (h9 I i hm ?_ b)
 refine SI (h₀:=X.base) I.ok.mod.kin j (thn (ha pos a s v H _ I h) λus y ⟨vs,z,d,r,q⟩=>⟨d.kIn,?_⟩) u c
 exact nT F g l hd n d r q
theorem FR{pl:Sem Bool}(v:PE X o ta)(c:Cls X.K C)(hm:Meth X.K C m f)(F:FnOk X.prog X.w X.K X.mg X.base CX k f fd ps sp)(y:Room k X.A)(z:aA X.K fd ps ds)(hd:ak dvs ds)(B:bD CX X E)(ha:PA X (e::es) t)
  (d:Mx (e::es) X.env=(false,eval e X.env)::Mx es X.env:=by rfl) (g:(NZ pos (Mx es X.env)).any (·.1)=false:=by rfl)
  (D:eval (.Call (.Attribute o m apos) (e::es) [] pos) X.env=(do
   let ov ←eval o X.env
   Pc apos.atName
   let (f,first) ←PN [ov] (Rb ov m pl)
   S3 pos f first (NZ pos (Mx (e::es) X.env)) (OK pos (NW [] X.env))):=by rfl):
  PE X (.Call (.Attribute o m apos) (e::es) [] pos) (wa C m sp dvs E ta t):=by
 intro b s i H Q I h
 refine SE (pl:=pl) (thn (v b s i H _ I h) λu G ⟨x,J,j,L,a,dx,fs,ex,M,l,q⟩=>?_) D
 subst ex
 obtain rfl:u=My a:=L
 refine oH j M c hm l ?_
 refine SI (first:=[.ref a]) (h₀:=X.base) I.ok.mod.kin hm.kp (thn (ha pos b G i J _ j q) λus N ⟨vs,O,n,r,q2⟩=>⟨n.kIn,?_⟩) d g
 exact nT (us:= .ref a::us) (vs:= .ref a::vs) F y z hd B n (.cons rfl r) q2
theorem AI{pl:Sem Bool}(g:PE X o ta)(c:Cls X.K C)(hm:Meth X.K C m f)(F:FnOk X.prog X.w X.K X.mg X.base CX k f fd ps sp)(i:Room k X.A)(j:aA X.K fd ps ds)(hd:ak dvs ds)(n:bD CX X E)
  (r:eval (.Call (.Attribute o m apos) [] [] pos) X.env=(do
   let ov ←eval o X.env
   Pc apos.atName
   let (f,first) ←PN [ov] (Rb ov m pl)
   S3 pos f first (NZ pos (Mx [] X.env)) (OK pos (NW [] X.env))):=by rfl):
  PE X (.Call (.Attribute o m apos) [] [] pos) (wa C m sp dvs E ta zV):=by
 intro b s v H Q I h
 refine SE (pl:=pl) (thn (g b s v H _ I h) λu B ⟨x,D,d,y,a,dx,fs,ex,z,l,q⟩=>?_) r
 subst ex
 obtain rfl:u=My a:=y
 refine oH d z c hm l ?_
 exact PySem.W.callWith_K0 (first:=[.ref a]) d.kIn hm.kp (nT (us:=[.ref a]) (vs:=[.ref a]) F i j hd n d (.cons rfl .nil) q)
structure Mk (K:Frag) (C f:Addr):Prop where
 makes:Vf K C=true
 init:Om K (.ref C) "__init__"=some (some (.ref f))
 fn:isFn K (.ref f)=true
 kp:RA K (.ref C)=true
theorem z7{a:List (Addr×Obj)}{c:St}{H:Hp}{s:Ml}{Q:VK}{us:List Mh}{vs:List V}(M:Mk X.K C f)(F:FnOk X.prog X.w X.K X.mg X.base CX k f fd ps sp)(j:Room (k+1) X.A)(l:aA X.K fd ps ds)(hd:ak dvs ds)
  (n:bD CX X E) (I:Inv X a c H s) (r:ak vs us)
  (h:∀x dx,H x=none->H dx=none->dx≠x->sp (.ref x::(vs++dvs)) (upd (upd H dx (.own x)) x (.ins C dx [])) (λv q=>v= .non/\Q (.ref x) q) (E c)):
  Mz (ML X.prog X.w) X.A (call (.ref C) us) (EP X a c Q) X.xe s:=by
 have g:=h (s.heap.objs.size+1) s.heap.objs.size (I.hok.fresh (PV _)) (I.hok.fresh (Mw _)) (M6 (Rp _))
 have d:=Inv.made (C:=C) I
 have i:ak (V.ref (s.heap.objs.size+1)::(vs++dvs)) (My (s.heap.objs.size+1)::(us++ds)):= .cons rfl (r.append hd)
 have y:(My (s.heap.objs.size+1)::us++ds).length=ps.length:=by
  have e:=i.length
  rw[F.len _ _ _ _ g]at e
  exact e.symm
 refine Qx (tH (f:=f) I.kIn M.makes M.init (beq_iff_eq.mp M.fn) (Pb (F.run _ X.stack _ _ ⟨My (s.heap.objs.size+1)::us,[]⟩ (My (s.heap.objs.size+1)::(us++ds)) _ _ (E c) (j.make C us [])
  (d.env0.make C us []) (l _ (My (s.heap.objs.size+1)::us) d.kIn y) i g) λr s' b=>?_))
 cases r with
 |error e=>exact n a c _ _ e s' d b
 |ok fl=>
  cases fl with
  |ret u=>
   obtain⟨v,z,B,D,G,q3⟩:=d.after b
   subst G
   exact⟨D,⟨V.ref (s.heap.objs.size+1),z,B,rfl,q3⟩⟩
  |next=>exact NQ b
  |brk=>exact NQ b
  |cont=>exact NQ b
theorem FS(M:Mk X.K C f)(F:FnOk X.prog X.w X.K X.mg X.base CX k f fd ps sp)(g:Room (k+1) X.A)(i:Gl X x)(hm:X.mg x=some (.ref C))(j:aA X.K fd ps ds)(hd:ak dvs ds)(l:bD CX X E)
  (ha:PA X (e::es) t) (b:(x==("__debug__":Str))=false:=by decide) (n:Mx (e::es) X.env=(false,eval e X.env)::Mx es X.env:=by rfl) (c:(NZ pos (Mx es X.env)).any (·.1)=false:=by rfl):
  PE X (.Call (.Name x p) (e::es) [] pos) (Lo C sp dvs E t):=by
 intro a s u H Q I h
 refine Pd (h9 I i hm ?_ b)
 refine SI (h₀:=X.base) I.ok.mod.kin M.kp (thn (ha pos a s u H _ I h) λus v ⟨vs,y,d,r,q⟩=>⟨d.kIn,?_⟩) n c
 exact z7 M F g j hd l d r q
end
noncomputable def PK(X:Cx)(b:List QZ)(t:TA):Prop:=
 ∀(pos:Pos) (a:List (Addr×Obj)) (s:Ml) (c:St) (H:Hp) (Q:List V->Hp->Prop),Inv X a c H s->t c H Q->Mz (ML X.prog X.w) X.A (evalAll ((OK pos (NW b X.env)).map (·.2))) (AP X a c Q) X.xe s
section
variable{X:Cx}{CX:CXT}{k:Nat}{f C:Addr}{fd:FuncData}{ps ks:List Str}{sp:Sp}{E:St->XK}{x m:Str}{p pos apos kpos:Pos}{e o:Expr}{es:List Expr}{kws:List QZ}{te ta:TE}{t tk:TA}{nm:Option Str}
theorem Ix:PK X [] zV:=λ_ _ _ _ H Q I h=>wpAny_evalAll_nil ⟨[],H,I,.nil,h⟩
theorem FM(ha:PE X e te)(c:PK X kws t):PK X (⟨nm,e,kpos⟩::kws) (CY te t):=by
 intro pos a s b H Q I h
 show Mz _ _ (evalAll ((do let v ←eval e X.env;Pc pos;pure v)::(OK pos (NW kws X.env)).map (·.2))) _ _ s
 refine wpAny_evalAll_cons (on (thn (ha a s b H _ I h) λu d ⟨x,g,i,r1,q1⟩=>on (N6 (Mg ?_))))
 exact thn (c pos a d b g _ i q1) λus q ⟨xs,j,l,n,q2⟩=>⟨x::xs,j,l,.cons r1 n,q2⟩
structure KBinds (K:Frag) (fd:FuncData) (ps ks:List Str) (g:List Mh->List Mh->List Mh) (gV:List V->List V->List V):Prop where
 to:∀(s:Ml) (us ws:List Mh),K.In s.heap->(g us ws).length=ps.length->Sg s fd ⟨us,ks.zip ws⟩ (ps.zip (g us ws))
 rel:∀{vs:List V} {us:List Mh} {zs:List V} {ws:List Mh},ak vs us->ak zs ws->ak (gV vs zs) (g us ws)
variable{g:List Mh->List Mh->List Mh}{gV:List V->List V->List V}
end
structure FnScope (N P:List Str) (sc:Scope):Prop where
 kind:sc.kind= .function
 co:sc.isCoroutine=false
 gen:sc.isGenerator=false
 nd:N.Nodup
 pre:N.take P.length=P
 par:∀x∈P,sc.names.lookup x=some .local\/sc.names.lookup x=some .cell
 nofree:∀y∈sc.names,y.2≠ .free
theorem qO{b:Str->Option Pt}{x:Str}:∀{a:List (Str×Mh)} {m:Str->Option Mh},(∀v,(x,v)∉a)->Vl b a m x=m x
 |[],_,_=>rfl
 |(n,v)::r,m,h=>by
  unfold Vl
  rw[qO λw c=>h w (Mo _ c)]
  split
  ·have:x≠n:=by rintro rfl;exact h v Mq
   simp[this]
  ·rfl
theorem qQ{b:Str->Option Pt}{x:Str}:∀{a:List (Str×Mh)} {m:Str->Option Mh},(∀v,(x,v)∉a)->Vk b a m x=m x
 |[],_,_=>rfl
 |(n,v)::r,m,h=>by
  unfold Vk
  rw[qQ λw c=>h w (Mo _ c)]
  split
  ·rfl
  ·have:x≠n:=by rintro rfl;exact h v Mq
   simp[this]
theorem qP{a:Str->Option Pt}{x:Str}{v:Mh}:∀{P:List Str} {vs:List Mh} {i:Nat} {m:Str->Option Mh},P.Nodup->P[i]?=some x->vs[i]?=some v->a x=some .local->
  Vl a (P.zip vs) m x=some v
 |[],_,_,_,_,h,_,_=>by simp at h
 |_::_,[],_,_,_,_,h,_=>by simp at h
 |p::P,w::vs,0,m,nd,h1,h2,hk=>by
  simp at h1 h2;subst h1;subst h2
  show Vl a ((p,w)::P.zip vs) m p=_
  unfold Vl
  rw[qO λv b=>(Nd.mp nd).1 (SQ b).1,Mu hk]
  simp
 |p::P,w::vs,i+1,m,nd,h1,h2,hk=>by
  show Vl a ((p,w)::P.zip vs) m x=_
  unfold Vl
  exact qP (i:=i) (Nd.mp nd).2 (by simpa using h1) (by simpa using h2) hk
theorem qR{a:Str->Option Pt}{x:Str}{v:Mh}:∀{P:List Str} {vs:List Mh} {i:Nat} {m:Str->Option Mh},P.Nodup->P[i]?=some x->vs[i]?=some v->a x≠some .local->
  Vk a (P.zip vs) m x=some v
 |[],_,_,_,_,h,_,_=>by simp at h
 |_::_,[],_,_,_,_,h,_=>by simp at h
 |p::P,w::vs,0,m,nd,h1,h2,hk=>by
  simp at h1 h2;subst h1;subst h2
  show Vk a ((p,w)::P.zip vs) m p=_
  unfold Vk
  rw[qQ λv b=>(Nd.mp nd).1 (SQ b).1,Mr hk]
  simp
 |p::P,w::vs,i+1,m,nd,h1,h2,hk=>by
  show Vk a ((p,w)::P.zip vs) m x=_
  unfold Vk
  exact qR (i:=i) (Nd.mp nd).2 (by simpa using h1) (by simpa using h2) hk
noncomputable def eW(N:List Str)(vs:List V):St:=vs.map some++MC (N.length-vs.length) none
noncomputable def cX(CX:CXT)(P:Program)(w:MY)(K:Frag)(mg:Str->Option Mh)(base:Heap)(N:List Str)(a:Str)(scope:Scope)(f:Addr)(cd:Mh)(A:M8)(outer:List Env)(s:Ml)(H:Hp)(E:XK):Cx where
 prog:=P
 w:=w
 K:=K
 mg:=mg
 base:=base
 A:=A.deeper (Qu a scope s.heap.objs.size f cd)
 N:=N
 s₀:=s
 H₀:=H
 env:=Qu a scope s.heap.objs.size f cd
 outer:=outer
 stack:=Qu a scope s.heap.objs.size f cd::outer
 ex:=[]
 calm:=true
 fn:=λ_=>true
 pn:=[]
 xe:=λe s'=>Mz (ML P w) (A.deeper (Qu a scope s.heap.objs.size f cd)) (leaving (Qu a scope s.heap.objs.size f cd) e) (λ_ b=>CX outer H s E e b) (λc b=>CX outer H s E c b) s'
theorem ul{a:Scope}{n:Nat}{x:Str}(h:a.names.lookup x=some .cell):∃c,(NU n a.names []).lookup x=some c:=by
 have q:=Um a.names n [] (.inl h)
 exact Th.mp q
theorem y7{CX:CXT}{P:Program}{w:MY}{K:Frag}{mg:Str->Option Mh}{base:Heap}{N l:List Str}{d:Str}{scope:Scope}{f:Addr}{cd:Mh}{A:M8}{outer:List Env}{s F:Ml}{H:Hp}{E:XK}{us:List Mh}{vs:List V}
  (S:FnScope N l scope) (hd:A.handled=none) (j:Env0 P w K mg base A outer s H) (M:vs.length=l.length) (r:ak vs us)
  (x:InCallC s s.heap.objs.size (Vl (Qu d scope s.heap.objs.size f cd).kindOf (l.zip us) λ_=>none) (NU (s.heap.objs.size+1) scope.names []) (Vk (Qu d scope s.heap.objs.size f cd).kindOf (l.zip us) λ_=>none) F):
  Inv (cX CX P w K mg base N d scope f cd A outer s H E) [] (eW N vs) H F:=by
 have J:l.length<=N.length:=by have:=Nq RK S.pre;rw[OL]at this;omega
 obtain⟨C,O,rfl,G⟩:=x.done
 have m:∀b:Addr,b∉(cX CX P w K mg base N d scope f cd A outer s H E).ex:=λb z=>MM (show b∈([]:List Addr)from z) (by simp)
 refine⟨⟨j.mod,S.kind,rfl,rfl,Mw _,λy z c C g=>?_,λy o=>?_,λy c _ h=>?_,λ_=>hd,Around.frames_deeper j.frames,.inr ⟨rfl,rfl⟩,λb z=>MM z (m b),j.bs,j.bsz,λb _ _=>m b,λb z=>MM z (m b),j.funs,j.frf⟩,
  rfl,j.bare,Un.kept G,⟨_,x.toInCall.ns,λi y v C g Q=>?_⟩,λy c h=>⟨_,x.cell y c h⟩,j.hok.fresh (Mw _),λy c h=>?_,λp t=>MM (show p∈([]:List (Addr×Obj))from t) (by simp),j.hok.kept G,?_⟩
 ·exact name_of_addr x.apart (Ny C) (Ny g)
 ·have o:scope.names.lookup y=some .cell\/scope.names.lookup y=some .free:=o
  rcases o with o|o
  ·exact ul o
  ·exact MM rfl (S.nofree _ (Ny o))
 ·exact Ry (x.above y c (Ny h))
 ·have D:i<vs.length:=by
   unfold eW at g
   by_cases D:i<vs.length
   ·exact D
   ·rw[N4 (by simpa using D)]at g
    rw[N1]at g
    split at g<;>cases g
  have ha:vs[i]?=some v:=by
   unfold eW at g
   rw[Pr (by simpa using D),Mt]at g
   cases e:vs[i]? with
   |none=>rw[e]at g;cases g
   |some a=>rw[e]at g;cases g;rfl
  obtain⟨u,I,L⟩:=r.get ha
  have t:l[i]?=some y:=by
   rw[←S.pre,TF (by omega)];exact C
  have B:l.Nodup:=by rw[←S.pre];exact S.nd.sublist (List.take_sublist _ _)
  refine⟨u,L,?_⟩
  rcases S.par y (MV t)with k|k
  ·exact .inl ⟨k,qP B t I k⟩
  ·obtain⟨c,e⟩:=ul (n:=s.heap.objs.size+1) k
   refine .inr ⟨.inl k,c,e,?_⟩
   have q:=x.cell y c e
   rw[qR B t I (by show scope.names.lookup y≠_;rw[k];decide)]at q
   exact q
 ·exact j.hok.fresh (Ry (x.above y c (Ny h)))
 ·unfold eW
  show _=N.length
  rw[MJ,Mj,NO]
  omega
theorem DV{CX:CXT}{P:Program}{w:MY}{K:Frag}{mg:Str->Option Mh}{base:Heap}{k:Nat}{f:Addr}{name a:Str}{d:Arguments}{body:List Stmt}{scope:Scope}{M kV l O c ct X:Mh}{R Y:Option Addr}
  {C:Array (Option Mh)} {N B:List Str} {sp:Sp} (Z:K.lookup f=some ⟨X,Y,.func (PU name a d body scope M kV l O R c ct),C⟩) (D:Qr K c a=true) (S:FnScope N B scope)
  (len:∀vs H Q E,sp vs H Q E->vs.length=B.length)
  (i:∀(A:M8) (outer:List Env) (s:Ml) (H:Hp) (vs:List V) (Q:VK) (E:XK),Room k (A.deeper (Qu a scope s.heap.objs.size f c))->sp vs H Q E->
   ∃t,PSs (cX CX P w K mg base N a scope f c A outer s H E) body t/\t {nx:=λ_ h=>Q .non h,rt:=Q} (eW N vs) H):
  FnOk P w K mg base CX (k+1) f (PU name a d body scope M kV l O R c ct) B sp:=by
 refine⟨len,λA outer s H args us vs Q E F m hb r p=>?_⟩
 have hl:=len _ _ _ _ p
 have T:K.In s.heap:=m.mod.kin.keeps λb o e=>(m.bs b o e).1
 have G:s.heap.NoLimit:=m.mod.nolimit.keeps λb o e=>(m.bs b o e).1
 have j:∀y∈B.zip us,scope.names.lookup y.1=some .local\/(scope.names.lookup y.1=some .cell/\((NU (s.heap.objs.size+1) scope.names []).lookup y.1).isSome=true):=λ⟨n,v⟩ hy=>by
  rcases S.par n (SQ hy).1 with q|q
  ·exact .inl q
  ·exact .inr ⟨q,Um _ _ _ (.inl q)⟩
 refine codeAny_call_function F.depth (T _ _ Z) rfl S.co S.gen rfl (PySem.W.codeRec_of T D) (hb _ _ _ _ ?_)
 refine wpAny_newFunctionEnv_cells S.kind j λenv he U x=>?_
 subst he
 refine⟨G.keeps x.toInCall.keep,codeAny_func ?_⟩
 obtain⟨t,ht,hq⟩:=i A outer s H vs Q E (F.deeper _) p
 have I:Inv (cX CX P w K mg base N a scope f c A outer s H E) [] (eW N vs) H U:=y7 S F.hd m hl r x
 refine M9 (ht [] U (eW N vs) H _ I hq) (λfl s' hs=>?_) λe s' hs=>hs
 have z:∀{g:St} {h:Hp} {v:V} {u:Mh},Inv (cX CX P w K mg base N a scope f c A outer s H E) [] g h s'->aC v u->Q v h->CE outer P w H s Q u s':=
  λ{g h v u} J L q=>⟨v,h,J.os,J.bare,J.base,J.hok,L,q⟩
 cases fl with
 |ret u=>
  obtain⟨v,g,h,J,L,q⟩:=hs
  exact z J L q
 |next=>
  obtain⟨g,h,J,q⟩:=hs
  exact z (v:=V.non) (u:=Nl) J rfl q
 |brk=>
  obtain⟨_,_,_,q⟩:=hs
  exact NQ q
 |cont=>
  obtain⟨_,_,_,q⟩:=hs
  exact NQ q
section
variable{X:Cx}{x:Str}{p pos:Pos}{e:Expr}{es:List Expr}{t:TA}{id T:String}{r:List V->Hp->VK->Prop}
noncomputable def tCB(r:List V->Hp->VK->Prop)(t:TA):TE:=λa H Q=>t a H λvs b=>r vs b Q
theorem jR(f:cz X (.builtin id) r)(g:Gl X x)(hm:X.mg x=none)(i:PM x=some (.builtin id))(ha:PA X (e::es) t)(hn:x≠"__name__":=by decide)(b:(x==("__debug__":Str))=false:=by decide)
  (j:Mx (e::es) X.env=(false,eval e X.env)::Mx es X.env:=by rfl) (c:(NZ pos (Mx es X.env)).any (·.1)=false:=by rfl):PE X (.Call (.Name x p) (e::es) [] pos) (tCB r t):=by
 intro a s d H Q I h
 refine Pd (eV I g hm i ?_ hn b)
 exact RM (thn (ha pos a s d H _ I h) λus k ⟨vs,l,m,r1,q1⟩=>f a k d l vs us Q m r1 q1) j c
theorem yr(f:cz X (.type T) r)(g:Gl X x)(hm:X.mg x=none)(i:PM x=some (.type T))(ha:PA X (e::es) t)(hn:x≠"__name__":=by decide)(b:(x==("__debug__":Str))=false:=by decide)
  (j:Mx (e::es) X.env=(false,eval e X.env)::Mx es X.env:=by rfl) (c:(NZ pos (Mx es X.env)).any (·.1)=false:=by rfl):PE X (.Call (.Name x p) (e::es) [] pos) (tCB r t):=by
 intro a s d H Q I h
 refine Pd (eV I g hm i ?_ hn b)
 exact NK (thn (ha pos a s d H _ I h) λus k ⟨vs,l,m,r1,q1⟩=>f a k d l vs us Q m r1 q1) j c
end
end L2
namespace HT
open PySem PyProof.Rows
section
open PySem.SeqAt
open PySem.AutoSeq1 (wpAny_loadPart')
open PySem.MeetsSeq PySem.MeetsSeq2 PySem.MeetsSeq3
end
section
variable{prog:Program}{w:MY}{A:M8}{E:Mh->Ml->Prop}{s:Ml}
theorem cat_tup{t b:Addr}{vs a:List Mh}{Q:Mh->Ml->Prop}(u:IsTup s.heap t vs.toArray)(v:IsTup s.heap b a.toArray)(m:vs≠[])
  (x:a=[]->Q (.ref t) s) (y:a≠[]->Q (.ref s.heap.objs.size) {s with heap:=s.heap.push {cls:= .type "tuple",data:= .seq (vs++a).toArray}})
  (k:vs.length+a.length<=sizeLine):Mz (ML prog w) A (OC .Add (.ref t) (.ref b)) Q E s:=by
 obtain⟨⟨cls,dd,data,o⟩,i,p,n,hd⟩:=id u
 obtain⟨⟨q,d,l,f⟩,c,g,r,h⟩:=id v
 simp only at p hd g h
 subst p hd g h
 have e:vs.toArray++a.toArray=(vs++a).toArray:=by simp
 by_cases j:a=[]
 ·exact concat_meets ⟨_,i,rfl⟩ ⟨_,c,rfl⟩ Tv U1 Rf Q2 (QL _ _)
   (tuple_addW1 t b vs.toArray a.toArray n r dd d o f (by simpa using m) (by simp[j])) ⟨i,c,x j⟩
 ·refine concat_meets ⟨_,i,rfl⟩ ⟨_,c,rfl⟩ Tv U1 Rf Q2 (QL _ _)
   (tuple_addW2 t b vs.toArray a.toArray n r dd d o f (by simpa using m) (by simpa using j) (by rw[MG,MG];exact k)) ⟨i,c,?_⟩
  rw[e]
  exact y j
noncomputable def sIx(n d:Nat):Option Int->Nat
 |none=>d
 |some v=>if v<0 then(v+(n:Int)).toNat else min v.toNat n
theorem sIx_none(n d:Nat):sIx n d none=d:=rfl
theorem sIx_nat(n d k:Nat):sIx n d (some (k:Int))=min k n:=by
 show(if(k:Int)<0 then((k:Int)+(n:Int)).toNat else min (k:Int).toNat n)=min k n
 rw[Mr (by omega),NG]
end
end HT
namespace L2
open PySem PySem.Spec PyProof.Rows
noncomputable abbrev TO:=St->Hp->(Option Int->Hp->Prop)->Prop
noncomputable def PO(X:Cx)(e:Option Expr)(t:TO):Prop:=
 ∀(a:List (Addr×Obj)) (s:Ml) (b:St) (H:Hp) (Q:Option Int->Hp->Prop),Inv X a b H s->t b H Q->
  Mz (ML X.prog X.w) X.A (evalPart e X.env) (λu s'=>∃o c,Inv X a b c s'/\IsPart u o/\Q o c) X.xe s
noncomputable def ET:TO:=λ_ H Q=>Q none H
noncomputable def Lm(t:TE):TO:=λa H Q=>t a H λx b=>∃i,x= .int i/\Q (some i) b
theorem oG{ns:List Int}:∀{us:List Mh},ak (ns.map V.int) us->T7 us ns:=by
 induction ns with
 |nil=>intro us r;rw[Oj]at r;cases r;exact .nil
 |cons n ns ih=>
  intro us r
  rw[ME]at r
  cases r with
  |cons r1 a=>
   obtain⟨t,e⟩:=r1
   subst e
   exact .cons n t (ih a)
section
variable{X:Cx}{e:Expr}{te:TE}{lo hi:Option Expr}{tl th:TO}{pos p2:Pos}
theorem u4:PO X none ET:=by
 intro a s b H Q I h
 rw[UZ]
 exact Mg ⟨none,H,I,.none,h⟩
theorem u3(h:PE X e te):PO X (some e) (Lm te):=by
 intro a s b H Q I c
 rw[evalPart_some]
 refine thn (h a s b H _ I c) λu g ⟨x,d,f,r1,q1⟩=>?_
 obtain⟨i,rfl,q⟩:=q1
 obtain⟨t,rfl⟩:=r1
 exact⟨some i,d,f,.int i t,q⟩
noncomputable def SlR(X:Cx)(r:V->Option Int->Option Int->Hp->VK->Prop):Prop:=
 ∀(a:List (Addr×Obj)) (s:Ml) (b:St) (H:Hp) (x:V) (v c d:Mh) (lo hi:Option Int) (f:Addr) (Q:VK),Inv X a b H s->aC x v->s.heap.IsSliceOf f c d .none->IsPart c lo->IsPart d hi->r x lo hi H Q->
  ∃T g,typeLookup (.type T) "__getitem__"=pure (some (.builtin g))/\s.TypeIs v T/\Mz (ML X.prog X.w) X.A (getItem v (.ref f)) (EP X a b Q) X.xe s
noncomputable def tSl(r:V->Option Int->Option Int->Hp->VK->Prop)(te:TE)(tl th:TO):TE:=λa H Q=>te a H λx b=>tl a b λl c=>th a c λu d=>r x l u d Q
theorem sS{r:V->Option Int->Option Int->Hp->VK->Prop}(j:SlR X r)(k:PE X e te)(m:PO X lo tl)(n:PO X hi th):PE X (.Subscript e (.Slice lo hi none p2) pos) (tSl r te tl th):=by
 intro a s d H Q I h
 refine Subscript_ (thn (k a s d H _ I h) λv o ⟨x,p,t,r1,q1⟩=>?_)
 refine wpAny_Slice (thn (m a o d p _ t q1) λf y ⟨l,z,B,pl,q2⟩=>thn (n a y d z _ B q2) λg c ⟨u,i,C,D,q3⟩=>?_)
 rw[UZ]
 refine Mg ?_
 have E:Inv X a d i {c with heap:=c.heap.push {cls:= .type "slice",data:= .fields #[f,g,.none]}}:=C.kept (t':=c.toks) λb K q=>Mi _ q
 obtain⟨T,L,F,G,J⟩:=j a {c with heap:=c.heap.push {cls:= .type "slice",data:= .fields #[f,g,.none]}} d i x v f g l u c.heap.objs.size Q E r1 (SM ..) pl D q3
 show Mz (ML X.prog X.w) X.A (U2 e (.Slice lo hi none p2) v (.ref c.heap.objs.size)) (EP X a d Q) X.xe {c with heap:=c.heap.push {cls:= .type "slice",data:= .fields #[f,g,.none]}}
 exact tail_any (ops:=[.ref c.heap.objs.size,v]) G F J (by with_unfolding_all rfl)
noncomputable def lq(xs:List V)(lo hi:Option Int):List V:=(xs.drop (HT.sIx xs.length 0 lo)).take (HT.sIx xs.length xs.length hi-HT.sIx xs.length 0 lo)
theorem uB(xs:List V)(lo hi:Option Int):(lq xs lo hi).length<=xs.length:=by
 unfold lq
 rw[OL,List.length_drop]
 omega
noncomputable def ww(K:Frag):R2:=λx y H Q=>∃a b xs ys,x= .ref a/\y= .ref b/\SqT K H a xs/\SqT K H b ys/\xs≠[]/\xs.length+ys.length<=sizeLine/\
 (ys=[]->Q (.ref a) H)/\(ys≠[]->∀p,H p=none->Q (.ref p) (upd H p (.tup (xs++ys))))
theorem ak.nil_iff{xs:List V}{us:List Mh}(r:ak xs us):us=[]↔xs=[]:=by
 cases r with
 |nil=>simp
 |cons _ _=>simp
theorem FY:OpR X (OC .Add) (ww X.K):=by
 intro d s n H x y v u Q I i j h
 obtain⟨a,b,xs,ys,rfl,rfl,ha,k,l,f,q1,q2⟩:=h
 cases i
 cases j
 obtain⟨its,r1,m,_⟩:=I.tuple ha
 obtain⟨g,c,p2,_⟩:=I.tuple k
 refine HT.cat_tup m p2 (λz=>l (r1.nil_iff.mp z)) (λz=>⟨.ref a,H,I,rfl,q1 (c.nil_iff.mp z)⟩) (λz=>?_) (by rw[←r1.length,←c.length];exact f)
 refine⟨.ref s.heap.objs.size,_,I.laid (t':=s.toks) (o:= .tup (xs++ys)) (λb p q=>Mi _ q) (Mw _) ?_,rfl,q2 (λw=>z (c.nil_iff.mpr w)) _ (I.hok.fresh (Mw _))⟩
 exact⟨by rw[MJ];exact f,_,r1.append c,IsTup.new _ _⟩
end
noncomputable def ixN(n:Nat)(i:Int):Option Nat:=if 0<=i then(if i<n then some i.toNat else none)else if -(n:Int)<=i then some (i+n).toNat else none
noncomputable def atI{α:Type}(xs:List α)(i:Int):Option α:=(ixN xs.length i).bind λj=>xs[j]?
theorem vm{n:Nat}{i:Int}{j:Nat}(h:ixN n i=some j):seqIndex? i n=some j/\j<n/\-(n:Int)<=i/\i<n:=by
 unfold ixN at h
 by_cases b:0<=i
 ·rw[Mu b]at h
  by_cases a:i<n
  ·rw[Mu a]at h
   have e:i.toNat=j:=MQ h
   exact⟨by rw[seqIndex_of b a,e],by omega,by omega,a⟩
  ·rw[Mr a]at h;cases h
 ·rw[Mr b]at h
  by_cases a:-(n:Int)<=i
  ·rw[Mu a]at h
   have e:(i+n).toNat=j:=MQ h
   exact⟨by rw[VB (by omega) a,e],by omega,a,by omega⟩
  ·rw[Mr a]at h;cases h
theorem vR{α:Type}{xs:List α}{i:Int}{v:α}(h:atI xs i=some v):∃j,seqIndex? i xs.length=some j/\xs[j]?=some v/\j<xs.length/\-(xs.length:Int)<=i/\i<xs.length:=by
 unfold atI at h
 cases e:ixN xs.length i with
 |none=>rw[e]at h;cases h
 |some j=>
  rw[e]at h
  obtain⟨a,b,c,d⟩:=vm e
  exact⟨j,a,h,b,c,d⟩
theorem HG{α:Type}{xs:List α}{j:Nat}{v:α}(h:xs[j]?=some v):atI xs (j:Int)=some v:=by
 have a:j<xs.length:=(MF.mp h).1
 have e:ixN xs.length (j:Int)=some j:=by
  unfold ixN
  rw[Mu (by omega),Mu (by omega)];simp
 unfold atI;rw[e];exact h
noncomputable def p8(b:Expr):Prop:=∀o i,subscripted b false o i=operate [o,i] (getItem o i)
noncomputable def IxR(X:Cx)(r:R2):Prop:=
 ∀(c a:Expr) (b:List (Addr×Obj)) (s:Ml) (d:St) (H:Hp) (x y:V) (v u:Mh) (Q:VK),Inv X b d H s->aC x v->aC y u->r x y H Q->
  subscripted a false v u=operate [v,u] (getItem v u)->Mz (ML X.prog X.w) X.A (U2 c a v u) (EP X b d Q) X.xe s
noncomputable def MtR(X:Cx)(c:String)(r:V->List V->Hp->VK->Prop):Prop:=
 ∀(a:List (Addr×Obj)) (s:Ml) (b:St) (H:Hp) (x:V) (xs:List V) (v:Mh) (us:List Mh) (Q:VK),Inv X a b H s->aC x v->ak xs us->r x xs H Q->
  Mz (ML X.prog X.w) X.A (call (.builtin c) (v::us)) (EP X a b Q) X.xe s
section
variable{X:Cx}{a b:Expr}{ta tb:TE}{pos:Pos}
theorem IxR.or{r f:R2}(h:IxR X r)(h':IxR X f):IxR X (λx y H Q=>r x y H Q\/f x y H Q):=by
 intro c d e s g H x y v u Q I i j q hs
 rcases q with q|q
 ·exact h c d e s g H x y v u Q I i j q hs
 ·exact h' c d e s g H x y v u Q I i j q hs
theorem iN{r:R2}(d:IxR X r)(ha:PE X a ta)(e:PE X b tb)(hs:p8 b):PE X (.Subscript a b pos) (tOp r ta tb):=by
 intro c s f H Q I h
 exact Subscript_ (CG ha e I h λv u g x y i j k l q=>d a b c g f i x y v u Q j k l q (hs _ _))
noncomputable def wv(K:Frag):R2:=λx y H Q=>∃p xs i v,x= .ref p/\y= .int i/\SqL K H p xs/\atI xs i=some v/\Q v H
noncomputable def z9(K:Frag):R2:=λx y H Q=>∃p xs i v,x= .ref p/\y= .int i/\SqT K H p xs/\atI xs i=some v/\Q v H
theorem fE:IxR X (wv X.K):=by
 intro f g c s m H x y v u Q I A B h hs
 obtain⟨p,xs,i,z,rfl,rfl,C,D,q⟩:=h
 cases A
 obtain⟨t,rfl⟩:=B
 obtain⟨its,r,pl,L⟩:=I.list C
 obtain⟨j,e,E,M,F,G⟩:=vR D
 obtain⟨w,n,k⟩:=r.get E
 have J:=r.length
 have hn:=k8
 have d:EP X c m Q w s:=⟨z,H,I,k,q⟩
 by_cases o:0<=i
 ·have l:i.toNat=j:=by
   rw[seqIndex_of o G]at e
   exact MQ e
  exact item_listR pl.isList o (by omega) (by rw[l];simpa using n) d hs
 ·have l:(i+(its.toArray.size:Int)).toNat=j:=by
   rw[VB (by omega) F]at e
   rw[MG,←J]
   exact MQ e
  exact RQ (x:=w) pl.isList.typeIs slot_list_getitem.lookup
   (wpAny_getItem_list_neg (Q:=λr s'=>r=w/\EP X c m Q r s') pl.isList (by omega) (by rw[MG]<;>omega) (by omega) (by rw[l];simpa using n) ⟨rfl,d⟩) hs
theorem Jk:IxR X (z9 X.K):=by
 intro d e c s k H x y v u Q I l m h hs
 obtain⟨p,xs,i,z,rfl,rfl,n,o,q⟩:=h
 cases l
 obtain⟨t,rfl⟩:=m
 obtain⟨its,r,pl,E⟩:=I.tuple n
 obtain⟨j,A,B,F,G,J⟩:=vR o
 obtain⟨w,C,f⟩:=r.get B
 have D:=r.length
 have hn:=k8
 have g:EP X c k Q w s:=⟨z,H,I,f,q⟩
 exact RQ (x:=w) pl.typeIs slot_tuple_getitem.lookup
  (getItem_tuple (j:=j) (Q:=λr s'=>r=w/\EP X c k Q r s') pl (by omega) (by omega) (by rw[MG,←D];exact A) (by simpa using C) ⟨rfl,g⟩) hs
theorem wK(its:List Mh)(n j:Nat)(u:Mh):NT (·.setIfInBounds j u) {cls:= .type "list",data:= .seq its.toArray n}={cls:= .type "list",data:= .seq (its.set j u).toArray n}:=by
 simp[NT]
theorem Inv.lst{c:List (Addr×Obj)}{d:St}{H:Hp}{s:Ml}{p:Addr}{xs:List V}(I:Inv X c d H s)(h:H p=some (.lst xs)):
  ∃(its:List Mh) (n:Nat),ak xs its/\s.heap.get? p=some {cls:= .type "list",data:= .seq its.toArray n}/\xs.length<=sizeLine:=by
 obtain⟨z,its,n,r,e⟩:=I.hok p _ h
 exact⟨its,n,r,e,z⟩
theorem Inv.lstUpd{c:List (Addr×Obj)}{g:St}{H:Hp}{s:Ml}{p:Addr}{xs ys:List V}{its its':List Mh}{n d:Nat}{f:Obj->Obj}(I:Inv X c g H s)(h:H p=some (.lst xs))
  (j:s.heap.get? p=some {cls:= .type "list",data:= .seq its.toArray n}) (i:f {cls:= .type "list",data:= .seq its.toArray n}={cls:= .type "list",data:= .seq its'.toArray d}) (r:ak ys its') (k:ys.length<=sizeLine) (t:Nat):
  Inv X c g (upd H p (.lst ys)) {s with heap:=s.heap.update p f,toks:=t}:=by
 have e:(s.heap.update p f).get? p=some {cls:= .type "list",data:= .seq its'.toArray d}:=by
  rw[N8 f j (by rw[i]<;>rfl),i]
 refine I.write (x:=p) (e:=p) (by rw[h];trivial) (.inl rfl) (λb u l q=>(PY _ _ (Ne.symm l)).trans q) ⟨_,e⟩ ?_
 exact⟨k,its',d,r,e⟩
noncomputable def DG:V->V->V->Hp->(Hp->Prop)->Prop:=λo i v H Q=>∃p xs k j,o= .ref p/\i= .int k/\H p=some (.lst xs)/\ixN xs.length k=some j/\Q (upd H p (.lst (xs.set j v)))
theorem jO:K5 X DG:=by
 intro c s z H o i v F G u Q I A B C h
 obtain⟨p,xs,k,j,rfl,rfl,l,D,q⟩:=h
 cases A
 obtain⟨t,rfl⟩:=B
 obtain⟨its,n,r,e,E⟩:=I.lst l
 obtain⟨d,J,m,w⟩:=vm D
 have f:=r.length
 have hn:=k8
 have x:Inv X c z (upd H p (.lst (xs.set j v))) {s with heap:=s.heap.update p (NT (·.setIfInBounds j u))}:=
  I.lstUpd l e (wK its n j u) (r.set C j) (by rw[Nm];exact E) s.toks
 by_cases y:0<=k
 ·have g:k.toNat=j:=by
   rw[seqIndex_of y w]at d
   exact MQ d
  exact PySem.W.ki_setAt e y (by omega) (by rw[MG,←f];exact w) (by rw[g];exact⟨_,x,q⟩)
 ·have g:(k+(its.toArray.size:Int)).toNat=j:=by
   rw[VB (by omega) m]at d
   rw[MG,←f]
   exact MQ d
  exact PySem.W.ki_setBack e (by omega) (by rw[MG,←f];exact m) (by omega) (by rw[g];exact⟨_,x,q⟩)
theorem sD(lo c:Option Int)(n:Nat):(Px lo c none n).1=((HT.sIx n 0 lo:Nat):Int)/\(Px lo c none n).2.1=((HT.sIx n n c:Nat):Int)/\(Px lo c none n).2.2=1:=by
 refine⟨?_,?_,rfl⟩
 ·cases lo with
  |none=>simp[Px,HT.sIx]
  |some i=>
   simp only[Px,HT.sIx,Vb,show(1:Int)>0 by decide,Na]
   by_cases h:i<0
   ·simp only[h,Na]<;>omega
   ·simp only[h,Nh]<;>omega
 ·cases c with
  |none=>simp[Px,HT.sIx]
  |some i=>
   simp only[Px,HT.sIx,Vb,show(1:Int)>0 by decide,Na]
   by_cases h:i<0
   ·simp only[h,Na]<;>omega
   ·simp only[h,Nh]<;>omega
theorem qT(its:List Mh)(lo c:Option Int):Vq its.toArray lo c none=((its.drop (HT.sIx its.length 0 lo)).take (HT.sIx its.length its.length c-HT.sIx its.length 0 lo)).toArray:=by
 obtain⟨d,e,f⟩:=sD lo c its.toArray.size
 unfold Vq
 rw[d,e,f]
 simp only[sliceRange_one,pick_run,MG]<;>rfl
noncomputable def rSlL(K:Frag):V->Option Int->Option Int->Hp->VK->Prop:=λx lo c H Q=>∃a xs,x= .ref a/\SqL K H a xs/\∀p,H p=none->Q (.ref p) (upd H p (.lst (lq xs lo c)))
theorem uP:SlR X (rSlL X.K):=by
 intro e s l H x v m n lo d p Q I g hs pl i h
 obtain⟨a,xs,rfl,j,q⟩:=h
 cases g
 obtain⟨its,r,f,k⟩:=I.list j
 have c:=r.length
 refine⟨"list",_,slot_list_getitem.lookup,f.isList.typeIs,?_⟩
 refine U3 f.isList hs pl i .none (by simp) ?_ (by rw[MG]<;>omega)
 rw[qT,←c]
 refine⟨.ref s.heap.objs.size,_,I.laid (t':=s.toks) (o:= .lst (lq xs lo d)) (λb t q=>Mi _ q) (Mw _) ?_,rfl,q _ (I.hok.fresh (Mw _))⟩
 exact⟨MS (uB xs lo d) k,_,0,(r.drop (HT.sIx xs.length 0 lo)).take (HT.sIx xs.length xs.length d-HT.sIx xs.length 0 lo),MB _ rfl⟩
noncomputable def gj:V->Bool
 | .non=>true
 | .bl _=>true
 | .int _=>true
 | .str _=>true
 |_=>false
noncomputable def eqV:V->V->Bool
 | .non,.non=>true
 | .bl a,.bl b=>a==b
 | .bl a,.int b=>(if a then 1 else 0)==b
 | .int a,.bl b=>a==(if b then 1 else 0)
 | .int a,.int b=>a==b
 | .str a,.str b=>a==b
 |_,_=>false
theorem Ju{A:M8}{s:Ml}{y x:V}{u v:Mh}(d:aC y u)(c:aC x v)(f:gj y=true)(e:gj x=true):SeqAt.EqAt A s u v (eqV y x):=by
 cases y with
 |non=>
  cases d
  cases x with
  |non=>cases c;exact SeqAt.EqAt.same _
  |bl b=>cases c;exact SeqAt.EqAt.none_bool b
  |int b=>obtain⟨t,rfl⟩:=c;exact SeqAt.EqAt.none_int b t
  |str b=>obtain⟨t,rfl⟩:=c;exact SeqAt.EqAt.none_str b t
  |_=>exact MM (show false=true from e) Ms
 |bl a=>
  cases d
  cases x with
  |non=>cases c;exact SeqAt.EqAt.bool_none a
  |bl b=>cases c;exact SeqAt.EqAt.bool_bool a b
  |int b=>obtain⟨t,rfl⟩:=c;exact SeqAt.EqAt.bool_int a b t
  |str b=>obtain⟨t,rfl⟩:=c;exact SeqAt.EqAt.bool_str a b t
  |_=>exact MM (show false=true from e) Ms
 |int a=>
  obtain⟨t',rfl⟩:=d
  cases x with
  |non=>cases c;exact SeqAt.EqAt.int_none a t'
  |bl b=>cases c;exact SeqAt.EqAt.int_bool a t' b
  |int b=>obtain⟨t,rfl⟩:=c;exact SeqAt.EqAt.int_int a t' b t
  |str b=>obtain⟨t,rfl⟩:=c;exact TL a t' b t
  |_=>exact MM (show false=true from e) Ms
 |str a=>
  obtain⟨t',rfl⟩:=d
  cases x with
  |non=>cases c;exact SeqAt.EqAt.str_none a t'
  |bl b=>cases c;exact SeqAt.EqAt.str_bool a t' b
  |int b=>obtain⟨t,rfl⟩:=c;exact TM a t' b t
  |str b=>obtain⟨t,rfl⟩:=c;exact SeqAt.EqAt.str_str a t' b t
  |_=>exact MM (show false=true from e) Ms
 |_=>exact MM (show false=true from f) Ms
noncomputable def eqU(x:V)(u:Mh):Bool:=match u with
 | .none=>eqV .non x
 | .bool b=>eqV (.bl b) x
 | .int i _=>eqV (.int i) x
 | .str z _=>eqV (.str z) x
 |_=>false
theorem zi{x y:V}{u:Mh}(r:aC y u)(f:gj y=true):eqU x u=eqV y x:=by
 cases y with
 |non=>cases r;rfl
 |bl b=>cases r;rfl
 |int i=>obtain⟨t,rfl⟩:=r;rfl
 |str z=>obtain⟨t,rfl⟩:=r;rfl
 |_=>exact MM (show false=true from f) Ms
theorem jH{x:V}:∀{xs:List V} {us:List Mh},ak xs us->xs.all gj=true->us.any (eqU x)=xs.any λy=>eqV y x
 |_,_,.nil,_=>rfl
 |y::xs,u::us,.cons r t,f=>by
  rw[Q9,MU]at f
  rw[Qb,Qb,zi r f.1,jH t f.2]
theorem iq{A:M8}{s:Ml}{x:V}{v:Mh}(d:aC x v)(e:gj x=true):∀{xs:List V} {us:List Mh},ak xs us->xs.all gj=true->∀u∈us,SeqAt.EqAt A s u v (eqU x u)
 |_,_,.nil,_=>λu c=>by cases c
 |y::xs,u::us,.cons r t,f=>λg c=>by
  rw[Q9,MU]at f
  rcases MH.mp c with rfl|c
  ·rw[zi r f.1];exact Ju r d f.1 e
  ·exact iq d e t f.2 g c
noncomputable def inV(x:V)(xs:List V):Bool:=xs.any λy=>eqV y x
noncomputable def rIn(K:Frag)(neg:Bool):R2:=λx y H Q=>∃p xs,y= .ref p/\(SqL K H p xs\/SqT K H p xs)/\gj x=true/\xs.all gj=true/\Q (.bl (if neg then !inV x xs else inV x xs)) H
theorem yu:OpR X (Nw .In) (rIn X.K false):=by
 intro e s k H x y v u Q I f i h
 obtain⟨p,xs,rfl,c,g,fs,q⟩:=h
 cases i
 rcases c with c|c
 ·obtain⟨its,r,pl,j⟩:=I.list c
  refine SeqAt.in_listAt (eqU x) pl.isList (λw d=>iq f g r fs w (by simpa using d)) ⟨.bl _,H,I,rfl,?_⟩
  rw[show its.toArray.any (eqU x)=its.any (eqU x) by simp,jH r fs]
  exact q
 ·obtain⟨its,r,pl,j⟩:=I.tuple c
  refine SeqAt.in_tupleAt (eqU x) pl (λw d=>iq f g r fs w (by simpa using d)) ⟨.bl _,H,I,rfl,?_⟩
  rw[show its.toArray.any (eqU x)=its.any (eqU x) by simp,jH r fs]
  exact q
theorem kS:OpR X (Nw .NotIn) (rIn X.K true):=by
 intro e s k H x y v u Q I f i h
 obtain⟨p,xs,rfl,c,g,fs,q⟩:=h
 cases i
 rcases c with c|c
 ·obtain⟨its,r,pl,j⟩:=I.list c
  refine SeqAt.notIn_listAt (eqU x) pl.isList (λw d=>iq f g r fs w (by simpa using d)) ⟨.bl _,H,I,rfl,?_⟩
  rw[show its.toArray.any (eqU x)=its.any (eqU x) by simp,jH r fs]
  exact q
 ·obtain⟨its,r,pl,j⟩:=I.tuple c
  refine SeqAt.notIn_tupleAt (eqU x) pl (λw d=>iq f g r fs w (by simpa using d)) ⟨.bl _,H,I,rfl,?_⟩
  rw[show its.toArray.any (eqU x)=its.any (eqU x) by simp,jH r fs]
  exact q
theorem lw:cz X (.builtin "len") (λxs H Q=>∃p ys,xs=[.ref p]/\(SqL X.K H p ys\/SqT X.K H p ys)/\Q (.int ys.length) H):=by
 intro f s j H xs us Q I r h
 obtain⟨p,ys,rfl,d,q⟩:=h
 obtain⟨u,rfl,g⟩:=jL r
 cases g
 have hn:=k8
 rcases d with d|d
 ·obtain⟨its,e,pl,i⟩:=I.list d
  have c:=e.length
  exact Calls.call_len_list pl.isList (by simp only[MG]<;>omega) ⟨.int ys.length,H,I.tok _,⟨s.toks+1,by rw[MG,c]⟩,q⟩
 ·obtain⟨its,e,pl,i⟩:=I.tuple d
  have c:=e.length
  exact len_tuple pl (by simp only[MG]<;>omega) ⟨.int ys.length,H,I.tok _,⟨s.toks+1,by rw[MG,c]⟩,q⟩
theorem cY:cz X (.type "list") (λxs H Q=>∃p ys,xs=[.ref p]/\(SqL X.K H p ys\/SqT X.K H p ys)/\∀l,H l=none->Q (.ref l) (upd H l (.lst ys))):=by
 intro f s x H xs us Q I r h
 obtain⟨p,ys,rfl,g,q⟩:=h
 obtain⟨u,rfl,y⟩:=jL r
 cases y
 have i:∀(its:List Mh),ak ys its->ys.length<=sizeLine->∀(h':Heap) (c:Nat),(∀b v,s.heap.get? b=some v->h'.get? b=some v)->
   h'.get? s.heap.objs.size=some {cls:= .type "list",dict:=none,data:= .seq its.toArray c,slots:=#[]}->EP X f x Q (.ref s.heap.objs.size) {s with heap:=h'}:=λits d j h' c kp e=>
  ⟨.ref s.heap.objs.size,_,I.laid (t':=s.toks) kp (Mw _) (show bd X.prog X.w _ h' _ (.lst ys)from⟨j,its,c,d,e⟩),rfl,q _ (I.hok.fresh (Mw _))⟩
 rcases g with g|g
 ·obtain⟨its,d,pl,j⟩:=I.list g
  have k:=d.length
  obtain⟨o,m,t,n,hd⟩:=pl.isList
  exact call_list_seq p (.inl rfl) m t hd (λh' c kp e=>i its d j h' c kp e) (by simp only[MG]<;>omega)
 ·obtain⟨its,d,pl,j⟩:=I.tuple g
  have k:=d.length
  obtain⟨o,m,t,n,hd⟩:=pl
  exact call_list_seq p (.inr rfl) m t hd (λh' c kp e=>i its d j h' c kp e) (by simp only[MG]<;>omega)
theorem ff:cz X (.type "tuple") (λxs H Q=>∃p ys,xs=[.ref p]/\((SqL X.K H p ys/\∀l,H l=none->Q (.ref l) (upd H l (.tup ys)))\/(SqT X.K H p ys/\Q (.ref p) H))):=by
 intro c s g H xs us Q I r h
 obtain⟨p,ys,rfl,h⟩:=h
 obtain⟨u,rfl,m⟩:=jL r
 cases m
 rcases h with⟨d,q⟩|⟨d,q⟩
 ·obtain⟨its,f,pl,i⟩:=I.list d
  have j:=f.length
  refine call_tuple_list pl.isList (λh' kp=>?_) (by simp only[MG]<;>omega)
  have k:Inv X c g H {s with heap:=h'}:=I.kept (t':=s.toks) kp
  have n:Inv X c g (upd H h'.objs.size (.tup ys)) {s with heap:=h'.push {cls:= .type "tuple",data:= .seq its.toArray}}:=
   k.laid (t':=s.toks) (λb o e=>Mi _ e) (Mw _) (show bd X.prog X.w _ _ _ (.tup ys)from⟨i,its,f,IsTup.new _ _⟩)
  exact⟨.ref h'.objs.size,_,n,rfl,q _ (k.hok.fresh (Mw _))⟩
 ·obtain⟨its,f,pl,i⟩:=I.tuple d
  exact call_tuple_same pl ⟨.ref p,H,I,rfl,q⟩
noncomputable def tyV(K:Frag)(T:String)(x:V)(H:Hp):Prop:=match x with
 | .str _=>T="str"
 | .int _=>T="int"
 | .ref p=>(T="list"/\∃xs,SqL K H p xs)\/(T="tuple"/\∃o,K.lookup p=some o/\o.cls= .type "tuple"/\o.dict=none)\/
   (T="dict"/\((∃kvs,H p=some (.dK kvs))\/∃kvs,H p=some (.dT kvs)))\/(T="set"/\∃S n,H p=some (.set S n))
 |_=>False
theorem HL{f:List (Addr×Obj)}{j:St}{H:Hp}{s:Ml}{T:String}{x:V}{v:Mh}(I:Inv X f j H s)(r:aC x v)(ty:tyV X.K T x H):
  s.TypeIs v T/\∀a,v= .ref a->∃h,s.heap.get? a=some h/\h.dict=none:=by
 cases x with
 |str z=>
  obtain⟨t,rfl⟩:=r
  cases(show T="str"from ty)
  exact⟨typeIs_str s z t,λ_ e=>nomatch e⟩
 |int i=>
  obtain⟨t,rfl⟩:=r
  cases(show T="int"from ty)
  exact⟨typeIs_int s i t,λ_ e=>nomatch e⟩
 |ref p=>
  cases r
  rcases ty with⟨rfl,xs,k⟩|⟨rfl,o,d,l,hd⟩|⟨rfl,d⟩|⟨rfl,S,n,d⟩
  ·obtain⟨its,_,pl,_⟩:=I.list k
   refine⟨pl.isList.typeIs,λa e=>?_⟩
   cases e
   obtain⟨o,n,e,c,hd,_⟩:=pl
   exact⟨o,e,hd⟩
  ·refine⟨⟨o,I.kIn p o d,l⟩,λa e=>?_⟩
   cases e
   exact⟨o,I.kIn _ o d,hd⟩
  ·have z:∃o,s.heap.get? p=some o/\o.ExactDict:=by
    rcases d with⟨kvs,d⟩|⟨kvs,d⟩
    ·obtain⟨_,_,_,_,o,_,_,e,ex,_⟩:=I.hok p _ d
     exact⟨o,e,ex⟩
    ·obtain⟨_,_,_,_,o,_,_,e,ex,_⟩:=I.hok p _ d
     exact⟨o,e,ex⟩
   obtain⟨o,e,ex⟩:=z
   refine⟨⟨o,e,ex.1⟩,λa g=>?_⟩
   cases g
   exact⟨o,e,ex.2.1⟩
  ·obtain⟨o,_,_,_,e,ex,_⟩:=I.hok p _ d
   refine⟨⟨o,e,ex.1⟩,λa g=>?_⟩
   cases g
   exact⟨o,e,ex.2.1⟩
 |_=>exact NQ ty
noncomputable def tBM(K:Frag)(T:String)(r:V->List V->Hp->VK->Prop)(to:TE)(t:TA):TE:=λc H Q=>to c H λx d=>tyV K T x d/\t c d λxs e=>r x xs e Q
variable{o e:Expr}{es:List Expr}{to:TE}{t:TA}{name:Str}{apos cpos:Pos}{T id:String}{r:V->List V->Hp->VK->Prop}
theorem wz(n:PlainAttrs T)(slot:Slot T name id)(j:typeOf (.builtin id)=pure (.type "method_descriptor"))(hm:MtR X id r)(p:PE X o to)(ha:PA X (e::es) t)
  (f:PX o name X.env (eval o X.env)=eval o X.env:=by rfl)
  (i:((NZ cpos (Mx (e::es) X.env)).all (λx=>!x.1)&&(OK cpos (NW [] X.env)).all (λx=>x.1.isSome)
   &&decide ((e::es).length+([]:List QZ).length+(if([]:List QZ).isEmpty then 0 else 1)<30))=true:=by rfl)
  (g:(apos.endLine==cpos.line)=true:=by rfl) (hs:Mx (e::es) X.env=(false,eval e X.env)::Mx es X.env:=by rfl) (d:(NZ cpos (Mx es X.env)).any (·.1)=false:=by rfl):
  PE X (.Call (.Attribute o name apos) (e::es) [] cpos) (tBM X.K T r to t):=by
 intro c s k H Q I h
 refine VC f i g rfl (thn (p c s k H _ I h) λv q ⟨x,u,l,r1,ty,q1⟩=>?_)
 obtain⟨w,y⟩:=HL l r1 ty
 refine⟨T,id,n,slot,j,w,y,?_⟩
 have m:=ha cpos c q k u _ l q1
 rw[hs]at m⊢
 refine Ro (by show(false||(NZ cpos (Mx es X.env)).any (·.1))=false;rw[d]<;>rfl) (Ua ?_)
 exact thn m λus z ⟨vs,A,B,C,q2⟩=>hm c z k A x vs v us Q B r1 C q2
end
noncomputable def MtM(X:Cx)(c:String)(r:V->List V->Hp->VK->Prop):Prop:=
 ∀(a:List (Addr×Obj)) (s:Ml) (b:St) (H:Hp) (x:V) (xs:List V) (v:Mh) (us:List Mh) (Q:VK),Inv X a b H s->aC x v->ak xs us->r x xs H Q->
  Mz (ML X.prog X.w) X.A (call (.builtin c) (v::us)) (EP X a b Q) X.xe s
theorem ak.one:∀{x:V} {us:List Mh},ak [x] us->∃u,us=[u]/\aC x u
 |_,_,.cons r .nil=>⟨_,rfl,r⟩
theorem ak.reverse{xs:List V}{us:List Mh}(h:ak xs us):ak xs.reverse us.reverse:=by
 induction h with
 |nil=>exact .nil
 |cons r t ih=>rw[Q1,Q1];exact ak.append ih (.cons r .nil)
theorem ak.rep{xs:List V}{us:List Mh}(h:ak xs us):∀k:Nat,ak (MC k xs).flatten (MC k us).flatten
 |0=> .nil
 |k+1=>by
  rw[M3,M3,OD,OD]
  exact ak.append h (ak.rep h k)
theorem qD(its:List Mh):∀(k:Nat) (acc:List Mh),
  U7 (λa b=>a++b) acc.toArray (MC k its.toArray)=(acc++(MC k its).flatten).toArray
 |0,acc=>by simp
 |k+1,acc=>by
  have e:acc.toArray++its.toArray=(acc++its).toArray:=by simp
  have c:(acc++its)++(MC k its).flatten=acc++(MC (k+1) its).flatten:=by
   rw[M3,OD,NF]
  rw[←c,←qD its k (acc++its),←e,M3,List.foldl_cons]
section
variable{X:Cx}{pins:List (Addr×Obj)}{σ:St}{H:Hp}{s:Ml}{l b:Addr}{xs ys zs:List V}
theorem Inv.lset{its its':List Mh}{n:Nat}{f:Array Mh->Array Mh}{t':Nat}(I:Inv X pins σ H s)(a:H l=some (.lst xs))
  (e:s.heap.get? l=some {cls:= .type "list",data:= .seq its.toArray n}) (c:f its.toArray=its'.toArray) (d:ak ys its') (g:ys.length<=sizeLine):
  Inv X pins σ (upd H l (.lst ys)) {s with heap:=s.heap.update l (NT f),toks:=t'}:=by
 have q:=PySem.IsL.update e f
 rw[c]at q
 refine I.write (x:=l) (e:=l) (by rw[a];exact trivial) (.inl rfl) (λj u h i=>(PY s.heap (NT f) (Ne.symm h)).trans i) ⟨_,q⟩ ?_
 exact⟨g,its',_,d,q⟩
theorem Inv.lnew{its:List Mh}{t':Nat}(I:Inv X pins σ H s)(a:ak ys its)(c:ys.length<=sizeLine):
  Inv X pins σ (upd H s.heap.objs.size (.lst ys)) {s with heap:=s.heap.push {cls:= .type "list",data:= .seq its.toArray},toks:=t'}:=
 I.laid (λ_ _ q=>Mi _ q) (Mw _) ⟨c,its,0,a,MB _ rfl⟩
theorem Inv.fresh(I:Inv X pins σ H s):H s.heap.objs.size=none:=I.hok.fresh (Mw _)
theorem Inv.lstM(I:Inv X pins σ H s)(a:H l=some (.lst xs)):xs.length<=sizeLine/\∃(its:List Mh) (n:Nat),ak xs its/\xs.length=its.length/\s.heap.get? l=some {cls:= .type "list",data:= .seq its.toArray n}:=by
 obtain⟨z,its,n,r,e⟩:=I.hok l _ a
 exact⟨z,its,n,r,r.length,e⟩
theorem AQ{n:Nat}(h:n<=sizeLine):Qn n=false:=by
 unfold Qn
 exact M5 (by omega)
end
section
variable{X:Cx}
noncomputable def uV:V->List V->Hp->VK->Prop:=λx vs H Q=>∃l xs y,x= .ref l/\vs=[y]/\H l=some (.lst xs)/\xs.length<sizeLine/\Q .non (upd H l (.lst (xs++[y])))
theorem k6:MtM X "list.append" uV:=by
 intro a s g H x vs v us Q I c d h
 obtain⟨l,xs,y,rfl,rfl,b,i,q⟩:=h
 cases c
 obtain⟨u,rfl,f⟩:=d.one
 obtain⟨z,its,n,r,j,e⟩:=I.lstM b
 refine Ul F.slot_list_append ⟨_,e,rfl⟩ F.entry_list_append (Vr _ _) (Vi l its.toArray n u (by rw[MG];omega)) ⟨e,?_⟩
 refine⟨.non,_,I.lset (its':=its++[u]) b e (by simp) (r.append (.cons f .nil)) ?_,rfl,q⟩
 rw[MJ,Np]
 omega
noncomputable def rCat:R2:=λx y H Q=>∃l b xs a,x= .ref l/\y= .ref b/\H l=some (.lst xs)/\H b=some (.lst a)/\xs.length+a.length<=sizeLine/\∀p,H p=none->Q (.ref p) (upd H p (.lst (xs++a)))
theorem IR:OpR X (OC .Add) rCat:=by
 intro c s o H x y v u Q I d f h
 obtain⟨l,b,xs,p,rfl,rfl,g,hB,t,q⟩:=h
 cases d
 cases f
 obtain⟨z,its,n,r,w,e⟩:=I.lstM g
 obtain⟨A,a,B,i,j,k⟩:=I.lstM hB
 refine US e k ?_ (by rw[MG,MG];omega)
 have m:its.toArray++a.toArray=(its++a).toArray:=by simp
 rw[m]
 exact⟨.ref _,_,I.lnew (t':=s.toks) (r.append i) (by rw[MJ];omega),rfl,q _ I.fresh⟩
noncomputable def rRep:R2:=λx y H Q=>∃l k xs,x= .ref l/\y= .int k/\H l=some (.lst xs)/\-(2^63)<=k/\k<2^63/\xs.length*k.toNat<=sizeLine/\
 ∀p,H p=none->Q (.ref p) (upd H p (.lst (MC k.toNat xs).flatten))
theorem GO{α:Type}(xs:List α)(k:Nat):(MC k xs).flatten.length=k*xs.length:=by
 induction k with
 |zero=>simp
 |succ k ih=>rw[M3,OD,MJ,ih,Nat.succ_mul,Ue]
theorem IL:OpR X (OC .Mult) rRep:=by
 intro o s J H x y v u Q I w A h
 obtain⟨l,k,xs,rfl,rfl,B,C,D,p,q⟩:=h
 cases w
 obtain⟨t,rfl⟩:=A
 obtain⟨z,its,n,r,E,e⟩:=I.lstM B
 have c:its.toArray.size*k.toNat<=sizeLine:=by rw[MG,←E];exact p
 have d:¬its.toArray.size*k.toNat>(2^63-1)/8:=by
  have:(sizeLine:Nat)<=(2^63-1)/8:=by decide
  omega
 have f:¬(!Builtin.List.listFitsIndex k)=true:=by
  rw[fitsIndex_both C D]
  exact Ms
 have b:¬Qn (its.toArray.size*k.toNat)=true:=by
  rw[AQ c]
  exact Ms
 have g:U7 (λi j=>i++j) #[] (MC (if its.toArray.isEmpty=true then 0 else k.toNat) its.toArray)=(MC k.toNat its).flatten.toArray:=by
  have G:∀m:Nat,U7 (λi j=>i++j) #[] (MC m its.toArray)=(MC m its).flatten.toArray:=λm=>by
   have:=qD its m []
   rw[NA]at this
   exact this
  rw[G]
  cases its with
  |nil=>simp
  |cons a K=>rw[Mr (by simp)]
 refine wpAny_binaryOp_repeat_ref (T:="list") (U:="int") (by decide) ⟨_,e,rfl⟩ (λs'=>typeIs_int s' k t) noFill_list_mul F.fills_int_mul F.slot_int_rmul repeat_list F.slot_int_index.lookup
  (Ul F.slot_int_rmul (typeIs_int s k t) F.entry_int_rmul (F.args_int_rmul_2 _ _) (int___rmul___int_list k t l its.toArray n)
   ⟨e,rfl,⟨_,e,rfl⟩,Ul F.slot_list_mul ⟨_,e,rfl⟩ F.entry_list_mul (F.args_list_mul_2 _ _) (AutoListH.list___mul___list_int_3 l its.toArray n k t f d b) ⟨e,?_⟩⟩)
 rw[g]
 exact⟨.ref _,_,I.lnew (t':=s.toks) (r.rep k.toNat) (by rw[GO,OZ];exact p),rfl,q _ I.fresh⟩
end
section
variable{prog:Program}{w:MY}{A:M8}{E:Mh->Ml->Prop}{s:Ml}
end
section
variable{X:Cx}
end
end L2
namespace Att
open PySem PySem.W PySem.Calls PyProof.Rows
theorem oF{P:R9}{h:Heap}:∀(ns:List Int) (vs:List Mh),WellAll P h vs (ns.map WData.int)->T7 vs ns:=by
 intro ns
 induction ns with
 |nil=>
  intro vs w
  rw[Oj]at w
  cases w
  exact .nil
 |cons n ns ih=>
  intro vs w
  rw[ME]at w
  cases w with
  |cons a b=>
   cases a
   exact .cons _ _ (ih _ b)
theorem x3{l:OpenLaw}{n:Nat}(hn:l.most=some n){P:R9}{h:Heap}{args:List WData}{vals:List Mh}
  (b:l.row.toRowW.claim.pre args=true) (g:WellAll P h vals args):
  ∃a vs ns,vals=[My a]/\args=[WData.list (ns.map WData.int)]/\h.get? a=some {cls:= .type "list",data:= .seq vs.toArray}/\T7 vs ns/\ns.length<=n:=by
 have hsh:WShape.hasAll [] args [.list .int]=true:=(pre_splitW b).1
 have i:l.pre.holds [] {args:=args}=true:=(pre_splitW b).2
 obtain⟨d,r,rfl,j,k⟩:=hasAllW_cons hsh
 obtain rfl:=hasAllW_nil k
 obtain⟨xs,rfl,m⟩:=hasW_list j
 obtain⟨ns,rfl⟩:=items_int m
 have c:ns.length<=n:=by
  unfold OpenLaw.pre at i
  have e:(WTm.not (.lt (.lit (.int (n:Int))) (.len (.arg 0)))).holds [] {args:=[.list (ns.map .int)]}=true:=by
   have e:=(holds_andW i).1
   rw[hn]at e
   exact e
  have f:=condW_of e (w_not (w_lt w_lit (w_len_list (w_arg rfl))))
  rw[Mj]at f
  refine Nat.le_of_not_lt λq=>?_
  have o:(n:Int)<((ns.length:Nat):Int):=by omega
  first
   |(rw[MX o]at f;exact MM f (by decide))
   |(simp at f;omega)
 cases g with
 |cons p s=>
  cases s
  cases p with
  |list ho hall=>exact⟨_,_,ns,rfl,rfl,ho,oF ns _ hall,c⟩
theorem ym(l:OpenLaw)(args:List WData):l.row.toRowW.claim.post args (.bool true) args=true:=
 postW_of (r:=l.row.toRowW) (X:=(true==true))
  (show WShape.has [] (.bool true) .bool=true by first|rfl|decide|simp[WShape.has,WShape.arms,WShape.armsAll])
  (show(WTm.eq .res (.lit (.bool true))).value [] {args:=args,res:=some (.bool true),after:=args}=some (.bool (true==true))from w_eq_bool (w_res rfl) w_lit) rfl
theorem attach_call{l:OpenLaw}{n:Nat}{q:Program}{loose:List Str}{XP:(Str->Option Mh)->Heap->Prop}{YP:MY->Heap->Prop}{d:DefRec}
  (hn:l.most=some n) (k:d.params.defaults=[])
  (call:∀(w:MY) (s₀ b:Ml) (mg m:Str->Option Mh) (g:Addr) (o:Obj) (p cd c:Mh) (a:Addr) (vs:List Mh) (ns:List Int),
   Ground q loose [] XP w s₀ mg m b.heap->YP w b.heap->
   b.heap.get? g=some o->o.data= .func (docDef d.name d.params d.body d.scope p cd c)->b.heap.CodeRec cd d.name->mg d.name=some (.ref g)->
   b.heap.get? a=some {cls:= .type "list",data:= .seq vs.toArray}->T7 vs ns->ns.length<=n->b.gens=#[]->
   OX (ML l.prog w) S4 (.call (.ref g) ⟨[.ref a],[]⟩) (λr s'=>r= .ok (.ret (.bool true))/\OldK b.heap s'.heap/\s'.os=b.os/\QX s'.gens) b):
  WalkO q loose XP YP l.row.toRowW d [] (λf vs=>UY f vs):=by
 intro w s₀ b mg m G Y g o p cd c y kV z hd s v t A args vals as h x B u C
 obtain rfl:y= .none:=Dflts.none v k
 obtain rfl:kV= .none:=Dflts.noKw v
 obtain⟨a,vs,ns,rfl,rfl,i,e,j⟩:=x3 hn h u
 refine enter_call (Pb (call w s₀ b mg m g o p cd c a vs ns G Y z (fd_plain hd) s t i e j A) λr s' D=>?_)
 obtain⟨rfl,E,F,H⟩:=D
 exact⟨.inl ⟨.bool true,.bool true,[],rfl,λ_=>rfl,.bool true,ym l _,λ_=>⟨Rx,λ_ hm=>(nomatch hm)⟩⟩,E,F,H⟩
section
variable{prog:Program}{w:MY}{A:M8}{E:Mh->Ml->Prop}{s:Ml}{K:Frag}
end
end Att
namespace L2
open PySem PySem.Spec PyProof.Rows
theorem qb:∀{vs:List Mh} {ns:List Int},T7 vs ns->ak (ns.map V.int) vs
 |_,_,.nil=> .nil
 |_,_,.cons n t h=> .cons ⟨t,rfl⟩ (qb h)
noncomputable def CM(H:Hp):Prop:=∀b,H b=none\/∃o xs,H b=some (.frz o (.lst xs))
theorem BE{P:Program}{w:MY}{K:Frag}{mg D:Str->Option Mh}{CX:CXT}{k:Nat}{E a:Addr}{O:FuncData}{x:Str}{sp:Sp}{c:Ml}{vs:List Mh}{ns:List Int}
  (Q:K.In c.heap) (p:c.heap.Ns Oe mg) (g:c.heap.Ns Uk D) (G:∀x:Str,x≠"__name__"->D x=PM x) (t:c.heap.NoLimit) (Y:c.gens=#[])
  (ha:c.heap.get? a=some {cls:= .type "list",data:= .seq vs.toArray}) (R:T7 vs ns) (S:ns.length<=sizeLine) (Z:Room k S4)
  (F:∀base:Heap,K.In base->base.Ns Oe mg->FnOk P w K mg base CX k E O [x] sp) (l:∀(s:Ml) (u:Mh),Sg s O ⟨[u],[]⟩ [(x,u)])
  (I:∀H:Hp,CM H->SqL K H a (ns.map V.int)->sp [.ref a] H (λv _=>v= .bl true) λ_ _ _=>False)
  (J:∀H e s',CX [] H c (λ_ _ _=>False) e s'->False):
  OX (ML P w) S4 (.call (.ref E) ⟨[.ref a],[]⟩) (λr s'=>r= .ok (.ret (.bool true))/\OldK c.heap s'.heap/\s'.os=c.os/\QX s'.gens) c:=by
 have T:=qb R
 have y:=R.length
 --from an abstract heap in which nothing but the script may be tracked
 have j:∀H:Hp,CM H->SqL K H a (ns.map V.int)->HOk P w H c.heap->(∀b,H b≠none->b=a)->(H a≠none->K.lookup a=none)->
   OX (ML P w) S4 (.call (.ref E) ⟨[.ref a],[]⟩) (λr s'=>r= .ok (.ret (.bool true))/\OldK c.heap s'.heap/\s'.os=c.os/\QX s'.gens) c:=by
  intro H U hS hok W hK
  have f:∀{b:Addr} {o:Obj},c.heap.get? b=some o->H b=none->(j7 c.heap H).get? b=some o:=λe n=>BQ e n
  have L:∀{b:Addr} {o:Obj} {es:Array DictEntry} {ep:Nat},c.heap.get? b=some o->o.data= .dict es ep->H b=none:=λ{b o es ep} e d=>by
   cases q:H b with
   |none=>rfl
   |some u=>
    have M:b=a:=W b (by rw[q];simp)
    subst M
    rw[ha]at e;cases e
    have d':Data.seq vs.toArray _=Data.dict es ep:=d
    cases d'
  have i:∀{b:Addr} {m:Str->Option Mh},c.heap.Ns b m->(j7 c.heap H).Ns b m:=λ{b m} ⟨o,es,ep,e,d,r⟩=>⟨o,es,ep,f e (L e d),d,r⟩
  have A:K.In (j7 c.heap H):=λb o e=>f (Q b o e) (by
   cases q:H b with
   |none=>rfl
   |some u=>
    have M:b=a:=W b (by rw[q];simp)
    subst M
    rw[hK (by rw[q];simp)]at e;cases e)
  have hM:Mod K mg (j7 c.heap H):=⟨A,i p,⟨D,i g,G⟩,let ⟨mc,h1,h2⟩:=t;⟨mc,i h1,h2⟩⟩
  have e0:Env0 P w K mg (j7 c.heap H) S4 [] c H:=⟨rfl,hM,λb o e=>GF e,Ug (zb _ _),trivial,λb g=>MM (show b∈([]:List Addr)from g) (by simp),hok,.of_eq Y⟩
  refine Pb ((F _ A (i p)).run S4 [] c H ⟨[.ref a],[]⟩ [.ref a] [.ref a] _ _ Z e0 (l c (.ref a)) (.cons rfl .nil) (I H U hS)) λr s' h=>?_
  cases r with
  |error e=>exact(J H e s' h).elim
  |ok fl=>
   cases fl with
   |next=>exact NQ h
   |brk=>exact NQ h
   |cont=>exact NQ h
   |ret u=>
    obtain⟨v,H',os,bare,un,B,r',q⟩:=h
    have q':v= .bl true:=q
    subst q'
    obtain rfl:u=SZ true:=r'
    refine⟨rfl,OldK.of_keep λb o e=>?_,os,bare⟩
    cases q:H b with
    |none=>exact un.keep b o e q (by intro z;exact MM (show b∈([]:List Addr)from z) (by simp)) (by simp)
    |some u=>
     rcases U b with z|⟨ob,xs,z⟩
     ·rw[q]at z;cases z
     ·have z2:=un.frzs b ob _ z
      obtain⟨X,_⟩:=hok b _ z
      obtain⟨e2,_⟩:=B b _ z2
      rw[e]at X;cases X
      exact e2
 cases N:K.lookup a with
 |some o=>
  --the script is one of the module's own objects
  have e:=Q a o N
  rw[ha]at e
  cases e
  refine j (λ_=>none) (λ_=> .inl rfl) (.inr ⟨_,vs.toArray,_,N,rfl,rfl,rfl,by rw[MG,y];exact S,by simpa using T⟩) (λb u z=>by have C:(none:Option HO)=some u:=z;cases C) (λb z=>MM rfl z) λz=>MM rfl z
 |none=>
  refine j (λb=>if b=a then some (.frz {cls:= .type "list",data:= .seq vs.toArray} (.lst (ns.map V.int)))else none) (λb=>?_) (.inl (.inr ⟨{cls:= .type "list",data:= .seq vs.toArray},Mu rfl⟩)) (λb u z=>?_) (λb z=>?_) λ_=>N
  ·by_cases g:b=a
   ·exact .inr ⟨_,_,Mu g⟩
   ·exact .inl (Mr g)
  ·by_cases g:b=a
   ·have C:=(Mu g).symm.trans z
    cases C
    subst g
    exact⟨ha,by rw[Mj];exact S,vs,_,T,ha⟩
   ·have C:=(Mr g).symm.trans z
    cases C
  ·by_cases g:b=a
   ·exact g
   ·exact MM (Mr g) z
theorem walk_of{l:PySem.W.OpenLaw}{n k:Nat}{q:Program}{loose:List Str}{XP:(Str->Option Mh)->Heap->Prop}{YP:MY->Heap->Prop}{d:DefRec}{K:R9->Frag}{CX:MY->CXT}{sp:MY->Sp}{x:Str}
  (hn:l.most=some n) (r:n<=sizeLine) (t:d.params.defaults=[]) (D:Room k S4)
  (E:∀(w:MY) (h:Heap),YP w h->(K w.params).In h)
  (F:∀(w:MY) (mg:Str->Option Mh) (p:Addr) (h:Heap),(K w.params).In h->h.Ns Oe mg->mg d.name=some (.ref p)->
   ∃A:FuncData,(∀(s:Ml) (u:Mh),Sg s A ⟨[u],[]⟩ [(x,u)])/\
    ∀base:Heap,(K w.params).In base->base.Ns Oe mg->FnOk l.prog w (K w.params) mg base (CX w) k p A [x] (sp w))
  (y:∀(w:MY) (H:Hp) (a:Addr) (ns:List Int),ns.length<=n->CM H->SqL (K w.params) H a (ns.map V.int)->sp w [.ref a] H (λv _=>v= .bl true) λ_ _ _=>False)
  (z:∀(w:MY) (H:Hp) (s:Ml) (e:Mh) (s':Ml),CX w [] H s (λ_ _ _=>False) e s'->False):
  PySem.W.WalkO q loose XP YP l.row.toRowW d [] (λf vs=>UY f vs):=by
 refine Att.attach_call hn t λw s₀ j mg P p o Q cd I a vs ns G Y R hd J B m i c L=>?_
 have C:=E w _ Y
 obtain⟨A,M,hF⟩:=F w mg p _ C G.T.g B
 exact BE C G.T.g G.T.b G.T.builtins G.T.nolimit L m i (MS c r) D hF M (λH N O=>y w H a ns c N O) λH e s'=>z w H j e s'
end L2
namespace L2
open PySem PySem.Spec PyProof.Rows
noncomputable def am(s:Stmt)(j:Nat):Stmt:=match s with
 | .ClassDef _ _ _ body _ _ _ _ _ _ _=>body.getD j (.Pass ⟨0,0,0,0⟩)
 |_=> .Pass ⟨0,0,0,0⟩
noncomputable def ib(s:Stmt):Arguments:=match s with
 | .FunctionDef _ a _ _ _ _ _ _ _ _=>a
 |_=>{posonlyargs:=[],args:=[],vararg:=none,kwonlyargs:=[],kw_defaults:=[],kwarg:=none,defaults:=[]}
noncomputable def cb(s:Stmt):List Stmt:=match s with
 | .FunctionDef _ _ b _ _ _ _ _ _ _=>b
 |_=>[]
noncomputable def af(s:Stmt):Scope:=match s with
 | .FunctionDef _ _ _ _ _ _ sc _ _ _=>sc
 |_=>{kind:= .function,names:=[],isGenerator:=false,isCoroutine:=false}
noncomputable abbrev E0:St->XK:=λ_ _ _ _=>False
structure Fun (K:Frag) (x qual:Str) (st:Stmt) (f:Addr) (fd:FuncData):Prop where
 ex:∃(oc:Mh) (od:Option Addr) (kV doc pm:Mh) (an:Option Addr) (cdv ct:Mh) (osl:Array (Option Mh)),
  fd=PU x qual (ib st) (cb st) (af st) .none kV doc pm an cdv ct/\K.lookup f=some ⟨oc,od,.func fd,osl⟩/\Qr K cdv qual=true
 kp:RA K (.ref f)=true
section
variable{P:Program}{w:MY}{K:Frag}{mg:Str->Option Mh}{base:Heap}
end
theorem rK{A:M8}{k:Nat}(a:Room k A):A.units+1<cLine:=Og (Va (by decide:1<=64) _) a.units
theorem qh{n:Nat}(h:n<=1000):n<sizeLine:=Og h (by decide)
section
variable{X:Cx}
theorem pv(i:Nat){x:Str}{pos:Pos}(b:X.N[i]?=some x:=by rfl)(c:Vis X.env.scope x:=by first|exact Os rfl|exact PH (Os rfl)|exact PH (PH rfl))(hd:(x==("__debug__":Str))=false:=by decide)
  (a:(x==("__classdict__":Str))=false:=by decide):PE X (.Name x pos) (o6 i):=ID b c hd a
end
theorem iteT{A B:Prop}(h:A):if true=true then A else B:=by
 rw[Mu rfl]
 exact h
theorem ite2{c A B:Prop} [Decidable c](a:c->A)(b:¬c->B):if c then A else B:=by
 by_cases h:c
 ·rw[Mu h]
  exact a h
 ·rw[Mr h]
  exact b h
noncomputable def bv(H a:Hp):Prop:=∀b o,H b=some o->a b=some o
theorem bv.refl(H:Hp):bv H H:=λ_ _ h=>h
theorem bv.trans{H d e:Hp}(a:bv H d)(b:bv d e):bv H e:=λc o h=>b c o (a c o h)
theorem bv.free{H a:Hp}(e:bv H a){l:Addr}(h:a l=Option.none):H l=Option.none:=by
 cases q:H l with
 |none=>rfl
 |some o=>
  rw[e l o q]at h
  cases h
theorem cu:∀(names:List (Str×Pt)) (n:Nat) (acc:List (Str×Addr)),NU n names acc=NU n names []++acc
 |[],_,_=>rfl
 |(x,k)::r,n,acc=>by
  unfold NU
  split
  ·rw[cu r (n+1) ((x,n)::acc),cu r (n+1) [(x,n)],NF]
   rfl
  ·exact cu r n acc
theorem gH:∀{names:List (Str×Pt)} {n:Nat} {x:Str} {c:Addr},(x,c)∈NU n names []->(x,SR)∈names
 |[],_,_,_,h=>by cases h
 |(y,k)::r,n,x,c,h=>by
  unfold NU at h
  split at h
  ·rename_i a
   rw[cu]at h
   rcases NL.mp h with h|h
   ·exact Mo _ (gH h)
   ·obtain⟨rfl,_⟩:x=y/\c=n:=by simpa using h
    obtain rfl:k= .cell:=by simpa using a
    exact Mq
  ·exact Mo _ (gH h)
noncomputable def cj(cells:List (Str×Addr)):List (Str×Pt)->List (Str×Addr)->List (Str×Addr)
 |[],acc=>acc
 |(x,k)::r,acc=>if k== .free then cj cells r ((x,(cells.lookup x).getD 0)::acc)else cj cells r acc
theorem mem_cloF{cells:List (Str×Addr)}:∀{names:List (Str×Pt)} {acc:List (Str×Addr)} {x:Str} {c:Addr},(x,c)∈cj cells names acc->(x,c)∈acc\/((x,OB)∈names/\c=(cells.lookup x).getD 0)
 |[],_,_,_,h=> .inl h
 |(y,k)::r,acc,x,c,h=>by
  unfold cj at h
  split at h
  ·rename_i a
   obtain rfl:k= .free:=by simpa using a
   rcases mem_cloF h with h|⟨h,e⟩
   ·rcases MH.mp h with h|h
    ·cases h
     exact .inr ⟨Mq,rfl⟩
    ·exact .inl h
   ·exact .inr ⟨Mo _ h,e⟩
  ·rcases mem_cloF h with h|⟨h,e⟩
   ·exact .inl h
   ·exact .inr ⟨Mo _ h,e⟩
theorem nl{cells:List (Str×Addr)}:∀{names:List (Str×Pt)} {acc:List (Str×Addr)} {p:Str×Addr},p∈acc->p∈cj cells names acc
 |[],_,_,h=>h
 |(y,k)::r,acc,p,h=>by
  unfold cj
  split
  ·exact nl (Mo _ h)
  ·exact nl h
theorem nk{cells:List (Str×Addr)}:∀{names:List (Str×Pt)} {acc:List (Str×Addr)} {x:Str},(x,OB)∈names->(x,(cells.lookup x).getD 0)∈cj cells names acc
 |[],_,_,h=>by cases h
 |(y,k)::r,acc,x,h=>by
  unfold cj
  rcases MH.mp h with h|h
  ·cases h
   rw[Mu (by decide)]
   exact nl Mq
  ·split
   ·exact nk h
   ·exact nk h
theorem ku{α:Type}:∀{l:List (Str×α)} {x:Str} {c:α},(x,c)∈l->∃d,l.lookup x=some d
 |[],_,_,h=>by cases h
 |(y,d)::r,x,c,h=>by
  rw[Pn]
  cases a:x==y with
  |true=>exact⟨d,rfl⟩
  |false=>
   rcases MH.mp h with h|h
   ·cases h
    simp at a
   ·exact ku h
theorem cf{α:Type}:∀{l:List (Str×α)} {x:Str} {c:α},(l.map (·.1)).Nodup->(x,c)∈l->l.lookup x=some c
 |[],_,_,_,h=>by cases h
 |(y,d)::r,x,c,nd,h=>by
  rw[ME]at nd
  obtain⟨a,b⟩:=Nd.mp nd
  rw[Pn]
  rcases MH.mp h with h|h
  ·cases h
   simp
  ·have:x≠y:=λe=>a (e▸List.mem_map_of_mem (f:=(·.1)) h)
   rw[beq_eq_false_iff_ne.mpr this]
   exact cf b h
theorem pX{env:Env}(f:Str×Pt->List (Str×Addr)->Sem (ForInStep (List (Str×Addr))))
  (g:∀name kind cs,f (name,kind) cs=if kind== .free then(do let a ←cellOf env name;pure (.yield ((name,a)::cs)))else pure (.yield cs)):
  ∀(names:List (Str×Pt)) (acc:List (Str×Addr)),(∀y∈names,y.2= .free->∃c,env.cells.lookup y.1=some c)->forIn names acc f=pure (cj env.cells names acc)
 |[],_,_=>by rw[Pg];rfl
 |(x,k)::r,acc,h=>by
  rw[O3,g]
  unfold cj
  have i:∀y∈r,y.2= .free->∃c,env.cells.lookup y.1=some c:=λy j=>h y (Mo _ j)
  by_cases b:(k==OB)=true
  ·rw[Mu b,Mu b]
   obtain⟨c,l⟩:=h (x,k) Mq (by simpa using b)
   have d:env.cells.lookup x=some c:=l
   have e:cellOf env x=pure c:=by unfold cellOf;rw[d]
   rw[e,d]
   simp only[pure_bind]
   exact pX f g r _ i
  ·rw[Mr b,Mr b]
   simp only[pure_bind]
   exact pX f g r _ i
theorem xm{scope:Scope}{env:Env}(h:∀y∈scope.names,y.2= .free->∃c,env.cells.lookup y.1=some c):closureFor scope env=pure (cj env.cells scope.names []):=by
 simp only[closureFor]
 rw[pX (env:=env) _ (λname kind cs=>by cases a:kind==OB<;>simp[a]) scope.names [] h]
 rfl
theorem BZ{M:Ud}{A:M8}{E:Mh->Ml->Prop}{s:Ml}{scope:Scope}{globals:Addr}{cl:List (Str×Addr)}{a:Str}{env:Env}{Q:Env->Ml->Prop}
  (g:∀h':Heap,h'.Ns s.heap.objs.size (λ_=>none)->(∀b o,s.heap.get? b=some o->h'.get? b=some o)->
   (∀n c,(n,c)∈NU (s.heap.objs.size+1) scope.names []->h'.IsCell c none/\s.heap.objs.size+1<=c)->
   ((NU (s.heap.objs.size+1) scope.names []).Pairwise λx y=>x.2≠y.2)->
   Q (newEnv scope s.heap.objs.size globals (NU (s.heap.objs.size+1) scope.names cl) a none .none (some env) Uk) {s with heap:=h'}):
  Mz M A (Uu scope globals cl [] a none .none (some env)) Q E s:=by
 simp only[Uu,Option.isSome_some,Na]
 refine on (wpAny_alloc ?_)
 refine on (wpAny_layCells _ (λname kind cells=>by cases d:kind==SR<;>simp[d]) _ _ _ _ ?_)
 have ok:=cellsFrom_ok scope.names (s.heap.push {cls:= .type "dict",data:= .dict #[]}) (s.heap.objs.size+1) [] ⟨λ_ _ hm=>(nomatch hm),Rx⟩ (by rw[Nv];exact Mw _)
 rw[Nv]at ok
 rw[show({s with heap:=s.heap.push {cls:= .type "dict",data:= .dict #[]}}:Ml).heap.objs.size=s.heap.objs.size+1 from Nv ..]
 have f:=g (pushCells (s.heap.push {cls:= .type "dict",data:= .dict #[]}) scope.names) ((Heap.Ns.new s.heap (.type "dict")).keeps (pushCells_keeps _ _)) (λb o e=>pushCells_keeps _ _ b o (Mi _ e)) ok.empty ok.apart
 exact on (Mg (Mg f))
noncomputable abbrev aE(X:Cx)(a:List Str)(scope:Scope)(cl:List (Str×Addr))(C:Addr)(b:List Addr)(s:Ml)(H:Hp):Cx:=
 {X with N:=a,s₀:=s,H₀:=H,env:=compEnvC scope cl C X.env,outer:=X.stack,stack:=X.stack,ex:=b,fn:=λx=>scope.names.lookup x !=some .free,pn:=[],xe:=λ_ _=>False}
theorem mem_relabel{scope:Scope}{env:Env}{y:Str×Pt}(h:y∈(relabel scope env).names):y∈scope.names\/(y.2= .cell/\(y.1,OB)∈scope.names):=by
 obtain⟨⟨n,k⟩,hm,e⟩:=MN.mp h
 dsimp only at e
 split at e
 ·rename_i a
  cases e
  simp only[MU,OP]at a
  obtain⟨⟨a,_⟩,_⟩:=a
  subst a
  exact .inr ⟨rfl,hm⟩
 ·cases e
  exact .inl hm
theorem BN{X:Cx}{A:List (Addr×Obj)}{L:St}{H:Hp}{s:Ml}{Y vars:List Str}{caps:List Nat}{scope:Scope}{Z:List Addr}{h':Heap}(I:Inv X A L H s)
  (hk:scope.kind= .function) (g:(scope.names.map (·.1)).Nodup) (f:∀y∈scope.names,y.2= .free->X.env.kindOf y.1=some .cell\/X.env.kindOf y.1=some .free)
  (M:Y=vars++caps.map (λj=>X.N.getD j O9)) (O:∀j∈caps,j<X.N.length/\scope.names.lookup (X.N.getD j O9)=some .free)
  (D:∀b∈Z,eL X A H b) (P:∀b∈Z,∃o,s.heap.get? b=some o) (ns:h'.Ns s.heap.objs.size λ_=>none) (keep:∀b o,s.heap.get? b=some o->h'.get? b=some o)
  (J:∀n c,(n,c)∈NU (s.heap.objs.size+1) scope.names []->h'.IsCell c none/\s.heap.objs.size+1<=c) (ca:(NU (s.heap.objs.size+1) scope.names []).Pairwise λx y=>x.2≠y.2):
  Inv (aE X Y scope (NU (s.heap.objs.size+1) scope.names (cj X.env.cells scope.names [])) s.heap.objs.size Z s H) [] (MC vars.length none++caps.map (λj=>L.getD j none)) H {s with heap:=h'}:=by
 --the cells
 have old:∀{x:Str} {c:Addr},(x,c)∈cj X.env.cells scope.names []->X.env.cells.lookup x=some c/\(x,OB)∈scope.names:=λ{x c} h=>by
  rcases mem_cloF h with h|⟨hm,e⟩
  ·cases h
  ·obtain⟨d,hd⟩:=I.ok.has x (f _ hm rfl)
   rw[hd]at e
   exact⟨by rw[hd,e];rfl,hm⟩
 have a:∀{x:Str} {c:Addr},(NU (s.heap.objs.size+1) scope.names (cj X.env.cells scope.names [])).lookup x=some c->
   (x,c)∈NU (s.heap.objs.size+1) scope.names []\/(X.env.cells.lookup x=some c/\(x,OB)∈scope.names):=λ{x c} h=>by
  have h:=Ny h
  rw[cu]at h
  rcases NL.mp h with h|h
  ·exact .inl h
  ·exact .inr (old h)
 have freeC:∀{x:Str},(x,OB)∈scope.names->∃c,X.env.cells.lookup x=some c/\(NU (s.heap.objs.size+1) scope.names (cj X.env.cells scope.names [])).lookup x=some c:=λ{x} hm=>by
  obtain⟨d,hd⟩:=I.ok.has x (f _ hm rfl)
  have e:=nk (cells:=X.env.cells) (acc:=[]) hm
  obtain⟨c,K⟩:=ku (l:=NU (s.heap.objs.size+1) scope.names (cj X.env.cells scope.names [])) (x:=x) (c:=(X.env.cells.lookup x).getD 0) (by rw[cu];exact M4 _ e)
  rcases a K with z|⟨z,_⟩
  ·have B:=cf g (gH z)
   rw[cf g hm]at B
   cases B
  ·exact⟨c,z,K⟩
 have k:∀{x:Str} {c:Addr},X.env.cells.lookup x=some c->c<s.heap.objs.size:=λ{x c} h=>let ⟨v,q⟩:=I.cell x c h;q.lt
 have nofr:H s.heap.objs.size=none:=I.hok.fresh (Mw _)
 have Q:∀b∈frs X.stack,b∈X.env.locals::X.fs:=I.stkSub
 refine⟨⟨I.ok.mod,hk,I.ok.glob,I.ok.blt,Mw _,λx y c h1 h2=>?_,λx E=>?_,λx c hf h=>?_,I.ok.hd,I.ok.frames,.inl rfl,λb F=>⟨?_,λx c h e=>?_⟩,I.bs,MS I.ok.bsz I.sz,λb o e F=>?_,λb F hf=>?_,I.stack,I.stkFree⟩,
  rfl,I.bare,Un.kept keep,⟨_,ns,λi x v e1 w e3=>?_⟩,λx c h=>?_,nofr,λx c h=>?_,λp hp=>MM hp (by simp),I.hok.kept keep,?_⟩
 ·rcases a h1 with B|⟨B,_⟩<;>rcases a h2 with R|⟨R,_⟩
  ·exact name_of_addr ca B R
  ·exact MM (MP (k R) (MS (PV _) (J _ _ B).2)) (Nf _)
  ·exact MM (MP (k B) (MS (PV _) (J _ _ R).2)) (Nf _)
  ·exact I.ok.inj _ _ _ B R
 ·--has
  have E:(relabel scope X.env).names.lookup x=some .cell\/(relabel scope X.env).names.lookup x=some .free:=E
  have hm:(x,SR)∈scope.names\/(x,OB)∈scope.names:=by
   rcases E with E|E
   ·rcases mem_relabel (Ny E)with z|⟨_,z⟩
    ·exact .inl z
    ·exact .inr z
   ·rcases mem_relabel (Ny E)with z|⟨_,z⟩
    ·exact .inr z
    ·exact .inr z
  rcases hm with hm|hm
  ·have q:=Um scope.names (s.heap.objs.size+1) (cj X.env.cells scope.names []) (x:=x) (.inl (cf g hm))
   exact Th.mp q
  ·obtain⟨c,_,K⟩:=freeC hm
   exact⟨c,K⟩
 ·--cab
  rcases a h with z|⟨_,z⟩
  ·exact MS (PV _) (J _ _ z).2
  ·have z':(scope.names.lookup x !=some .free)=true:=hf
   rw[cf g z]at z'
   exact MM z' (by decide)
 ·obtain⟨o,e⟩:=P b F
  exact M6 (MI e)
 ·rcases a h with z|⟨z,_⟩
  ·obtain⟨o,e'⟩:=P b F
   subst e
   exact MM (MP (MI e') (MS (PV _) (J _ _ z).2)) (Nf _)
  ·exact(D b F).2.2.2.2.1 x c z e
 ·obtain⟨_,_,_,h4,_⟩:=D b F
  rcases h4 with z|z
  ·exact I.ok.noex b o e z
  ·exact MM (MP (MI (I.ok.bs b o e).1) z) (Nf _)
 ·obtain⟨_,h2,h3,_⟩:=D b F
  rcases MH.mp (Q b hf)with z|z
  ·exact h2 z
  ·exact h3 z
 ·--the names' values
  have hi:¬i<vars.length:=λhi=>by
   rw[Pr (by simpa using hi),N1]at w
   split at w<;>cases w
  have G:(vars++caps.map (λj=>X.N.getD j O9))[i]?=some x:=by rw[←M];exact e1
  rw[N4 (by omega)]at G
  rw[N4 (by simpa using hi)]at w
  rw[NO]at w
  cases q:caps[i-vars.length]? with
  |none=>rw[Mt,q]at w;cases w
  |some j=>
   rw[Mt,q]at G w
   have C:X.N.getD j O9=x:=MQ G
   have S:L.getD j none=some v:=MQ w
   obtain⟨hj,t⟩:=O j (MV q)
   rw[C]at t
   obtain⟨c,K,hc'⟩:=freeC (Ny t)
   have hNj:X.N[j]?=some x:=by
    rw[←C,Mp,Mn hj];rfl
   have T:L[j]?=some (some v):=by
    have W:j<L.length:=by rw[I.len];exact hj
    rw[Mp,Mn W]at S
    rw[Mn W]
    exact Nq some S
   have U:=f _ (Ny t) rfl
   obtain⟨m,hn,W⟩:=I.loc
   obtain⟨u,r,l⟩:=W j x v hNj T (U.elim (λz=> .inr (.inl z)) λz=> .inr (.inr z))
   refine⟨u,r,.inr ⟨?_,c,hc',?_⟩⟩
   ·rcases e3 with z|z|z
    ·exfalso
     rcases mem_relabel (Ny z)with y|⟨y,_⟩
     ·rw[cf g y]at t;cases t
     ·cases y
    ·exact .inl z
    ·exact .inr z
   ·rcases l with⟨l,_⟩|⟨_,c',e,z⟩
    ·exfalso
     rcases U with y|y
     ·have V:X.env.kindOf x=some .cell:=y
      rw[l]at V;cases V
     ·have V:X.env.kindOf x=some .free:=y
      rw[l]at V;cases V
    ·rw[K]at e
     cases e
     exact z.keeps keep
 ·rcases a h with z|⟨z,_⟩
  ·exact⟨none,(J _ _ z).1⟩
  ·obtain⟨v,q⟩:=I.cell x c z
   exact⟨v,q.keeps keep⟩
 ·rcases a h with z|⟨z,_⟩
  ·exact I.hok.fresh (MS (PV _) (J _ _ z).2)
  ·exact I.freeC x c z
 ·show _=Y.length
  rw[M,MJ,MJ,NO,Mj,Mj]
noncomputable abbrev TB:=St->Hp->(St->Hp->Prop)->Prop
inductive CKd where
 |L (e:Expr)|S (e:Expr)|D (k v:Expr)
instance:Coe Expr CKd:=⟨.L⟩
noncomputable def mkC(c:CKd)(gens:List No)(scope:Scope)(pos:Pos):Expr:=match c with
 | .L e=> .ListComp e gens scope pos
 | .S e=> .SetComp e gens scope pos
 | .D k v=> .DictComp k v gens scope pos
noncomputable def emC(c:CKd)(acc:Mh)(env:Env):Sem Unit:=match c with
 | .L e=>do let _ ←call (.builtin "list.append") [acc,←eval e env]
 | .S e=>do let v ←eval e env;Pc e.pos;let _ ←call (.builtin "set.add") [acc,v]
 | .D k v=>do
   let kv ←eval k env
   let vv ←PN [kv] (eval v env)
   match acc with
   | .ref d=>do
    Pc {k.pos with endLine:=v.pos.endLine,endCol:=v.pos.endCol}
    PN [kv,vv] (dictSet d kv vv)
   |_=>unsupported "internal:dictcomp"
noncomputable def gB(c:CKd)(gens:List No)(scope:Scope)(pos:Pos)(d:Nat)(acc:Mh)(env:Env)(k:Sem PySem.Fin):Sem PySem.Fin:=
 match gens[d+1]? with
 |some g'=>do
  let x ←eval g'.iter env
  Pc g'.iter.pos
  let x ←if g'.is_async !=0 then foldedIterable g'.iter x else Nj g'.iter env x
  let _ ←runOwn (.compStart (mkC c gens scope pos) (d+1) (←PN [x] (if g'.is_async !=0 then asyncIter x else Sb x)) acc env) env
  k
 |none=>do
  emC c acc env
  k
theorem uk{c:CKd}{a b:Expr}{e:List Expr}{gens:List No}{scope:Scope}{pos:Pos}{d:Nat}{it acc:Mh}{env:Env}(f:gens[d]?=some ⟨a,b,e,0⟩):
  compTurn (mkC c gens scope pos) d it acc env=(do
   Pc b.pos
   match ←Qh it with
   |none=>pure (.done .next)
   |some v=>
    QR a it v
    QO a env v
    let mut ok:=true
    for y in e do
     if ok then ok ←isTrue y env (eval y env)
    if ok then gB c gens scope pos d acc env (TR (.compLoop (mkC c gens scope pos) d it acc env))
    else TR (.compLoop (mkC c gens scope pos) d it acc env)):=by
 cases c<;>(
  unfold compTurn gB mkC emC
  dsimp only
  rw[f]
  dsimp only
  cases gens[d+1]?<;>rfl)
section
variable{prog:Program}{w:MY}{A:M8}{R:Vy->Ml->Prop}{s:Ml}
theorem AY{c:CKd}{a t:Expr}{u:List Expr}{gens:List No}{scope:Scope}{pos:Pos}{d:Nat}{it acc:Mh}{env:Env}(G:gens[d]?=some ⟨a,t,u,0⟩)(I:Nat->Ml->Prop)
  (B:∀n s,I n s->Mz (ML prog w) A (Qh it) (λr b=>match r with
   |none=>R (.ok .next) b
   |some v=>Mz (ML prog w) A (QR a it v) (λ_ g=>Mz (ML prog w) A (QO a env v) (λ_ l=>
    Mz (ML prog w) A (forIn u true λy r=>if r=true then do let ok ←isTrue y env (eval y env);pure (Q7 ok)else pure (Q7 r)) (λok i=>
     if ok=true then ∀(k:Sem PySem.Fin) (E:PySem.Fin->Ml->Prop) (F:Mh->Ml->Prop),(∀j m,m<n->I m j->Mz (ML prog w) A k E F j)->Mz (ML prog w) A (gB c gens scope pos d acc env k) E F i
     else ∃m,m<n/\I m i) (λ_ _=>False) l) (λ_ _=>False) g) (λ_ _=>False) b) (λ_ _=>False) s)
  (n:Nat) (h:I n s):
  OX (ML prog w) A (.compLoop (mkC c gens scope pos) d it acc env) R s:=by
 refine codeAny_loop rfl I (λn s hI=>?_) n h
 suffices z:Mz (ML prog w) A ((compTurn (mkC c gens scope pos) d it acc env).onRaise (λx=>do noteFrame x env;theTreesLotGoes x)) (λD s'=>match D with
   |Fin.done f=>R (Ol f) s'
   |Fin.again c'=>c'=Code.compLoop (mkC c gens scope pos) d it acc env/\∃m,m<n/\I m s') (λe s'=>R (Except.error e) s') s by cases c<;>exact z
 refine wpAny_noted ?_
 rw[uk G]
 refine on (N6 (on (M9 (B n s hI) (λr b o=>?_) λ_ _ h'=>h'.elim)))
 cases r with
 |none=>exact Mg o
 |some v=>
  refine on (M9 o (λ_ g q=>?_) λ_ _ h'=>h'.elim)
  refine on (M9 q (λ_ l C=>on (M9 C (λok i p=>?_) λ_ _ h'=>h'.elim)) λ_ _ h'=>h'.elim)
  cases ok with
  |false=>exact Mg ⟨rfl,p⟩
  |true=>exact p _ _ _ λj m hm hI=>Mg ⟨rfl,m,hm,hI⟩
theorem xU{c:CKd}{a b:Expr}{i:List Expr}{gens:List No}{scope:Scope}{pos:Pos}{d:Nat}{it acc:Mh}{env:Env}(m:gens[d]?=some ⟨a,b,i,0⟩)
  (l:OX (ML prog w) A (.compLoop (mkC c gens scope pos) d it acc env) R s)
  (h:Mz (ML prog w) A (Sb it) (λg s'=>OX (ML prog w) A (.compLoop (mkC c gens scope pos) d g acc env) R s') (λ_ _=>False) s):
  OX (ML prog w) A (.compStart (mkC c gens scope pos) d it acc env) R s:=by
 refine TZ ?_
 suffices z:Mz (ML prog w) A ((compStart (mkC c gens scope pos) d it acc env).onRaise (λx=>do noteFrame x env;Pc theWindowsPlace)) (λk s'=>match k with
   |Fin.done f=>R (Ol f) s'
   |Fin.again c'=>c'.quiet=true/\OX (ML prog w) A c' R s') (λe s'=>R (Except.error e) s') s by cases c<;>exact z
 refine wpAny_notedAt ?_
 unfold compStart
 have j:(clausesOf (mkC c gens scope pos))[d]?=some ⟨a,b,i,0⟩:=by cases c<;>exact m
 generalize (clausesOf (mkC c gens scope pos))[d]?=og at j⊢
 subst j
 show Mz _ _ (ask>>=_) _ _ s
 refine on (Qw (wpAny_ite ?_))
 split
 ·first
   |exact on (Mg (Mg (T4 rfl l)))
   |exact Mg (T4 rfl l)
 ·first
   |exact on (Pz (on (N6 (on (M9 h (λg s' h'=>Mg (T4 rfl h')) λ_ _ x=>x.elim)))))
   |(refine on (Pz ?_);show Mz _ _ (Pc b.pos>>=_) _ _ s;exact on (N6 (on (M9 h (λg s' h'=>Mg (T4 rfl h')) λ_ _ x=>x.elim))))
end
noncomputable def dH(X:Cx)(b:List Expr)(t:TT):Prop:=
 ∀(a:List (Addr×Obj)) (s:Ml) (d:St) (H:Hp) (Q:Bool->Hp->Prop),Inv X a d H s->t d H Q->
  Mz (ML X.prog X.w) X.A (forIn b true λc r=>if r=true then do let ok ←isTrue c X.env (eval c X.env);pure (Q7 ok)else pure (Q7 r)) (TP X a d Q) X.xe s
noncomputable def HS:TT:=λ_ H Q=>Q true H
theorem sR{X:Cx}:dH X [] HS:=λ_ _ _ H _ I h=>Mg ⟨H,I,h⟩
theorem AD{X:Cx}{c:Expr}{t:TT}(d:PT X c t):dH X [c] t:=λa s e H Q I h=>by
 simp only[O3,Pg,Na]
 exact on (on (M9 (d a s e H Q I h) (λb s' f=>Mg (Mg f)) λ_ _ x=>x))
noncomputable def PB(X:Cx)(c:CKd)(gens:List No)(scope:Scope)(pos:Pos)(d:Nat)(D:Addr)(t:TB):Prop:=
 ∀(a:List (Addr×Obj)) (s:Ml) (e:St) (H:Hp) (Q:St->Hp->Prop),Inv X a e H s->t e H Q->
  ∀(k:Sem PySem.Fin) (f:PySem.Fin->Ml->Prop) (g:Mh->Ml->Prop),(∀s' b h,Inv X a b h s'->Q b h->Mz (ML X.prog X.w) X.A k f g s')->Mz (ML X.prog X.w) X.A (gB c gens scope pos d (.ref D) X.env k) f g s
noncomputable def cx(J:It)(g:TG)(tt:TT)(j:TB):TB:=λc H Q=>∃W:Nat->Nat->St->Hp->Prop,(∃m,W 0 m c H)/\∀i m c H,W i m c H->
 (J.stop i H/\Q c H)\/(J.go i H/\∃N:St->Hp->Prop,(∀d e,N d e->∃f,f<m/\W (i+1) f d e)/\∀x e,J.yld i H x e->g x c e λa k=>tt a k λb h=>if b=true then j a h N else N a h)
noncomputable def xv(D:Addr)(c:TE):TB:=λa H Q=>c a H λv b=>∃xs,b D=some (.lst xs)/\xs.length<sizeLine/\Q a (upd b D (.lst (xs++[v])))
noncomputable def xu(b:TI)(c:It->TB):TB:=λa H Q=>b a H λJ d=>c J a d Q
section
variable{X:Cx}{c:CKd}{elt target iter:Expr}{ifs:List Expr}{gens:List No}{scope:Scope}{pos:Pos}{d:Nat}{D:Addr}
theorem qK{g:TG}{tt:TT}{tb:TB}(hg:gens[d]?=some ⟨target,iter,ifs,0⟩)(hc:X.calm=true)(G:X.xe=λ_ _=>False)(V:PG X target g)(Y:dH X ifs tt)(l:PB X c gens scope pos d D tb)
  {it:Addr} {y:List Addr} {R:Nat->Heap->Prop} {J:It} {a:List (Addr×Obj)} {s:Ml} {Z:St} {H:Hp} {Q:St->Hp->Prop}
  (I:Inv X a Z H s) (T:Turn X.prog X.w X.K target J y it R) (st:R 0 s.heap) (hf:∀b∈y,eL X a H b) (h:cx J g tt tb Z H Q):
  OX (ML X.prog X.w) X.A (.compStart (mkC c gens scope pos) d (.ref it) (.ref D) X.env) (λr s'=>r= .ok .next/\∃f j,Inv X a f j s'/\Q f j) s:=by
 obtain⟨W,⟨m0,w0⟩,L⟩:=h
 have p:∀{j:Hp},(∀b∈y,j b=none)->∀b∈y,eL X a j b:=λhn b l=>⟨hn b l,(hf b l).2⟩
 have v:OX (ML X.prog X.w) X.A (.compLoop (mkC c gens scope pos) d (.ref it) (.ref D) X.env) (λr s'=>r= .ok .next/\∃f j,Inv X a f j s'/\Q f j) s:=by
  refine AY hg (λn s'=>∃i f j,Inv X a f j s'/\R i s'.heap/\(∀b∈y,j b=none)/\W i n f j) ?_ m0 ⟨0,Z,H,I,st,λb l=>(hf b l).1,w0⟩
  rintro n s3 ⟨i,q,S,I3,M,O,w3⟩
  rcases L i n q S w3 with⟨stop,qn⟩|⟨go,N,hN,step⟩
  ·refine thn (T.done X rfl rfl rfl hc i a s3 q S _ I3 (p O) M stop) λr s4 ⟨hr,I4⟩=>?_
   subst hr
   exact⟨rfl,q,S,I4,qn⟩
  ·refine thn (T.item X rfl rfl rfl hc i a s3 q S _ I3 (p O) M go) λr s4 ⟨u,hr,h4⟩=>?_
   subst hr
   refine thn h4 λ_ s5 ⟨x,H5,I5,r5,y5,B,fr5⟩=>?_
   have I5':=I5.pinned (p fr5) (T.obj _ _ B)
   have TR:∀{t:St} {C:Hp} {E:Ml},Inv X (a++kR y s5.heap) t C E->N t C->∃m,m<n/\∃i f j,Inv X a f j E/\R i E.heap/\(∀b∈y,j b=none)/\W i m f j:=λ{t C E} F n7=>by
    obtain⟨m',hm,w7⟩:=hN t C n7
    refine⟨m',hm,i+1,t,C,F.unpinned,T.keep _ _ _ B λb l o e=>(F.pin (b,o) (M4 _ (M4 _ (g9 l e)))).1,λb l=>?_,w7⟩
    obtain⟨o,e,d⟩:=T.obj _ _ B b l
    exact(F.pin (b,o) (M4 _ (M4 _ (g9 l e)))).2.1
   have h6:=V _ s5 q H5 x u _ I5' r5 (step x H5 y5)
   rw[G]at h6
   refine thn h6 λ_ s6 ⟨P,H6,I6,q6⟩=>?_
   have h7:=Y _ s6 P H6 _ I6 q6
   rw[G]at h7
   refine thn h7 λb E ⟨C,F,U⟩=>?_
   cases b with
   |true=>
    rw[Mu rfl]at U⊢
    intro k Q' E' hk
    refine l _ E P C N F U k Q' E' λs8 σ8 H8 I8 n8=>?_
    obtain⟨m,hm,z⟩:=TR I8 n8
    exact hk s8 m hm z
   |false=>
    rw[Mr Ms]at U⊢
    exact TR F U
 exact xU hg v (T.self X.A 0 s _ _ st v)
theorem aS{g:TE}(o:gens[d+1]?=none)(p:PE X elt g)(b:X.xe=λ_ _=>False):PB X elt gens scope pos d D (xv D g):=by
 intro a s i H Q I h k x y t
 unfold gB
 rw[o]
 show Mz _ _ ((do let _ ←call (.builtin "list.append") [.ref D,←eval elt X.env])>>=λ_=>k) _ _ _
 have j:=p a s i H _ I h
 rw[b]at j
 refine on (on (M9 j (λu A ⟨v,B,l,r,xs,m,C,q⟩=>?_) λ_ _ f=>f.elim))
 obtain⟨z,its,n,w,E,e⟩:=l.lstM m
 refine on (Ul F.slot_list_append ⟨_,e,rfl⟩ F.entry_list_append (Vr _ _) (Vi D its.toArray n u (by rw[MG];omega)) ⟨e,?_⟩)
 refine Mg (t _ i _ (l.lset (its':=its++[u]) m e (by simp) (w.append (.cons r .nil)) ?_) q)
 rw[MJ,Np]
 omega
theorem pk{a b:Expr}{i:List Expr}{g:TG}{tt:TT}{u:TB}{w:TI}(y:gens[d+1]?=some ⟨a,b,i,0⟩)(A:X.calm=true)(j:X.xe=λ_ _=>False)(B:PI X a b w)
  (n:PG X a g) (o:dH X i tt) (C:PB X c gens scope pos (d+1) D u) (hs:∀x,Nj b X.env x=pure x:=by intro _;rfl):PB X c gens scope pos d D (xu w λJ=>cx J g tt u):=by
 intro l s E H Q I h k R S F
 unfold gB
 rw[y]
 have m:=B l s E H _ I h
 rw[j]at m
 refine on (M9 m (λv U m=>on (N6 ?_)) λ_ _ f=>f.elim)
 show Mz _ _ (Nj b X.env v>>=_) _ _ _
 refine on (Py (hs v) ?_)
 show Mz _ _ (PN [v] (Sb v)>>=_) _ _ _
 refine on (NI (M9 m (λG V K=>?_) λ_ _ f=>f.elim))
 obtain⟨it,W,Y,J,Z,e,L,T,p,f2,q⟩:=K
 subst e
 refine on (wpAny_runOwn (Pb (qK y A j n o C L T p f2 q) λr s' ⟨M,z⟩=>?_))
 subst M
 obtain⟨t,N,O,P⟩:=z
 exact F s' t N O P
end
noncomputable def jG(vars:List Str)(caps:List Nat)(a:St):St:=MC vars.length none++caps.map (λj=>a.getD j none)
noncomputable def Mks(X:Cx)(mk:Sem Mh)(e:Addr->HO):Prop:=∀(a:List (Addr×Obj)) (s:Ml) (d:St) (H:Hp) (E:Mh->Ml->Prop) (Q:Mh->Ml->Prop),Inv X a d H s->
 (∀c:Ml,Inv X a d (upd H s.heap.objs.size (e s.heap.objs.size)) c->(∀b o,s.heap.get? b=some o->c.heap.get? b=some o)->Q (.ref s.heap.objs.size) c)->Mz (ML X.prog X.w) X.A mk Q E s
theorem tw{X:Cx}:Mks X (newList []) λ_=> .lst []:=λa s c H E Q I h=>Nx (h _ (I.lnew (t':=s.toks) .nil (N2 _)) λb o e=>Mi _ e)
noncomputable def rq(vars:List Str)(caps:List Nat)(c:TI)(d:Addr->It->TB):TE:=λa H Q=>c a H λJ b=>∀D,b D=none->d D J (jG vars caps a) (upd b D (.lst [])) λ_ e=>Q (.ref D) e
structure CmpScope (X:Cx) (scope:Scope) (Nc vars:List Str) (caps:List Nat):Prop where
 kind:scope.kind= .function
 nd:(scope.names.map (·.1)).Nodup
 free:∀y∈scope.names,y.2= .free->X.env.kindOf y.1=some .cell\/X.env.kindOf y.1=some .free
 names:Nc=vars++caps.map (λj=>X.N.getD j O9)
 cap:∀j∈caps,j<X.N.length/\scope.names.lookup (X.N.getD j O9)=some .free
section
variable{X:Cx}{elt target iter:Expr}{ifs:List Expr}{rest:List No}{scope:Scope}{pos:Pos}{Nc vars:List Str}{caps:List Nat}{g:TG}{tt:TT}{tb:Addr->TB}{wi:TI}
noncomputable def K6(X:Cx)(a:List (Addr×Obj))(H:Hp)(C:Addr):Prop:=H C=none/\C≠X.env.locals/\X.s₀.heap.objs.size<=C/\(∀x c,X.env.cells.lookup x=some c->c≠C)/\∀p∈X.pn++a,p.1≠C
theorem gA{c:CKd}{mk:Sem Mh}{B:Addr->HO}(M:Mks X mk B){f:List (Addr×Obj)}{F:St}{H:Hp}{s:Ml}{it:Addr}{h:List Addr}{N:Nat->Heap->Prop}{J:It}{E:Mh->Ml->Prop}{Y:Addr->Hp->Prop}{RR:Mh->Addr->Vy->Ml->Prop}
  (hc:X.calm=true) (S:CmpScope X scope Nc vars caps)
  (G:∀(cl:List (Str×Addr)) (C:Addr) (h:List Addr) (s:Ml) (H:Hp),PG (aE X Nc scope cl C h s H) target g/\dH (aE X Nc scope cl C h s H) ifs tt/\∀D,PB (aE X Nc scope cl C h s H) c (⟨target,iter,ifs,0⟩::rest) scope pos 0 D (tb D))
  (I:Inv X f F H s) (T:Turn X.prog X.w X.K target J h it N) (st:N 0 s.heap) (O:∀b∈h,eL X f H b)
  (q:∀D,H D=none->cx J g tt (tb D) (jG vars caps F) (upd H D (B D)) λ_ k=>Y D k)
  (P:∀(D C:Addr) (s':Ml) (k:Hp) (m:Str->Option Mh),Inv X f F k s'->s'.heap.Ns C m->K6 X f k C->Y D k->RR (.ref D) C (.ok .next) s'):
  Mz (ML X.prog X.w) X.A mk (λacc t=>Mz (ML X.prog X.w) X.A (Uu scope X.env.globals (cj X.env.cells scope.names []) [] X.env.qual none .none (some X.env)) (λj u=>
   OX (ML X.prog X.w) X.A (.compStart (mkC c (⟨target,iter,ifs,0⟩::rest) scope pos) 0 (.ref it) acc {j with scope:=relabel scope X.env}) (RR acc j.locals) u) E t) E s:=by
 refine M f s F H _ _ I λi l y=>?_
 have Z:H s.heap.objs.size=none:=I.fresh
 have q3:=q s.heap.objs.size Z
 have Q:∀b∈h,∃o,i.heap.get? b=some o:=λb G=>let ⟨o,e,_⟩:=T.obj _ _ st b G;⟨o,y b o e⟩
 have R:∀b∈h,eL X f (upd H s.heap.objs.size (B s.heap.objs.size)) b:=λb a=>⟨by
  rw[upd_ne]
  ·exact(O b a).1
  ·obtain⟨o,e,_⟩:=T.obj _ _ st b a
   exact M6 (MI e),(O b a).2⟩
 generalize U:upd H s.heap.objs.size (B s.heap.objs.size)=H3 at l q3 R
 generalize s.heap.objs.size=D at Z U q3⊢
 refine BZ λh' ns keep ce ca=>?_
 have L:=BN l S.kind S.nd S.free S.names S.cap R Q ns keep ce ca
 obtain⟨b1,b2,b3⟩:=G (NU (i.heap.objs.size+1) scope.names (cj X.env.cells scope.names [])) i.heap.objs.size h i H3
 have V:N 0 h':=T.keep _ _ _ st λb G o e=>keep b o (y b o e)
 have f4:∀b∈h,eL (aE X Nc scope (NU (i.heap.objs.size+1) scope.names (cj X.env.cells scope.names [])) i.heap.objs.size h i H3) [] H3 b:=λb a=>
  ⟨(R b a).1,(L.ok.exf b a).1,L.ok.exfs b a,.inl a,(L.ok.exf b a).2,λp W=>MM W (by simp)⟩
 refine Pb (qK (X:=aE X Nc scope (NU (i.heap.objs.size+1) scope.names (cj X.env.cells scope.names [])) i.heap.objs.size h i H3) (gens:=⟨target,iter,ifs,0⟩::rest) (d:=0) rfl hc rfl b1 b2 (b3 D) L T V f4 q3) λr s' ⟨hr,σ',k,n,q'⟩=>?_
 subst hr
 obtain⟨m,hm,_⟩:=n.loc
 have C1:X.env.locals<i.heap.objs.size:=l.lt
 refine P D _ s' k m (l.call' (ch:=h) n.os n.base n.hok n.bare λb a=>?_) hm ⟨n.free,Ou C1,l.sz,λx c e z=>?_,λp W z=>?_⟩ q'
 ·obtain⟨_,h2,h3,h4,h5,h6⟩:=O b a
  exact⟨h4,h2,h5,h6⟩
 ·obtain⟨v,e'⟩:=l.cell x c e
  exact MM (z▸e'.lt) (Nf _)
 ·have:=MI (l.pin p W).1
  rw[z]at this
  exact MM this (Nf _)
theorem Inv.letgo{a:List (Addr×Obj)}{c:St}{H:Hp}{s:Ml}{C:Addr}{h':Heap}(I:Inv X a c H s)(o:K6 X a H C)(hs:MT C s.heap h'):Inv X a c H {s with heap:=h'}:=
 I.turned (t':=s.toks) (λb f d e=>(hs.2 b d).trans e) o.1 (Ne.symm (Ne.symm o.2.1)) (.inr o.2.2.1) o.2.2.2.1 o.2.2.2.2
theorem CmpScope.clo(S:CmpScope X scope Nc vars caps)(ok:X.Ok):closureFor scope X.env=pure (cj X.env.cells scope.names []):=xm λy a b=>ok.has y.1 (S.free y a b)
theorem CmpScope.loc(S:CmpScope X scope Nc vars caps):∀x∈scope.names,x.2= .local->scope.names.lookup x.1=some .local:=λx a b=>cf S.nd (by rw[←b];exact a)
theorem u7(i:X.calm=true)(S:CmpScope X scope Nc vars caps)(j:PI X target iter wi)
  (k:∀(cl:List (Str×Addr)) (C:Addr) (b:List Addr) (s:Ml) (H:Hp),PG (aE X Nc scope cl C b s H) target g/\dH (aE X Nc scope cl C b s H) ifs tt/\∀D,PB (aE X Nc scope cl C b s H) elt (⟨target,iter,ifs,0⟩::rest) scope pos 0 D (tb D))
  (hs:∀x,Nj iter X.env x=pure x:=by intro _;rfl):PE X (.ListComp elt (⟨target,iter,ifs,0⟩::rest) scope pos) (rq vars caps wi λD J=>cx J g tt (tb D)):=by
 intro a s l H Q I h
 rw[eval_ListComp]
 refine OQ (use:=none) rfl hs (S.clo I.ok) S.kind S.loc (M9 (j a s l H _ I h) (λv B n=>M9 n (λo E p=>?_) λ_ _ x=>x) λ_ _ x=>x)
 obtain⟨it,b,F,J,G,e,r,T,d,f2,q⟩:=p
 subst e
 refine gA (c:= .L elt) tw (RR:=λacc C=>Uo (ML X.prog X.w) X.A X.xe none _ acc C) i S k r T d f2 q λD C s' t m u ns y z=>?_
 exact⟨m,ns,λh' f=>⟨.ref D,t,u.letgo y f,rfl,z⟩⟩
theorem uY{i:Nat}{x:Str}{b d:Pos}(u:X.N.Nodup)(k:X.N[i]?=some x)(y:Loc X.env.scope x)(B:X.calm=true)(S:CmpScope X scope Nc vars caps)(E:PI X target iter wi)
  (F:∀(cl:List (Str×Addr)) (C:Addr) (j:List Addr) (s:Ml) (H:Hp),PG (aE X Nc scope cl C j s H) target g/\dH (aE X Nc scope cl C j s H) ifs tt/\∀D,PB (aE X Nc scope cl C j s H) elt (⟨target,iter,ifs,0⟩::rest) scope pos 0 D (tb D))
  (l:P5 (.ListComp elt (⟨target,iter,ifs,0⟩::rest) scope pos) (some (.Name x b)) d.line X.env=pure true:=by rfl)
  (hs:∀x,Nj iter X.env x=pure x:=by intro _;rfl) (G:X.fn x=true\/X.env.scope.names.lookup x=some .local:=by first|exact .inl rfl|exact .inr rfl|assumption):
  PS X (.Assign [.Name x b] (.ListComp elt (⟨target,iter,ifs,0⟩::rest) scope pos) d) (i6 (rq vars caps wi λD J=>cx J g tt (tb D)) (ef i)):=by
 intro f s K H D I h
 rw[exec_Assign_Name_used _ _ _ _ l]
 refine on (N6 (on ?_))
 show Mz _ X.A (do let _ ←comprehension (.ListComp elt (⟨target,iter,ifs,0⟩::rest) scope pos) scope X.env _ (newList []) false (eval iter X.env) (some (QO (.Name x b) X.env))) _ _ s
 refine on (M9 (OQ (use:=some (QO (.Name x b) X.env)) (Q:=λ_ s'=>SP X f D .next s') rfl hs (S.clo I.ok) S.kind S.loc
  (M9 (E f s K H _ I h) (λv s1 M=>M9 M (λO P R=>?_) λ_ _ e=>e) λ_ _ e=>e)) (λ_ s' U=>Mg (Mg U)) λ_ _ e=>e)
 obtain⟨it,j,tn,J,H2,e,n,T,o,f2,q⟩:=R
 subst e
 refine gA (c:= .L elt) tw (RR:=λacc C=>Uo (ML X.prog X.w) X.A X.xe (some (QO (.Name x b) X.env)) _ acc C) B S F n T o f2 q λA C s' V m W ns p Y=>?_
 show Mz _ X.A (QO (.Name x b) X.env (.ref A)) _ _ s'
 refine Tc (kH W u k y (v:= .ref A) rfl (λP n ⟨a,Z,ha⟩=>?_) G)
 have r:C≠a:=by
  rcases ha with rfl|ha
  ·exact p.2.1
  ·exact λz=>p.2.2.2.1 x a ha z.symm
 exact⟨m,ns.sameBut Z r,λh' t=>⟨_,V,n.letgo p t,Y⟩⟩
end
end L2
namespace L2
open PySem PySem.Spec
open Sem (wp)
open Builtin Builtin.ObjectAttr
noncomputable abbrev ci(C:Addr)(dx:Option Addr)(t:Addr):Obj:={cls:= .ref C,dict:=dx,data:= .fields #[.ref t,.none,.none,.none,.bool false,.none]}
structure XShape (h:Heap) (C:Addr) (bm:List Mh):Prop where
 at_:∃(nm q:Str) (N:Addr) (bs:List Mh) (hdct:Bool) (sn:List Str) (sub:List Mh) (ab:Bool) (col:Option Bool) (dd:Option Addr) (k0 k1 k2 k3 k5:Option Mh),
  h.get? C=some (excClassObj nm q C N bs bm hdct sn sub ab col dd k0 k1 k2 k3 k5 "ValueError.__new__")
 val:bm.contains (.type "ValueError")=true
 bas:bm.contains (.type "BaseException")=true
 att:bm.contains (.type "AttributeError")=false
 nam:bm.contains (.type "NameError")=false
section
variable{prog:Program}{w:MY}{A:M8}{E:Mh->Ml->Prop}{h:Heap}{g:Array GenState}{d:Drawn}{t:Nat}{os:RO}{C:Addr}{bm rest:List Mh}
theorem HA{R:Vy->Ml->Prop}(S:XShape h C bm)
  (l:R (.ok (.ret (.ref (h.objs.size+1)))) ⟨(h.push {cls:= .type "tuple",data:= .seq rest.toArray}).push (ci C none h.objs.size),g,d,t,os⟩) (b:rest.length<=sizeLine):
  OX (ML prog w) A (.builtin "ValueError.__new__" ⟨.ref C::rest,[]⟩) R ⟨h,g,d,t,os⟩:=by
 obtain⟨⟨nm,q,N,bs,hdct,sn,sub,ab,col,dd,k0,k1,k2,k3,k5,c⟩,m,hB,n,o⟩:=S
 have a:=Pa
 have e:=a.ends
 have f:(My C::bm).contains (.type "ValueError")=true:=by rw[OS,m,Sh]
 have i:(My C::bm).contains (.type "AttributeError")=false:=by rw[OS,n];rfl
 have j:(My C::bm).contains (.type "NameError")=false:=by rw[OS,o];rfl
 refine codeAny_builtinAt a.entry ?_
 unfold Builtin.«BaseException.__new__»
 refine wpAt_bind ?_
 show wpAt _ _ _ (stack>>=_) _ _ _
 refine wpAt_bind (wpAt_stack λp k=>wpAt_of_wpAny ?_)
 wp_walk
 refine wpAt_of_wpAny ?_
 rw[a.owner]
 repeat (first|with_reducible refine wpAny_madeHere_exc a.canon c ?_|with_reducible refine Ot c ?_|(with_reducible refine QW c ?_;first|rw[f]|rw[i]|rw[j])|wp_step)
 show R _ _
 rw[Nv]
 exact l
theorem re{K:Frag}{i:Addr}{Q:PySem.Fin->Ml->Prop}(X:K.In h)(S:XShape h C bm)(n:Om K (.ref C) "__init__"=some (some (.ref i)))(p:isFn K (.ref i)=true)(a:rest.length<=sizeLine)
  (s:Mz (ML prog w) A (call (.ref i) (.ref (h.objs.size+1)::rest)) (λr s'=>r= .none/\Q (.done (.ret (.ref (h.objs.size+1)))) s') E
   ⟨(h.push {cls:= .type "tuple",data:= .seq rest.toArray}).push {cls:= .ref C,data:= .fields #[.ref h.objs.size,.none,.none,.none,.bool false,.none]},g,d,t,os⟩):
  Mz (ML prog w) A (Builtin.«type.__call__» ⟨.ref C::rest,[]⟩) Q E ⟨h,g,d,t,os⟩:=by
 have u:=S
 obtain⟨⟨nm,q,N,bs,hdct,sn,sub,ab,col,dd,k0,k1,k2,k3,k5,f⟩,v,hB,B,D⟩:=S
 have l:=Pa
 repeat (first|with_reducible refine Ot f ?_|with_reducible refine wpAny_madeBy_exc f ?_|wp_step)
 refine codeAny_call_builtin_code (R5 _ l.quiet) (wpAny_check_new_subU l v (OwnTail.base (bmB:=bm)) f ?_)
 refine HA u ?_ a
 show Mz _ _ _ _ _ _
 have keep:∀b o,h.get? b=some o->((h.push {cls:= .type "tuple",data:= .seq rest.toArray}).push {cls:= .ref C,data:= .fields #[.ref h.objs.size,.none,.none,.none,.bool false,.none]}).get? b=some o:=λb o e=>Mi _ (Mi _ e)
 have j:=keep _ _ f
 have m:=X.keeps keep
 have c:((h.push {cls:= .type "tuple",data:= .seq rest.toArray}).push {cls:= .ref C,data:= .fields #[.ref h.objs.size,.none,.none,.none,.bool false,.none]}).get? (h.objs.size+1)=some {cls:= .ref C,data:= .fields #[.ref h.objs.size,.none,.none,.none,.bool false,.none]}:=by heap_get
 have k:(My C::bm).contains (.ref C)=true:=by simp
 unfold Rh
 repeat (first|with_reducible refine Ot c ?_|(with_reducible refine QW j ?_;rw[k])|wp_step)
 show Mz _ _ (typeLookup (.ref C) _) _ _ _
 refine(S7 m n).here ?_
 refine NI (on ((Vd m (.ref (h.objs.size+1)) (beq_iff_eq.mp p)).here ?_))
 refine on (M9 s (λr s' y=>?_) λ_ _ x=>x)
 obtain⟨rfl,z⟩:=y
 wp_walk
 exact z
theorem BY{K:Frag}{b:Addr}{Q:Mh->Ml->Prop}(X:K.In h)(S:XShape h C bm)(e:Om K (.ref C) "__init__"=some (some (.ref b)))(f:isFn K (.ref b)=true)(a:rest.length<=sizeLine)
  (i:Mz (ML prog w) (A.under (.builtin "type.__call__" ⟨.ref C::rest,[]⟩)) (call (.ref b) (.ref (h.objs.size+1)::rest)) (λr s'=>r= .none/\Q (.ref (h.objs.size+1)) s') E
   ⟨(h.push {cls:= .type "tuple",data:= .seq rest.toArray}).push {cls:= .ref C,data:= .fields #[.ref h.objs.size,.none,.none,.none,.bool false,.none]},g,d,t,os⟩):
  Mz (ML prog w) A (call (.ref C) rest) Q E ⟨h,g,d,t,os⟩:=by
 have j:=S
 obtain⟨⟨nm,q,N,bs,hdct,sn,sub,ab,col,dd,k0,k1,k2,k3,k5,c⟩,k,hB,l,m⟩:=S
 have f1:=tc_lookup
 have f2:=tc_bind (.ref C)
 have n:(⟨h,g,d,t,os⟩:Ml).TypeIs (.ref C) "type":=⟨_,c,rfl⟩
 refine Qx (TZ ?_)
 show Mz _ _ (callAny (.ref C) _) _ _ _
 repeat (any_goals (first|assumption|with_reducible refine Ot c ?_|wp_step))
 refine⟨rfl,?_⟩
 exact codeAny_call_builtin_at (R5 _ (by decide +kernel)) entry_typeCall (wpAny_check_type_call_sub c (re X j e f a i))
theorem pP{l:Obj}{M:Ud}{e:Addr}{Q:Unit->Ml->Prop}(S:XShape h C bm)(o:h.get? e=some l)(c:l.cls= .ref C)(p:Q () ⟨h,g,d,t,os⟩):
  Mz M A (Tu "ValueError.__init__" ⟨.ref e::rest,[]⟩) Q E ⟨h,g,d,t,os⟩:=by
 obtain⟨⟨nm,q,N,bs,hdct,sn,sub,ab,col,dd,k0,k1,k2,k3,k5,m⟩,r,hB,s,u⟩:=S
 have i:=Pa
 have k:(My C::bm).contains (.type "ValueError")=true:=by rw[OS,r,Sh]
 have j:=i.noStar
 simp only[Tu,i.initKind,i.initSplit,i.initRow]
 repeat (first|(with_reducible refine Ot o ?_;rw[c])|with_reducible refine Ot m ?_|(with_reducible refine QW m ?_;rw[k])|wp_step)
 refine RC ?_
 have f:∀(a b:String) (n:Nat),Bind.check ⟨.positional,"*","ValueError",.self,[⟨"args",.varPos,false⟩]⟩ a b n (Qk (λx=>x.fst) ({pos:=My e::rest}:Args).kw)=pure ():=λa b n=>check_star_args _ _ _ _ _ _
 rw[f]
 exact Mg p
theorem zf{dx:Option Addr}{t0 e:Addr}{Q:Mh->Ml->Prop}(S:XShape h C bm)(f:h.get? e=some (ci C dx t0))(a:rest.length<=sizeLine)
  (j:∀h':Heap,h'.get? e=some (ci C dx h.objs.size)->(∀b o,b≠e->h.get? b=some o->h'.get? b=some o)->Q .none ⟨h',g,d,t,os⟩):
  Mz (ML prog w) A (call (.builtin "ValueError.__init__") (.ref e::rest)) Q E ⟨h,g,d,t,os⟩:=by
 have i:=Pa
 refine Qx (QB i.init.plain i.initEntry (pP S f rfl ?_))
 have c:=Mi {cls:= .type "tuple",data:= .seq rest.toArray} f
 unfold Builtin.«BaseException.__init__»
 dsimp only
 refine on ?_
 refine Se ?_ a
 unfold UK
 refine on (on (ND c rfl (x:= .ref t0) rfl ?_))
 refine on (PD c rfl (by simp) ?_)
 dsimp only
 refine Sd (Mg ?_)
 refine j _ ?_ λb o k l=>?_
 ·rw[N8 _ c rfl]
  rfl
 ·rw[PY _ _ (Ne.symm k)]
  exact Mi _ l
end
noncomputable def eC:List Mh->Bool
 |[.type a,.type b,.type c,.type d]=>a=="ValueError"&&b=="Exception"&&c=="BaseException"&&d=="object"
 | .ref _::r=>eC r
 |_=>false
theorem sO(self:Mh):refuseLoop self "__setattr__" [.type "ValueError",.type "Exception",.type "BaseException",.type "object"]=pure ():=by kernel_rfl
theorem nV(self:Mh):∀{l:List Mh},eC l=true->refuseLoop self "__setattr__" l=pure ()
 |[.type a,.type b,.type c,.type d],e=>by
  simp only[eC,MU,OP]at e
  obtain⟨⟨⟨rfl,rfl⟩,rfl⟩,rfl⟩:=e
  exact sO self
 | .ref c::r,e=>by rw[refuseLoop_ref];exact nV self (by cases r<;>exact e)
theorem vC:∀{l:List Mh},eC l=true->l.contains (.type "object")=true
 |[.type a,.type b,.type c,.type d],e=>by
  simp only[eC,MU,OP]at e
  obtain⟨⟨⟨rfl,rfl⟩,rfl⟩,rfl⟩:=e
  decide
 | .ref c::r,e=>by rw[OS,vC (l:=r) (by cases r<;>exact e),Sh]
section
variable{prog:Program}{w:MY}{A:M8}{E:Mh->Ml->Prop}{s:Ml}{C e:Addr}{K:Frag}{cd:ClassData}{name:Str}{v:Mh}
theorem BX{R:Vy->Ml->Prop}{d:Tok}{j:Obj}(X:K.In s.heap)(l:s.heap.get? e=some j)(a:j.cls= .ref C)(k:clsIn K C=some cd)(g:eC cd.mro=true)(m:Om K (.ref C) name=some none)
  (h:∀b,Mz (ML prog w) A.in1 (storeInOwnDict (.ref e) (.ref C) (.str name d) name v b)
   (λi s'=>match i with| .done f=>R (.ok f) s'| .again c'=>c'.quiet=true/\OX (ML prog w) A c' R s') (λx s'=>R (.error x) s') s):
  OX (ML prog w) A (.call (.builtin "object.__setattr__") ⟨[.ref e,.str name d,v],[]⟩) R s:=by
 have c:=PySem.F.store_object
 have tp:OW (ML prog w) s.heap (typeOf (.ref e)) (.ref C):=by
  have:=(Tq (M:=ML prog w) (part:=some headPart) l)
  exact this.andThen (by rw[a];exact .now)
 have ne:cd.mro.isEmpty=false:=by cases q:cd.mro with|nil=>rw[q]at g;cases g|cons _ _=>rfl
 have sub:OW (ML prog w) s.heap (Rh (.ref e) (.type "object")) true:=tp.andThen (PySem.W.looks_mroIn X (by unfold mroIn;rw[k,Nz,Mr (by rw[ne];decide),vC g]))
 refine QB c.slot.plain c.entry (@PySem.W.check_slot (ML prog w) _ _ s "object.__setattr__" "object" "__setattr__" (.ref e) [.str name d,v] [] _ c.kind c.split sub (c.args (.ref e) (.str name d) v) ?_)
 have hm:OW (ML prog w) s.heap (mroOf (.ref C)) cd.mro:=(looks_clsIn X k).andThen .now
 rw[PySem.W.osa_eq,refuse_eq]
 refine on (on (tp.here (on (hm.here ?_))))
 rw[nV _ g]
 refine Mg (on (tp.here (on ((S7 X m).here (on (Mg ?_))))))
 exact h _
theorem zh{b:Obj}{Q:Unit->Ml->Prop}(X:K.In s.heap)(c:s.heap.get? e=some b)(a:b.cls= .ref C)(hs:Om K (.ref C) "__setattr__"=some (some (.builtin "object.__setattr__")))
  (h:OX (ML prog w) A (.call (.builtin "object.__setattr__") ⟨[.ref e,.str name s.toks,v],[]⟩) (λr s'=>match r with| .ok (.ret _)=>Q () s'| .ok _=>False| .error x=>E x s') {s with toks:=s.toks+1}):
  Mz (ML prog w) A (setAttr (.ref e) name v) Q E s:=by
 have tp:OW (ML prog w) s.heap (typeOf (.ref e)) (.ref C):=by
  have:=(Tq (M:=ML prog w) (part:=some headPart) c)
  exact this.andThen (by rw[a];exact .now)
 refine on (wpAny_mkText (on (on (on (tp _ _ _ _ (λ_ _ e=>e) (S7 X hs _ _ _ _ (λ_ _ e=>e) (NI ?_)))))))
 rw[PySem.F.store_object.slot.bind]
 refine on (Mg (on (Qx (Pb h λr s' z=>?_))))
 rcases r with x|(v|_|_|_)<;>first|exact z|exact Mg (Mg z)
theorem BW{t0:Addr}{Q:Unit->Ml->Prop}(X:K.In s.heap)(a:s.heap.get? e=some (ci C none t0))
  (hs:Om K (.ref C) "__setattr__"=some (some (.builtin "object.__setattr__"))) (l:clsIn K C=some cd) (hd:cd.hasDict=true) (n:eC cd.mro=true) (p:Om K (.ref C) name=some none)
  (q:∀h':Heap,h'.get? e=some (ci C (some s.heap.objs.size) t0)->h'.Ns1 s.heap.objs.size (λy=>if y=name then some v else none)->
   (∀b o,b≠e->s.heap.get? b=some o->h'.get? b=some o)->Q () {s with heap:=h',toks:=s.toks+2}):
  Mz (ML prog w) A (setAttr (.ref e) name v) Q E s:=by
 refine zh X a rfl hs (BX (s:={s with toks:=s.toks+1}) X a rfl l n p λb=>?_)
 refine on (Mg (on (on (Ux a (on (SY (s:={s with toks:=s.toks+1}) (looks_clsIn X l) ?_))))))
 rw[hd]
 refine on (wpAny_alloc ?_)
 have c:=Mi {cls:= .type "dict",data:= .dict #[]} a
 refine on (wpAny_update c (Mg ?_))
 have r:((s.heap.push {cls:= .type "dict",data:= .dict #[]}).update e λo=>{o with dict:=some s.heap.objs.size}).get? e=some (ci C (some s.heap.objs.size) t0):=N8 _ c rfl
 have d:s.heap.objs.size≠e:=Ou (MI a)
 have hn:((s.heap.push {cls:= .type "dict",data:= .dict #[]}).update e λo=>{o with dict:=some s.heap.objs.size}).Ns1 s.heap.objs.size λ_=>none:=by
  refine Uc ((Heap.Ns.new s.heap (.type "dict")).sameBut (NH ..) d)
 refine on (Mg (on ?_))
 refine wpAny_nsSet1 hn λh' f g=>?_
 obtain⟨z,t,u,h,i,j⟩:=f.count (Tt name v Qt.nil)
 refine on (wpAny_lookBehind h (by rw[i];exact pastItsLine_dict (MS j (by show 1<=sizeLine+1;decide))) ?_)
 refine Mg (q h' ((g.2 _ (Ne.symm d)).trans r) f λb o x m=>?_)
 have k:b≠s.heap.objs.size:=M6 (MI m)
 refine(g.2 _ k).trans ?_
 rw[PY _ _ (Ne.symm x)]
 exact Mi _ m
theorem zg{bm:List Mh}{dx:Option Addr}{t0:Addr}{env:Env}{M:Ud}{x:Sem Mh}{Q:Flow->Ml->Prop}(j:A.handled=none)
  (h:Mz M A x (λv a=>∃e t0 dx C bm,v= .ref e/\XShape a.heap C bm/\a.heap.get? e=some (ci C dx t0)/\E (.ref e) a) E s):Mz M A (raiseStmt env (some x) none) Q E s:=by
 unfold raiseStmt
 refine on (M9 h (λv a b=>?_) λ_ _ x=>x)
 obtain⟨e,t0,dx,C,bm,rfl,S,k,l⟩:=b
 obtain⟨⟨nm,q,N,bs,hdct,sn,sub,ab,col,dd,k0,k1,k2,k3,k5,i⟩,m,hB,n,o⟩:=S
 have c:(My C::bm).contains (.type "BaseException")=true:=by rw[OS,hB,Sh]
 have f:a.heap.get? e=some {cls:= .ref C,dict:=dx,data:= .fields #[.ref t0,.none,.none,.none,.bool false,.none]}:=k
 obtain⟨p,g,d,r,os⟩:=a
 repeat (first|with_reducible refine Ot f ?_|with_reducible refine Ot i ?_|(with_reducible refine QW i ?_;rw[c])|wp_step)
 exact wpAny_raiseNew_none j l
end
end L2
namespace L2
open PySem PySem.Spec PyProof.Rows
noncomputable def dg(C x:Addr)(dx:Option Addr):HO:= .ext λh=>∃t,h.get? x=some (ci C dx t)
theorem bd.there{P:Program}{w:MY}{H:Hp}{h:Heap}{a:Addr}{o:HO}(x:bd P w H h a o):∃b,h.get? a=some b:=by
 cases o with
 |lst xs=>obtain⟨_,_,_,_,e⟩:=x;exact⟨_,e⟩
 |tup xs=>obtain⟨_,_,_,_,e,_⟩:=x;exact⟨_,e⟩
 |dK kvs=>obtain⟨_,_,_,_,o,_,_,e,_⟩:=x;exact⟨_,e⟩
 |dT kvs=>obtain⟨_,_,_,_,o,_,_,e,_⟩:=x;exact⟨_,e⟩
 |set S n=>obtain⟨o,_,_,_,e,_⟩:=x;exact⟨_,e⟩
 |ins C dx fs=>obtain⟨_,_,_,e,_⟩:=x;exact⟨_,e⟩
 |own y=>exact x
 |xd fs=>obtain⟨_,⟨_,_,_,e,_⟩,_⟩:=x;exact⟨_,e⟩
 |rng lo hi=>obtain⟨_,_,_,e⟩:=x;exact⟨_,e⟩
 |frz b u=>obtain⟨e,_⟩:=x;exact⟨_,e⟩
 |tbl ps=>exact⟨_,(show h.get? a=some _ from x)⟩
 |met f y=>exact⟨_,(show h.get? a=some _ from x)⟩
 |ext φ=>obtain⟨_,e,_⟩:=x;exact e
theorem pQ{P:Program}{w:MY}{H:Hp}{h:Heap}{C x t:Addr}{dx:Option Addr}(e:h.get? x=some (ci C dx t)):bd P w H h x (dg C x dx):=
 ⟨⟨t,e⟩,⟨_,e⟩,λ_ _ ⟨t,a⟩ k=>⟨t,k _ a⟩⟩
theorem kd{P:Program}{w:MY}{H:Hp}{h:Heap}{C x:Addr}{dx:Option Addr}(q:bd P w H h x (dg C x dx)):∃t,h.get? x=some (ci C dx t):=q.1
noncomputable def ft(H:Hp)(x:Addr):Hp:=λb=>if b=x then none else H b
theorem zo{H:Hp}{x:Addr}:ft H x x=none:=by unfold ft;rw[Mu rfl]
theorem ia{H:Hp}{x b:Addr}(h:b≠x):ft H x b=H b:=by unfold ft;rw[Mr h]
theorem zn{H:Hp}{x b:Addr}{o:HO}(h:ft H x b=some o):b≠x/\H b=some o:=by
 unfold ft at h
 split at h
 ·cases h
 ·exact⟨by assumption,h⟩
structure Flown (P:Program) (w:MY) (outer:List Env) (H:Hp) (s:Ml) (E:XK) (x C:Addr) (H':Hp) (s':Ml):Prop where
 os:s'.os=s.os
 bare:QX s'.gens
 un:Un (frs outer) [] H H' s.heap s'.heap
 hok:HOk P w H' s'.heap
 tr:∃(oe:Obj) (vs:Array Mh) (T:Addr) (oT:Obj) (ts:Array Mh) (a0:Mh),s'.heap.get? x=some oe/\(oe.cls= .ref C/\vs[0]?=some a0)/\oe.data= .fields vs/\vs[1]?=some (.ref T)/\T≠x/\s'.heap.get? T=some oT/\oT.data= .fields ts/\ts[3]?=some .none/\H' T=none/\s.heap.get? T=none
 xn:H' x=none
 xs:s.heap.get? x=none
 wish:E (.ref C) none H'
noncomputable def CXE(P:Program)(w:MY):CXT:=λouter H s E e s'=>∃x C a,e= .ref x/\Flown P w outer H s E x C a s'
theorem qx{X:Cx}{k:List (Addr×Obj)}{Q:St}{H f:Hp}{s s':Ml}{h':Heap}{ext:List Addr}{x C:Addr}{a0:Mh}{E:XK}(I:Inv X k Q H s)(i:X.stack=X.env::X.outer)(l:X.env.frame=some X.env.locals)(R:X.ex=[])
  (os:s'.os=X.s₀.os) (bare:QX s'.gens) (g:Un (frs X.stack) [] X.H₀ f X.s₀.heap s'.heap) (hok:HOk X.prog X.w f s'.heap) (D:∀b∈frs X.stack,f b=none)
  (d:∀b∈ext,X.s₀.heap.get? b=none/\f b=none) (N:x∈ext) (wish:E (.ref C) none f)
  (L:Heap.LeftW (S5 s'.heap (ext++frs X.stack)) (X.env::X.outer) x (.ref C) a0 s'.heap h'):Flown X.prog X.w X.outer X.H₀ X.s₀ E x C f {s' with heap:=h'}:=by
 obtain⟨S,L2,U,V⟩:=L
 have m:∀b∈frs X.outer,b∈frs X.stack:=λb c=>by
  rw[i];unfold frs;rw[NN,l];exact Mo _ c
 have j:∀b∈frs X.stack,b=X.env.locals\/b∈frs X.outer:=λb c=>by
  rw[i]at c;unfold frs at c;rw[NN,l]at c
  exact MH.mp c
 have F:∀b o,X.s₀.heap.get? b=some o->b≠X.env.locals:=λb o e=>M6 (MP (MI e) I.ok.above)
 have stay:∀b o,s'.heap.get? b=some o->b∉ext->b∉frs X.stack->h'.get? b=some o:=λb o e G W=>
  S b o (hideAll_get _ e λhm=>(NL.mp hm).elim G W)
 have p:∀b o,X.s₀.heap.get? b=some o->b∉ext:=λb o e c=>by rw[(d b c).1]at e;cases e
 have h:∀b∈frs X.stack,∃o,h'.get? b=some o/\∀vs,o.data≠ .fields vs:=λb c=>(L2.mem (by rw[←i];exact c)).2
 obtain⟨Y,vs,T,Z,O,he,hc,hd,G,r,J,P,t,h3⟩:=U
 have v:f T=none/\X.s₀.heap.get? T=none:=by
  by_cases hm:T∈ext++frs X.stack
  ·rcases NL.mp hm with hm|hm
   ·exact⟨(d T hm).2,(d T hm).1⟩
   ·obtain⟨o,e,nf⟩:=h T hm
    rw[P]at e;cases e
    exact MM t (nf O)
  ·have hs:s'.heap.get? T=none:=by
    cases q:s'.heap.get? T with
    |none=>rfl
    |some o=>rw[hideAll_get _ q hm]at r;cases r
   constructor
   ·cases q:f T with
    |none=>rfl
    |some o=>obtain⟨ob,e⟩:=(hok T o q).there;rw[hs]at e;cases e
   ·cases q:X.s₀.heap.get? T with
    |none=>rfl
    |some o=>obtain⟨ob,e⟩:=g.there T o q (by simp);rw[hs]at e;cases e
 refine⟨os,bare,⟨λb o e n c _=>?_,λb o e n c _=>?_,λb o e n c=>g.free b o e n c,λb o e _=>?_,g.tups,g.frzs,g.tbls⟩,λa o e=>?_,⟨Y,vs,T,Z,O,a0,he,hc,hd,G,J,P,t,h3,v.1,v.2⟩,(d x N).2,(d x N).1,wish⟩
 ·have nf:b∉frs X.stack:=λz=>(j b z).elim (F b o e) c
  exact stay b o (g.keep b o e n nf (by simp)) (p b o e) nf
 ·obtain⟨sl,y⟩:=g.slot b o e n (m b c) (by simp)
  obtain⟨_,K,B,nf⟩:=I.ok.funs.mem c
  rw[e]at B;cases B
  obtain⟨M,e3⟩:=V b _ y nf
  exact⟨M,e3⟩
 ·obtain⟨K,y⟩:=g.there b o e (by simp)
  by_cases c:b∈frs X.stack
  ·obtain⟨o2,B,_⟩:=h b c
   exact⟨o2,B⟩
  ·exact⟨K,stay b K y (p b o e) c⟩
 ·refine(hok a o e).stay (λb u c y=>?_) (λ_ q=>q) λ_ _ q=>q
  have A:f b≠none:=by
   rcases c with rfl|c
   ·rw[e];simp
   ·rw[c];simp
  exact stay b u y (λz=>A (d b z).2) λz=>A (D b z)
theorem qC{h base:Heap}{as:List Addr}{l:List Env}(d:h.FunFrames base l)(c:∀b∈frs l,b∈as):h.FunFrames (S5 h as) l:=
 PySem.W.funFrames_hide d λenv e a ha=>c a (by unfold frs;exact QE.mpr ⟨env,e,ha⟩)
theorem FW{X:Cx}{E G:XK}(c:X.stack=X.env::X.outer)(f:X.env.frame=some X.env.locals)(g:X.ex=[])(O:∀cls dx H,G cls dx H->E cls dx H)
  {i:List (Addr×Obj)} {P:St} {H:Hp} {s s':Ml} {e:Mh} (I:Inv X i P H s) (h:CXE X.prog X.w X.stack H s G e s') {Q:Mh->Ml->Prop}:
  Mz (ML X.prog X.w) X.A (leaving X.env e) (λ_ m=>CXE X.prog X.w X.outer X.H₀ X.s₀ E e m) Q s':=by
 obtain⟨x,C,J,rfl,os,bare,un,hok,⟨R,vs,T,S,U,a0,V,W,hd,Y,n,Z,p,h3,t,u⟩,xn,xs,wish⟩:=h
 have nofs:∀b∈X.fs,b∈frs X.stack:=λb a=>by
  rw[c];unfold frs;rw[NN,f];exact Mo _ a
 have K:Un (frs X.stack) [] X.H₀ H X.s₀.heap s.heap:=by
  have b:=I.base
  rw[g]at b
  exact b.mono nofs λ_ z=>z
 have U0:=K.trans un
 have j:∀b,s.heap.get? b=none->X.s₀.heap.get? b=none:=λb e=>by
  cases q:X.s₀.heap.get? b with
  |none=>rfl
  |some o=>obtain⟨o',M⟩:=K.there b o q (by simp);rw[e]at M;cases M
 have d:=I.stack
 have k:s'.heap.FunFrames X.base X.stack:=by
  have all:∀(l:List Env),(∀b∈frs l,b∈frs X.stack)->s.heap.FunFrames X.base l->s'.heap.FunFrames X.base l:=by
   intro l
   induction l with
   |nil=>intro _ _;trivial
   |cons env r ih=>
    intro hs hl
    obtain⟨hk,⟨L,o,v,hn,y,B⟩,hr⟩:=hl
    have N:L∈frs X.stack:=hs L (by unfold frs;rw[NN,v];exact Mq)
    obtain⟨sl,e⟩:=un.slot L o y (I.stkFree L N) N (by simp)
    exact⟨hk,⟨L,_,v,hn,e,B⟩,ih (λb a=>hs b (by unfold frs;rw[NN,v];exact Mo _ a)) hr⟩
  exact all X.stack (λ_ a=>a) d
 have D:∀b∈frs X.stack,J b=none:=λb a=>by
  obtain⟨_,o,y,_⟩:=d.mem a
  exact un.free b o y (I.stkFree b a) (by simp)
 have F:∀b∈frs X.stack,b∈[x,T]++frs X.stack:=λb a=>M4 _ a
 have hF:s'.heap.FunFrames (S5 s'.heap ([x,T]++frs X.stack)) (X.env::X.outer):=by
  have z:=qC k F
  rw[c]at z⊢
  exact z
 refine wpAny_leaving_nextW (base:=S5 s'.heap ([x,T]++frs X.stack)) (by rw[←c];exact I.ok.frames) hF f ⟨R,vs,T,S,U,V,W,hd,Y,S6 _ (by simp),n,Z,p,h3⟩ (λb o q=>of_hideAll _ q) (S6 _ (by simp)) λh' L=>?_
 refine⟨x,C,J,rfl,qx I c f g (os.trans I.os) bare U0 hok D (λb a=>?_) (by simp) (O _ _ _ wish) L⟩
 rcases MH.mp a with rfl|a
 ·exact⟨j _ xs,xn⟩
 ·obtain rfl:b=T:=by simpa using a
  exact⟨j _ u,t⟩
theorem AM{X:Cx}{E:XK}(c:X.stack=X.env::X.outer)(g:X.env.frame=some X.env.locals)(h:X.ex=[])
  {i:List (Addr×Obj)} {p:St} {H:Hp} {s:Ml} {x C:Addr} {dx:Option Addr} (I:Inv X i p H s) (k:H x=some (dg C x dx)) (r:X.H₀ x=none) (wish:E (.ref C) none (ft H x)) {v:Mh->Ml->Prop}:
  Mz (ML X.prog X.w) X.A (leaving X.env (.ref x)) (λ_ l=>CXE X.prog X.w X.outer X.H₀ X.s₀ E (.ref x) l) v s:=by
 obtain⟨t,y⟩:=kd (I.hok x _ k)
 have nofs:∀b∈X.fs,b∈frs X.stack:=λb d=>by
  rw[c];unfold frs;rw[NN,g];exact Mo _ d
 have f:Un (frs X.stack) [] X.H₀ H X.s₀.heap s.heap:=by
  have b:=I.base
  rw[h]at b
  exact b.mono nofs λ_ z=>z
 have xs:X.s₀.heap.get? x=none:=by
  cases q:X.s₀.heap.get? x with
  |none=>rfl
  |some o=>have:=f.free x o q r (by simp);rw[k]at this;cases this
 have ne:∀b o,H b=some o->(∀B,o≠ .ext B)->b≠x:=λb o e hn z=>by subst z;rw[k]at e;cases e;exact hn _ rfl
 have D:Un (frs X.stack) [] X.H₀ (ft H x) X.s₀.heap s.heap:=by
  refine⟨f.keep,f.slot,λb o e n d=>?_,f.there,λb ys q=>?_,λb o u q=>?_,λb F q=>?_⟩
  ·unfold ft;split
   ·rfl
   ·exact f.free b o e n d
  ·have:=f.tups b ys q
   rw[ia (ne b _ this λ_ z=>by cases z)];exact this
  ·have:=f.frzs b o u q
   rw[ia (ne b _ this λ_ z=>by cases z)];exact this
  ·obtain⟨more,this⟩:=f.tbls b F q
   exact⟨more,by rw[ia (ne b _ this λ_ z=>by cases z)];exact this⟩
 have hok:HOk X.prog X.w (ft H x) s.heap:=λa o e=>by
  obtain⟨J,G⟩:=zn e
  refine(I.hok a o G).stay (λ_ _ _ q=>q) (λb q=>?_) λb ys q=>?_
  ·rw[ia (ne b _ q λ_ z=>by cases z)];exact q
  ·rw[ia (ne b _ q λ_ z=>by cases z)];exact q
 have j:=I.stack
 have m:∀b∈frs X.stack,ft H x b=none:=λb d=>by
  unfold ft;split
  ·rfl
  ·exact I.stkFree b d
 have hF:s.heap.FunFrames (S5 s.heap ([x]++frs X.stack)) (X.env::X.outer):=by
  have z:=qC j (as:=[x]++frs X.stack) λb d=>M4 _ d
  rw[c]at z⊢
  exact z
 refine wpAny_leaving_firstW (base:=S5 s.heap ([x]++frs X.stack)) (a0:= .ref t) (by rw[←c];exact I.ok.frames) hF g y (λb o q=>of_hideAll _ q) (S6 _ (by simp)) rfl rfl rfl λh' L=>?_
 refine⟨x,C,ft H x,rfl,qx (ext:=[x]) I c g h I.os I.bare D hok m (λb d=>?_) (by simp) wish L⟩
 obtain rfl:b=x:=by simpa using d
 exact⟨xs,zo⟩
section
variable{X:Cx}{pins:List (Addr×Obj)}{σ:St}{H H':Hp}{s s':Ml}{E:XK}{x C:Addr}
end
section
variable{X:Cx}
end
section
variable{X:Cx}
end
structure XC (K:Frag) (C:Addr):Prop where
 sh:∃bm,∀h:Heap,K.In h->XShape h C bm
 sa:Om K (.ref C) "__setattr__"=some (some (.builtin "object.__setattr__"))
 cd:∃cd,clsIn K C=some cd/\cd.hasDict=true/\eC cd.mro=true
theorem vU{K:Frag}{C N:Addr}{nm q:Str}{bs bm:List Mh}{hdct:Bool}{sn:List Str}{sub:List Mh}{ab:Bool}{col:Option Bool}{dd:Option Addr}{k0 k1 k2 k3 k5:Option Mh}{cd:ClassData}
  (l:K.lookup C=some (excClassObj nm q C N bs bm hdct sn sub ab col dd k0 k1 k2 k3 k5 "ValueError.__new__")) (sa:Om K (.ref C) "__setattr__"=some (some (.builtin "object.__setattr__"))) (c:clsIn K C=some cd)
  (g:(bm.contains (.type "ValueError")&&bm.contains (.type "BaseException")&&!bm.contains (.type "AttributeError")&&!bm.contains (.type "NameError")&&cd.hasDict&&eC cd.mro)=true):XC K C:=by
 simp only[MU,Bool.not_eq_true']at g
 obtain⟨⟨⟨⟨⟨a,b⟩,i⟩,d⟩,e⟩,f⟩:=g
 exact⟨⟨bm,λh X=>⟨⟨nm,q,N,bs,hdct,sn,sub,ab,col,dd,k0,k1,k2,k3,k5,X _ _ l⟩,a,b,i,d⟩⟩,sa,cd,c,e,f⟩
structure XMk (K:Frag) (C f:Addr):Prop where
 xc:XC K C
 init:Om K (.ref C) "__init__"=some (some (.ref f))
 fn:isFn K (.ref f)=true
 kp:RA K (.ref C)=true
section
variable{X:Cx}{CX:CXT}{k:Nat}{f C:Addr}{fd:FuncData}{ps:List Str}{sp:Sp}{dvs:List V}{ds:List Mh}{E:St->XK}{x m:Str}{p pos apos:Pos}{e o:Expr}{es:List Expr}{ta:TE}{t:TA}
noncomputable def HV(C:Addr)(sp:Sp)(dvs:List V)(E:St->XK)(t:TA):TE:=λa H Q=>t a H λvs b=>vs.length<=sizeLine/\∀x,b x=none->
 sp (.ref x::(vs++dvs)) (upd b x (dg C x none)) (λv c=>v= .non/\Q (.ref x) c) (E a)
theorem FF{c:List (Addr×Obj)}{j:St}{H:Hp}{s:Ml}{Q:VK}{us:List Mh}{vs:List V}(M:XMk X.K C f)(F:FnOk X.prog X.w X.K X.mg X.base CX k f fd ps sp)(B:Room (k+1) X.A)(D:aA X.K fd ps ds)(hd:ak dvs ds)
  (G:bD CX X E) (I:Inv X c j H s) (r:ak vs us) (J:vs.length<=sizeLine)
  (h:∀x,H x=none->sp (.ref x::(vs++dvs)) (upd H x (dg C x none)) (λv L=>v= .non/\Q (.ref x) L) (E j)):
  Mz (ML X.prog X.w) X.A (call (.ref C) us) (EP X c j Q) X.xe s:=by
 have y:=h (s.heap.objs.size+1) (I.hok.fresh (PV _))
 obtain⟨bm,sh⟩:=M.xc.sh
 have N:Inv X c j H {s with heap:=s.heap.push {cls:= .type "tuple",data:= .seq us.toArray}}:=I.kept (t':=s.toks) λb o q=>Mi _ q
 have O:((s.heap.push {cls:= .type "tuple",data:= .seq us.toArray}).push (ci C none s.heap.objs.size)).get? (s.heap.objs.size+1)=some (ci C none s.heap.objs.size):=by
  have:=MB (s.heap.push {cls:= .type "tuple",data:= .seq us.toArray}) (o:=ci C none s.heap.objs.size) rfl
  rwa[Nv]at this
 have n:Inv X c j (upd H (s.heap.objs.size+1) (dg C (s.heap.objs.size+1) none)) {s with heap:=(s.heap.push {cls:= .type "tuple",data:= .seq us.toArray}).push (ci C none s.heap.objs.size)}:=
  N.laid (a:=s.heap.objs.size+1) (o:=dg C (s.heap.objs.size+1) none) (t':=s.toks) (λb u q=>Mi _ q) (Ug (Nv _ _)) (pQ O)
 have z:ak (V.ref (s.heap.objs.size+1)::(vs++dvs)) (My (s.heap.objs.size+1)::(us++ds)):= .cons rfl (r.append hd)
 have P:(My (s.heap.objs.size+1)::us++ds).length=ps.length:=by
  have e:=z.length
  rw[F.len _ _ _ _ y]at e
  exact e.symm
 have l:Mz (ML X.prog X.w) (X.A.under (.builtin "type.__call__" ⟨.ref C::us,[]⟩)) (call (.ref f) (.ref (s.heap.objs.size+1)::us)) (λr s'=>r= .none/\EP X c j Q (.ref (s.heap.objs.size+1)) s') X.xe
   {s with heap:=(s.heap.push {cls:= .type "tuple",data:= .seq us.toArray}).push (ci C none s.heap.objs.size)}:=by
  refine Qx (Pb (F.run _ X.stack _ _ ⟨My (s.heap.objs.size+1)::us,[]⟩ (My (s.heap.objs.size+1)::(us++ds)) _ _ (E j) (B.make C us [])
   (n.env0.make C us []) (D _ (My (s.heap.objs.size+1)::us) n.kIn P) z y) λr s' i=>?_)
  cases r with
  |error e=>exact G c j _ _ e s' n i
  |ok fl=>
   cases fl with
   |ret u=>
    obtain⟨v,R,S,T,U,q3⟩:=n.after i
    subst U
    exact⟨T,⟨V.ref (s.heap.objs.size+1),R,S,rfl,q3⟩⟩
   |next=>exact NQ i
   |brk=>exact NQ i
   |cont=>exact NQ i
 obtain⟨W,g,d,Y,os⟩:=s
 exact BY I.kIn (sh _ I.kIn) M.init M.fn (by rw[←r.length];exact J) l
theorem gs(M:XMk X.K C f)(F:FnOk X.prog X.w X.K X.mg X.base CX k f fd ps sp)(g:Room (k+1) X.A)(i:Gl X x)(hm:X.mg x=some (.ref C))(j:aA X.K fd ps ds)(hd:ak dvs ds)(l:bD CX X E)
  (ha:PA X (e::es) t) (b:(x==("__debug__":Str))=false:=by decide) (n:Mx (e::es) X.env=(false,eval e X.env)::Mx es X.env:=by rfl) (c:(NZ pos (Mx es X.env)).any (·.1)=false:=by rfl):
  PE X (.Call (.Name x p) (e::es) [] pos) (HV C sp dvs E t):=by
 intro a s u H Q I h
 refine Pd (h9 I i hm ?_ b)
 refine SI (h₀:=X.base) I.ok.mod.kin M.kp (thn (ha pos a s u H _ I h) λus y ⟨vs,z,d,r,v,q⟩=>⟨d.kIn,?_⟩) n c
 exact FF M F g j hd l d r v q
structure ClsFn (K:Frag) (D:Addr) (m:Str) (f:Addr):Prop where
 ga:specialIn K (.ref D) "__getattribute__"=some (some (.builtin "type.__getattribute__"))
 rd:PySem.W.readsIn K D (.type "type")=true
 fnd:Ve K (.ref D) (.type "type") m=some (.val (.ref f))
 kp:RA K (.ref f)=true
theorem jQ{D:Addr}{pl:Sem Bool}(c:ClsFn X.K D m f)(F:FnOk X.prog X.w X.K X.mg X.base CX k f fd ps sp)(j:Room k X.A)(l:Gl X x)(hm:X.mg x=some (.ref D))(n:aA X.K fd ps ds)(hd:ak dvs ds)(q:bD CX X E)
  (ha:PA X (e::es) t) (b:(x==("__debug__":Str))=false:=by decide) (d:Mx (e::es) X.env=(false,eval e X.env)::Mx es X.env:=by rfl) (g:(NZ pos (Mx es X.env)).any (·.1)=false:=by rfl)
  (u:eval (.Call (.Attribute (.Name x p) m apos) (e::es) [] pos) X.env=(do
   let ov ←eval (.Name x p) X.env
   Pc apos.atName
   let (f,first) ←PN [ov] (Rb ov m pl)
   S3 pos f first (NZ pos (Mx (e::es) X.env)) (OK pos (NW [] X.env))):=by rfl):
  PE X (.Call (.Attribute (.Name x p) m apos) (e::es) [] pos) (CZ sp dvs E t):=by
 intro a s v H Q I h
 refine SE (pl:=pl) (h9 I l hm ?_ b) u
 refine PySem.W.method_cls I.kIn c.ga (PySem.W.cls_value I.kIn c.rd c.fnd rfl ?_)
 have y:=I.tok (s.toks+1)
 refine SI (first:=[]) (h₀:=X.base) I.ok.mod.kin c.kp (thn (ha pos a _ v H _ y h) λus z ⟨vs,B,i,r,q2⟩=>⟨i.kIn,?_⟩) d g
 exact nT F j n hd q i r q2
noncomputable def tVin(K:Frag)(t:TA):TE:=λb H Q=>t b H λvs a=>∃x C dx rest,vs= .ref x::rest/\rest.length<=sizeLine/\a x=some (dg C x dx)/\XC K C/\Q .non (upd a x (dg C x dx))
theorem xq{a:List (Addr×Obj)}{i:St}{H:Hp}{s:Ml}{Q:VK}{us:List Mh}{vs:List V}(I:Inv X a i H s)(r:ak vs us)
  (h:∃x C dx rest,vs= .ref x::rest/\rest.length<=sizeLine/\H x=some (dg C x dx)/\XC X.K C/\Q .non (upd H x (dg C x dx))):Mz (ML X.prog X.w) X.A (call (.builtin "ValueError.__init__") us) (EP X a i Q) X.xe s:=by
 obtain⟨x,C,dx,rest,rfl,v,j,c,q⟩:=h
 cases r with
 |cons r1 y=>
  cases r1
  obtain⟨t0,z⟩:=kd (I.hok x _ j)
  obtain⟨bm,sh⟩:=c.sh
  obtain⟨F,g,d,l,os⟩:=s
  refine zf (sh _ I.kIn) z (by rw[←y.length];exact v) λh' n keep=>?_
  have B:Inv X a i (upd H x (dg C x dx)) ⟨h',g,d,l,os⟩:=I.write (t':=l) (x:=x) (e:=x) (by rw[j];exact Oy) (.inl rfl) (λb u D q=>keep b u D q) ⟨_,n⟩ (pQ n)
  exact⟨.non,_,B,rfl,q⟩
theorem EJ:typeOf (.type "ValueError")=pure (.type "type"):=by kernel_rfl
theorem EK:Manifest.isStub "ValueError"=false:=by decide +kernel
theorem EL{K:Frag}:Ve K (.type "ValueError") (.type "type") "__init__"=some (.val (.builtin "ValueError.__init__")):=by kernel_rfl
set_option maxHeartbeats 4000000 in
theorem AH{pl:Sem Bool}(d:Gl X "ValueError")(hm:X.mg "ValueError"=none)(ha:PA X (e::es) t)(b:Mx (e::es) X.env=(false,eval e X.env)::Mx es X.env:=by rfl)(c:(NZ pos (Mx es X.env)).any (·.1)=false:=by rfl)
  (g:eval (.Call (.Attribute (.Name "ValueError" p) "__init__" apos) (e::es) [] pos) X.env=(do
   let ov ←eval (.Name "ValueError" p) X.env
   Pc apos.atName
   let (f,first) ←PN [ov] (Rb ov "__init__" pl)
   S3 pos f first (NZ pos (Mx (e::es) X.env)) (OK pos (NW [] X.env))):=by rfl):
  PE X (.Call (.Attribute (.Name "ValueError" p) "__init__" apos) (e::es) [] pos) (tVin X.K t):=by
 intro a s i H Q I h
 obtain⟨m,F⟩:=I.fr
 refine SE (pl:=pl) (eV I d hm PyProof.Rows.Boot.«ValueError» ?_) g
 refine PySem.W.method_type (v:= .builtin "ValueError.__init__") F I.mod.kin EJ EK EL rfl ?_
 have j:=I.tok (s.toks+1)
 exact RM (thn (ha pos a _ i H _ j h) λus n ⟨vs,q,l,r1,q1⟩=>xq l r1 q1) b c
noncomputable def Ii(K:Frag)(ta g:TE)(f:Str):TS:=λD b H=>g b H λy h=>ta b h λx c=>∃a C,x= .ref a/\c a=some (dg C a none)/\XC K C/\Om K (.ref C) f=some none/\
 ∀d,c d=none->d≠a->D.nx b (upd (upd c d (.xd [(f,y)])) a (dg C a (some d)))
theorem AC{o d:Expr}{f:Str}{l:Pos}{M:TE}(ha:PE X o ta)(S:PE X d M)(hs:P5 d (some (.Attribute o f l)) pos.line X.env=pure false):PS X (.Assign [.Attribute o f l] d pos) (Ii X.K ta M f):=by
 intro r s F H D I h
 refine Tk (thn (S r s F H _ I h) λu T G=>?_) hs
 obtain⟨y,U,V,W,q⟩:=G
 refine thn (ha r T F U _ V q) λY w Z=>?_
 obtain⟨x,N,A,rx,a,C,ex,B,c,n,q2⟩:=Z
 subst ex
 obtain rfl:Y=My a:=rx
 obtain⟨t0,O⟩:=kd (A.hok a _ B)
 obtain⟨cd,c1,c2,c3⟩:=c.cd
 refine BW A.kIn O c.sa c1 c2 c3 n λh' P Q keep=>?_
 have hd:N w.heap.objs.size=none:=A.fresh
 have J:w.heap.objs.size≠a:=Ou (MI O)
 have od:∃o,h'.get? w.heap.objs.size=some o:=let ⟨o,_,_,e,_⟩:=Q;⟨o,e⟩
 have i:∀b o,N b=some o->(∀φ,o≠ .ext φ)->b≠a:=λb o e hn z=>by subst z;rw[B]at e;cases e;exact hn _ rfl
 refine⟨F,_,A.un (h':=h') (t':=w.toks+2) ⟨λb o e j _ _=>keep b o (λz=>by subst z;rw[B]at j;cases j) e,λb o e j _ _=>⟨o.slots,keep b o (λz=>by subst z;rw[B]at j;cases j) e⟩,λb o e j _=>?_,λb o e _=>?_,λb ys e=>?_,λb o ys e=>?_,λb ys e=>?_⟩ λb o e=>?_,q2 _ hd J⟩
 ·rw[upd_ne (λz=>by subst z;rw[B]at j;cases j),upd_ne (M6 (MI e))];exact j
 ·by_cases z:b=a
  ·subst z;exact⟨_,P⟩
  ·exact⟨o,keep b o z e⟩
 ·rw[upd_ne (i b _ e λ_ z=>by cases z),upd_ne (ne_of_none e hd)];exact e
 ·rw[upd_ne (i b _ e λ_ z=>by cases z),upd_ne (ne_of_none e hd)];exact e
 ·exact⟨#[],by rw[upd_ne (i b _ e λ_ z=>by cases z),upd_ne (ne_of_none e hd),e];simp⟩
 ·by_cases z:b=a
  ·subst z
   rw[ai]at e;cases e
   exact pQ P
  ·rw[upd_ne z]at e
   by_cases R:b=w.heap.objs.size
   ·subst R
    rw[ai]at e;cases e
    refine⟨_,Q,λg=>?_⟩
    by_cases q:g=f
    ·subst q
     simp only[Pn,Oa,Na]
     exact W
    ·have hb:(g==f)=false:=beq_eq_false_iff_ne.mpr q
     simp only[Pn,hb,List.lookup_nil,Mr q]
     trivial
   ·rw[upd_ne R]at e
    refine(A.hok b o e).stay (λc v L q=>keep c v ?_ q) (λc q=>?_) λc ys q=>?_
    ·rcases L with rfl|L
     ·exact z
     ·exact i c _ L λ_ z=>by cases z
    ·rw[upd_ne (i c _ q λ_ z=>by cases z),upd_ne (ne_of_none q hd)];exact q
    ·rw[upd_ne (i c _ q λ_ z=>by cases z),upd_ne (ne_of_none q hd)];exact q
end
noncomputable def xN(H₀:Hp)(K:Frag)(E:XK)(b:TE):TS:=λ_ c H=>b c H λv a=>∃x C dx,v= .ref x/\a x=some (dg C x dx)/\H₀ x=none/\XC K C/\E (.ref C) none (ft a x)
section
variable{P:Program}{w:MY}{K:Frag}{mg:Str->Option Mh}{base:Heap}{N:List Str}{qual:Str}{scope:Scope}{f:Addr}{cd:Mh}{A:M8}{outer:List Env}{s:Ml}{H:Hp}{E:XK}
theorem gf:bD (CXE P w) (cX (CXE P w) P w K mg base N qual scope f cd A outer s H E) (λ_=>E):=λa b c d e s' I h=>FW (X:=cX (CXE P w) P w K mg base N qual scope f cd A outer s H E) rfl rfl rfl (λ_ _ _ z=>z) I h
theorem dL{X:Cx}:bD (CXE P w) X E0:=λ_ _ _ _ _ _ _ h=>by
 obtain⟨_,_,_,_,F⟩:=h
 exact F.wish.elim
theorem eF:PassesOwn (ML P w) (A.deeper (Qu qual scope s.heap.objs.size f cd)) (Qu qual scope s.heap.objs.size f cd) (cX (CXE P w) P w K mg base N qual scope f cd A outer s H E).xe:=PassesOwn.leaving
theorem dU{e:Expr}{pos:Pos}{g:TE}(hd:A.handled=none)(i:PE (cX (CXE P w) P w K mg base N qual scope f cd A outer s H E) e g):PS (cX (CXE P w) P w K mg base N qual scope f cd A outer s H E) (.Raise (some e) none pos) (xN H K E g):=by
 intro a j k l D I h
 rw[arm_exec_Raise]
 refine on (N6 ?_)
 refine zg (env:=(cX (CXE P w) P w K mg base N qual scope f cd A outer s H E).env) (bm:=[]) (dx:=none) (t0:=0) hd ?_
 refine on (thn (i a j k l _ I h) λu p m=>?_)
 obtain⟨v,t,b,r,x,C,dx,n,ex,o,c,q⟩:=m
 refine on (N6 (Mg ?_))
 subst n
 obtain rfl:u=My x:=r
 obtain⟨t0,d⟩:=kd (b.hok x _ ex)
 obtain⟨bm,sh⟩:=c.sh
 exact⟨x,t0,dx,C,bm,rfl,sh _ b.kIn,d,AM (X:=cX (CXE P w) P w K mg base N qual scope f cd A outer s H E) rfl rfl rfl b ex o q⟩
end
structure FunD (K:Frag) (x qual:Str) (st:Stmt) (f:Addr) (fd:FuncData):Prop where
 ex:∃(oc:Mh) (od:Option Addr) (dV kV doc pm:Mh) (an:Option Addr) (cdv ct:Mh) (osl:Array (Option Mh)),
  fd=PU x qual (ib st) (cb st) (af st) dV kV doc pm an cdv ct/\K.lookup f=some ⟨oc,od,.func fd,osl⟩/\Qr K cdv qual=true
 kp:RA K (.ref f)=true
theorem GZ{K:Frag}{x a:Str}{st:Stmt}{f:Addr}{j g:Mh}{m h:Option Addr}{e:Array (Option Mh)}{kV d i b ct:Mh}(l:K.lookup f=some ⟨j,m,.func (PU x a (ib st) (cb st) (af st) g kV d i h b ct),e⟩)
  (c:Qr K b a=true) (k:RA K (.ref f)=true):FunD K x a st f (PU x a (ib st) (cb st) (af st) g kV d i h b ct):=⟨⟨j,m,g,kV,d,i,h,b,ct,e,rfl,l,c⟩,k⟩
section
variable{P:Program}{w:MY}{K:Frag}{mg:Str->Option Mh}{base:Heap}
theorem FunD.okE{x a:Str}{st:Stmt}{f:Addr}{h:FuncData}{N d:List Str}{k:Nat}{sp:Sp}(F:FunD K x a st f h)(S:FnScope N d (af st))(len:∀vs H Q E,sp vs H Q E->vs.length=d.length)
  (c:∀(b:Mh) (A:M8) (outer:List Env) (s:Ml) (H:Hp) (vs:List V) (Q:VK) (E:XK),Room k (A.deeper (Qu a (af st) s.heap.objs.size f b))->sp vs H Q E->
   ∃t,PSs (cX (CXE P w) P w K mg base N a (af st) f b A outer s H E) (cb st) t/\t {nx:=λ_ i=>Q .non i,rt:=Q} (eW N vs) H):FnOk P w K mg base (CXE P w) (k+1) f h d sp:=by
 obtain⟨o,p,q,kV,j,r,u,b,ct,l,rfl,m,e⟩:=F.ex
 exact DV m e S len λA outer s H vs Q E n g=>c b A outer s H vs Q E n g
theorem FunD.ok{x a:Str}{st:Stmt}{f:Addr}{i:FuncData}{N d:List Str}{k:Nat}{sp:Sp}(F:FunD K x a st f i)(S:FnScope N d (af st))(len:∀vs H Q E,sp vs H Q E->vs.length=d.length)
  (c:∀(b:Mh) (A:M8) (outer:List Env) (s:Ml) (H:Hp) (vs:List V) (Q:VK) (E:XK),Room k (A.deeper (Qu a (af st) s.heap.objs.size f b))->sp vs H Q E->
   ∃t,PSs (cX (CXE P w) P w K mg base N a (af st) f b A outer s H E).nox (cb st) t/\t {nx:=λ_ j=>Q .non j,rt:=Q} (eW N vs) H):FnOk P w K mg base (CXE P w) (k+1) f i d sp:=by
 obtain⟨p,r,u,kV,l,v,y,b,ct,m,rfl,n,e⟩:=F.ex
 refine DV n e S len λA outer s H vs Q E o g=>?_
 obtain⟨t,h,q⟩:=c b A outer s H vs Q E o g
 exact⟨t,h.nox,q⟩
end
noncomputable abbrev TJ:=St->Hp->Nat->(Nat->Hp->Prop)->Prop
noncomputable def PJ(X:Cx)(es:List Expr)(t:TJ):Prop:=
 ∀(a:List (Addr×Obj)) (s:Ml) (b:St) (H:Hp) (acc:Str) (Q:VK),Inv X a b H s->acc.length<=sizeLine->(t b H acc.length λn c=>n<=sizeLine/\∀z:Str,z.length<=n->Q (.str z) c)->
  Mz (ML X.prog X.w) X.A (joinParts acc (Rg es X.env)) (EP X a b Q) X.xe s
noncomputable def jNil:TJ:=λ_ H n Q=>Q n H
noncomputable def jStr(m:Nat)(t:TJ):TJ:=λa H n Q=>n+m<=sizeLine/\t a H (n+m) Q
noncomputable def jInt(b:TE)(t:TJ):TJ:=λa H n Q=>b a H λv c=>∃i,v= .int i/\i.natAbs.log2<1920/\n+1921<=sizeLine/\∀m,m<=n+1921->t a c m Q
noncomputable def Lp(t:TJ):TE:=λa H Q=>t a H 0 λn b=>n<=sizeLine/\∀z:Str,z.length<=n->Q (.str z) b
section
variable{X:Cx}{es:List Expr}{t:TJ}{pos:Pos}
theorem Iz:PJ X [] jNil:=λa s c H acc Q I b h=>joinParts_nil ⟨.str acc,H,I.tok _,⟨_,rfl⟩,h.2 acc (Mw _)⟩ b
theorem Iy{x:Str}{j:Nat}{p:Pos}(h:PJ X es t)(c:Rg (.Constant (.str x) j p::es) X.env=eval (.Constant (.str x) j p) X.env::Rg es X.env:=by rfl):PJ X (.Constant (.str x) j p::es) (jStr x.length t):=by
 intro a s d H acc Q I i f
 rw[c]
 obtain⟨b,g⟩:=f
 refine joinParts_cons (UL ?_)
 have e:(acc++x).length=acc.length+x.length:=strLen_append acc x
 exact⟨by rw[e];exact b,h a _ d H (acc++x) Q (I.tok _) (by rw[e];exact b) (by rw[e];exact g)⟩
theorem IA{v:Expr}{p:Pos}{c:TE}(g:PE X v c)(h:PJ X es t)(j:Rg (.FormattedValue v (-1) none p::es) X.env=eval (.FormattedValue v (-1) none p) X.env::Rg es X.env:=by rfl):PJ X (.FormattedValue v (-1) none p::es) (jInt c t):=by
 intro a s d H acc Q I o k
 rw[j]
 refine joinParts_cons (FormattedValue_plain (thn (g a s d H _ I k) λu w ⟨y,l,m,r,i,n,f,x,q⟩=>?_))
 subst n
 obtain⟨z,rfl⟩:=r
 refine wpAny_formatField_int f ?_
 have e:(acc++M1 (toString i)).length=acc.length+(M1 (toString i)).length:=strLen_append acc _
 have A:=int_text_len_1921 f
 have b:(acc++M1 (toString i)).length<=sizeLine:=by rw[e];omega
 refine⟨b,h a _ d l _ Q (m.tok _) b ?_⟩
 rw[e]
 exact q _ (by omega)
theorem FU{b c:Expr}{rest:List Expr}(h:PJ X (b::c::rest) t):PE X (.JoinedStr (b::c::rest) pos) (Lp t):=λa s d H Q I e=>
 JoinedStr_many (h a s d H O9 Q I (by decide) e)
end
section
variable{X:Cx}
theorem qM(g:X.calm=true):cz X (.builtin "sum") (λxs H Q=>∃(a:Addr) (ns:List Int),xs=[.ref a]/\SqL X.K H a (ns.map V.int)/\Q (.int ns.sum) H):=by
 intro b s n H xs us Q I r h
 obtain⟨a,ns,rfl,i,q⟩:=h
 cases r with
 |cons r1 j=>
  cases r1
  cases j
  obtain⟨its,k,p,o⟩:=I.list i
  have c:=oG k
  obtain⟨xs,ex⟩:=c.allInts.items
  have d:=p.isList
  rw[ex]at d
  refine sum_intListG (I.ok.hd g) d λh' t t' l=>?_
  have e:preSum (numAt xs) xs.size=ns.sum:=by
   have f:=c.numsOf
   have m:its=(Ur xs).toList:=by rw[←ex]
   rw[m,nums_intItems]at f
   rw[preSum_eq,OU (by simp),f]
  rw[e]
  exact⟨.int ns.sum,H,I.kept l,⟨_,rfl⟩,q⟩
noncomputable def rT(i j:Int):Prop:=0<j/\j.natAbs.log2<9000
theorem AN:OpR X (OC .FloorDiv) (rI rT λi j=> .int (i/j)):=opI λi j _ _ _ _ _ a q=>by
 have b:(0:Int)<j:=a.1
 refine floordiv_int (by omega) ?_ (.inl (SX a.2))
 rw[QK _ (by omega)]
 exact q
noncomputable def ipC(C:Int->Int->Prop)(f:Int->Int->Int):TIp:=λx y H Q=>∃i j,x= .int i/\y= .int j/\C i j/\Q (.int (f i j)) H
theorem GV:PIp X .FloorDiv (ipC rT λi j=>i/j):=by
 intro a s d H x y v u Q I r1 b h
 obtain⟨i,j,rfl,rfl,c,q⟩:=h
 obtain⟨t,rfl⟩:=r1
 obtain⟨t',rfl⟩:=b
 have e:(0:Int)<j:=c.1
 refine ifloordiv_int (by omega) ?_ (.inl (SX c.2))
 rw[QK _ (by omega)]
 exact⟨.int _,H,I.tok _,⟨_,rfl⟩,q⟩
theorem xH:∀{cs:List String} {us:List Mh},ak (cs.map V.ty) us->us=cs.map OH
 |[],_,r=>by cases r;rfl
 |c::cs,_,r=>by
  cases r with
  |cons r1 a=>
   cases r1
   rw[xH a]
   rfl
end
section
variable{K:Frag}
end
theorem xo{K:Frag}{a:Addr}{xs:List V}{g:TG}{tt:TT}{p:TB}{c:St}{H:Hp}{Q:St->Hp->Prop}(Pv:Nat->St->Hp->Prop)(s:Pv 0 c H)(j:∀i c H,i<=xs.length->Pv i c H->SqL K H a xs)
  (f:∀i x c H,xs[i]?=some x->Pv i c H->g x c H λd t=>tt d t λb r=>if b=true then p d r (Pv (i+1))else Pv (i+1) d r) (k:∀c H,Pv xs.length c H->Q c H):cx (Itl K a) g tt p c H Q:=by
 refine⟨λi m c H=>i<=xs.length/\m+i=xs.length/\Pv i c H,⟨xs.length,N2 _,by omega,s⟩,λi m c H ⟨l,hm,h⟩=>?_⟩
 by_cases n:i<xs.length
 ·refine .inr ⟨⟨xs,xs[i],j i c H l h,Mn n⟩,Pv (i+1),λu o q=>⟨m-1,by omega,by omega,by omega,q⟩,λx o ⟨e,v⟩=>?_⟩
  subst e
  exact f i x c o (v xs (j i c o l h)) h
 ·obtain rfl:i=xs.length:=by omega
  exact .inl ⟨⟨xs,j _ c H l h,Mw _⟩,k c H h⟩
theorem CmpScope.plain{X:Cx}{scope:Scope}{vars:List Str}(k:scope.kind= .function)(nd:(scope.names.map (·.1)).Nodup)(f:∀y∈scope.names,y.2≠ .free):CmpScope X scope vars vars []:=
 ⟨k,nd,λy a e=>MM e (f y a),by simp,λj b=>MM b (by simp)⟩
noncomputable def rS(i j:Int):Prop:=i.natAbs<2^1000/\j.natAbs<2^1000
theorem iZ{k:Int}(h:k.natAbs<2^1000):Tf k<=2^20:=by
 unfold Tf
 split
 ·exact N2 _
 ·rename_i a
  have b:k.natAbs≠0:=by
   intro z
   have:k=0:=Int.natAbs_eq_zero.mp z
   subst this
   simp at a
  have:=(Nat.log2_lt b).mpr h
  have e:(2:Nat)^20=1048576:=by decide
  omega
theorem pp{X:Cx}:OpR X (OC .Mult) (rI rS λi j=> .int (i*j)):=opI λ_ _ _ _ _ _ _ a q=>mul_int q (UB (iZ a.1) (iZ a.2))
theorem bv.upd{H:Hp}{a:Addr}{o:HO}(h:H a=none):bv H (upd H a o):=λb u e=>by rw[upd_ne (ne_of_none e h)];exact e
noncomputable abbrev KyD:=Int×List Int
noncomputable def hI(k:List Int):Int:=reduceHash (Qa (k.map hashInt))
noncomputable def hB:Bool->KyD->Int
 |true,k=>reduceHash (Qa [hashInt k.1,hI k.2])
 |false,k=>hI k.2
noncomputable def xy(a:Addr)(b:Bool)(ep:Nat)(xs:List (KyD×Addr×V))(h:Heap):Prop:=
 ∃o es,∃ys:List (KyD×Addr×Mh),h.get? a=some o/\o.ExactDict/\o.data= .dict es ep/\es.toList=ys.map (λy=>⟨hB b y.1,.ref y.2.1,y.2.2⟩)/\(ys.map (·.1)).Nodup/\(a==Qv)=false/\ys.length<=sizeLine/\
  Re (λ(x:KyD×Addr×V) (y:KyD×Addr×Mh)=>x.1=y.1/\x.2.1=y.2.1/\aC x.2.2 y.2.2) xs ys
noncomputable def dj(a:Addr)(b:Bool)(ep:Nat)(xs:List (KyD×Addr×V)):HO:= .ext (xy a b ep xs)
theorem vJ{P:Program}{w:MY}{a:Addr}{b:Bool}{ep:Nat}{xs:List (KyD×Addr×V)}{h:Heap}{H:Hp}(S:xy a b ep xs h):bd P w H h a (dj a b ep xs):=by
 refine⟨S,?_,λc d z k=>?_⟩
 ·obtain⟨o,_,_,e,_⟩:=S
  exact⟨o,e⟩
 ·obtain⟨o,es,ys,e,r⟩:=z
  exact⟨o,es,ys,k _ e,r⟩
end L2
namespace L2.Pu
open PySem PySem.Spec PyProof.Rows
theorem ex6{α d e:Sort _}{P Q R:α->d->e->Prop}{C:Prop}(h:∃a b c,P a b c/\Q a b c/\R a b c)(k:∀a b c,P a b c->Q a b c->R a b c->C):C:=by
 obtain⟨a,b,c,x,y,z⟩:=h
 exact k a b c x y z
theorem ex5{α c:Sort _}{P Q R:α->c->Prop}{C:Prop}(h:∃a b,P a b/\Q a b/\R a b)(k:∀a b,P a b->Q a b->R a b->C):C:=by
 obtain⟨a,b,x,y,z⟩:=h
 exact k a b x y z
inductive D where
 |non|bl (b:Bool)|int (i:Int)|str (x:Str)|ty (n:String)|txt
 |lst (xs:List D)|tup (xs:List D)|scr (xs:List Int)|obj (C:Addr) (ns:List Str) (xs:List D)|bag|adr (a:Addr)|dct (b:Bool) (ks:List KyD) (vs:List D)
structure Bg where
 cells:List Int
 i:Int
 j:Int
structure Fx where
 A:Addr->Prop
 bg:Option (Addr×Addr)
noncomputable def KL(K:Frag)(a:Addr)(xs:List V):Prop:=
 ∃(o:Obj) (its:Array Mh) (n:Nat),K.lookup a=some o/\o.cls= .type "list"/\o.dict=none/\o.data= .seq its n/\its.size<=sizeLine/\ak xs its.toList
noncomputable def KT(K:Frag)(a:Addr)(xs:List V):Prop:=
 ∃(o:Obj) (its:Array Mh) (n:Nat),K.lookup a=some o/\o.cls= .type "tuple"/\o.data= .seq its n/\its.size<=sizeLine/\ak xs its.toList
noncomputable def TQ(K:Frag)(F:Fx)(H:Hp)(c:Addr)(xs:List V):Prop:=(¬F.A c/\Rd H c (.tup xs))\/KT K c xs
noncomputable def gT(K:Frag)(F:Fx)(H:Hp):Bool->KyD->Addr->Prop
 |true,k,c=>∃e,TQ K F H c [.int k.1,.ref e]/\TQ K F H e (k.2.map V.int)
 |false,k,c=>k.1=0/\TQ K F H c (k.2.map V.int)
mutual
noncomputable def Den(K:Frag)(F:Fx)(H:Hp):D->V->Prop
 | .non,v=>v= .non
 | .bl b,v=>v= .bl b
 | .int i,v=>v= .int i
 | .str x,v=>v= .str x
 | .ty n,v=>v= .ty n
 | .txt,v=>∃z,v= .str z
 | .lst ds,v=>∃a xs,v= .ref a/\(¬F.A a/\Rd H a (.lst xs))/\DenL K F H ds xs
 | .scr ns,v=>∃a,v= .ref a/\((¬F.A a/\Rd H a (.lst (ns.map V.int)))\/KL K a (ns.map V.int))
 | .tup ds,v=>∃a xs,v= .ref a/\((¬F.A a/\Rd H a (.tup xs))\/KT K a xs)/\DenL K F H ds xs
 | .obj C ns ds,v=>∃a dx xs,v= .ref a/\¬F.A a/\H a=some (.ins C dx (ns.zip xs))/\ns.length=xs.length/\DenL K F H ds xs
 | .bag,v=>∃b l,F.bg=some (b,l)/\v= .ref b
 | .adr a,v=>v= .ref a
 | .dct b ks vs,v=>∃a ep xs,v= .ref a/\(¬F.A a/\H a=some (dj a b ep xs))/\ks=xs.map (·.1)/\(∀x∈xs,gT K F H b x.1 x.2.1)/\DenL K F H vs (xs.map (·.2.2))
noncomputable def DenL(K:Frag)(F:Fx)(H:Hp):List D->List V->Prop
 |[],xs=>xs=[]
 |d::ds,xs=>∃x r,xs=x::r/\Den K F H d x/\DenL K F H ds r
end
structure Tr (F:Fx) (H:Hp) (F2:Fx) (H2:Hp):Prop where
 av:∀a,¬F.A a->H a≠none->¬F2.A a
 kp:∀a o,¬F.A a->H a=some o->H2 a=some o
 bg:F2.bg=F.bg
theorem Tr.refl(F:Fx)(H:Hp):Tr F H F H:=⟨λ_ h _=>h,λ_ _ _ h=>h,rfl⟩
theorem Tr.trans{F e f:Fx}{H g h:Hp}(a:Tr F H e g)(b:Tr e g f h):Tr F H f h:=
 ⟨λx c d=>b.av x (a.av x c d) (by
   cases q:H x with
   |none=>exact MM q d
   |some o=>rw[a.kp x o c q];simp),
  λx o c d=>b.kp x o (a.av x c (by rw[d];simp)) (a.kp x o c d),b.bg.trans a.bg⟩
theorem Rd.tr{F b:Fx}{H c:Hp}{a:Addr}{u:HO}(t:Tr F H b c)(h:¬F.A a)(r:Rd H a u):¬b.A a/\Rd c a u:=by
 rcases r with r|⟨o,r⟩
 ·exact⟨t.av a h (by rw[r];simp),.inl (t.kp a _ h r)⟩
 ·exact⟨t.av a h (by rw[r];simp),.inr ⟨o,t.kp a _ h r⟩⟩
theorem TQ.tr{K:Frag}{F a:Fx}{H b:Hp}{c:Addr}{xs:List V}(t:Tr F H a b)(h:TQ K F H c xs):TQ K a b c xs:=h.imp (λh=>Rd.tr t h.1 h.2) id
theorem gT.tr{K:Frag}{F a:Fx}{H d:Hp}{b:Bool}{k:KyD}{c:Addr}(t:Tr F H a d)(h:gT K F H b k c):gT K a d b k c:=by
 cases b with
 |true=>
  obtain⟨e,f,g⟩:=h
  exact⟨e,f.tr t,g.tr t⟩
 |false=>exact⟨h.1,h.2.tr t⟩
mutual
theorem Den.tr{K:Frag}{F k:Fx}{H l:Hp}(t:Tr F H k l):∀(d:D) (v:V),Den K F H d v->Den K k l d v
 | .non,v,h=>h
 | .bl b,v,h=>h
 | .int i,v,h=>h
 | .str x,v,h=>h
 | .ty n,v,h=>h
 | .txt,v,h=>h
 | .lst ds,v,h=>by
  unfold Den at h⊢
  obtain⟨a,xs,e,c,f⟩:=h
  exact⟨a,xs,e,Rd.tr t c.1 c.2,DenL.tr t ds xs f⟩
 | .scr ns,v,h=>by
  unfold Den at h⊢
  obtain⟨a,e,c⟩:=h
  exact⟨a,e,c.imp (λ⟨p,q⟩=>Rd.tr t p q) id⟩
 | .tup ds,v,h=>by
  unfold Den at h⊢
  obtain⟨a,xs,e,c,f⟩:=h
  exact⟨a,xs,e,c.imp (λ⟨p,q⟩=>Rd.tr t p q) id,DenL.tr t ds xs f⟩
 | .obj C ns ds,v,h=>by
  unfold Den at h⊢
  obtain⟨a,dx,xs,e,c,f,g,j⟩:=h
  exact⟨a,dx,xs,e,t.av a c (by rw[f];simp),t.kp a _ c f,g,DenL.tr t ds xs j⟩
 | .bag,v,h=>by
  unfold Den at h⊢
  rw[t.bg];exact h
 | .adr a,v,h=>by
  unfold Den at h⊢
  exact h
 | .dct b ks vs,v,h=>by
  unfold Den at h⊢
  obtain⟨a,ep,xs,e,c,f,g,j⟩:=h
  exact⟨a,ep,xs,e,⟨t.av a c.1 (by rw[c.2];simp),t.kp a _ c.1 c.2⟩,f,λx m=>(g x m).tr t,DenL.tr t vs _ j⟩
theorem DenL.tr{K:Frag}{F a:Fx}{H b:Hp}(t:Tr F H a b):∀(ds:List D) (xs:List V),DenL K F H ds xs->DenL K a b ds xs
 |[],xs,h=>h
 |d::ds,xs,h=>by
  unfold DenL at h⊢
  obtain⟨x,r,e,c,f⟩:=h
  exact⟨x,r,e,Den.tr t d x c,DenL.tr t ds r f⟩
end
section
variable{K:Frag}{F:Fx}{H:Hp}
theorem DenL.nil:DenL K F H [] []:=rfl
theorem DenL.cons{d:D}{ds:List D}{x:V}{xs:List V}(h:Den K F H d x)(t:DenL K F H ds xs):DenL K F H (d::ds) (x::xs):=⟨x,xs,rfl,h,t⟩
theorem DenL.length:∀{ds:List D} {xs:List V},DenL K F H ds xs->ds.length=xs.length
 |[],xs,h=>by have e:xs=[]:=h;subst e;rfl
 |d::ds,xs,h=>by
  obtain⟨x,r,e,_,a⟩:=h
  subst e
  rw[MA,MA,DenL.length a]
theorem DenL.get:∀{ds:List D} {xs:List V} {i:Nat} {d:D},DenL K F H ds xs->ds[i]?=some d->∃x,xs[i]?=some x/\Den K F H d x
 |[],_,_,_,_,e=>by simp at e
 |c::ds,xs,0,d,h,e=>by
  obtain⟨x,r,q,a,b⟩:=h
  subst q
  simp at e
  subst e
  exact⟨x,rfl,a⟩
 |c::ds,xs,i+1,d,h,e=>by
  obtain⟨x,r,q,a,b⟩:=h
  subst q
  obtain⟨y,f,g⟩:=DenL.get (i:=i) (d:=d) b (by simpa using e)
  exact⟨y,by simpa using f,g⟩
theorem DenL.getV:∀{ds:List D} {xs:List V} {i:Nat} {x:V},DenL K F H ds xs->xs[i]?=some x->∃d,ds[i]?=some d/\Den K F H d x
 |[],xs,_,_,h,e=>by have q:xs=[]:=h;subst q;simp at e
 |c::ds,xs,0,d,h,e=>by
  obtain⟨x,r,q,a,b⟩:=h
  subst q
  simp at e
  subst e
  exact⟨c,rfl,a⟩
 |c::ds,xs,i+1,d,h,e=>by
  obtain⟨x,r,q,a,b⟩:=h
  subst q
  obtain⟨y,f,g⟩:=DenL.getV (i:=i) (x:=d) b (by simpa using e)
  exact⟨y,by simpa using f,g⟩
theorem DenL.append:∀{ds es:List D} {xs ys:List V},DenL K F H ds xs->DenL K F H es ys->DenL K F H (ds++es) (xs++ys)
 |[],_,xs,_,h,h'=>by have q:xs=[]:=h;subst q;exact h'
 |c::ds,es,xs,ys,h,h'=>by
  obtain⟨x,r,q,a,b⟩:=h
  subst q
  exact⟨x,r++ys,rfl,a,DenL.append b h'⟩
theorem DenL.take:∀{ds:List D} {xs:List V} (n:Nat),DenL K F H ds xs->DenL K F H (ds.take n) (xs.take n)
 |[],xs,n,h=>by have q:xs=[]:=h;subst q;simp;rfl
 |c::ds,xs,0,h=>by simp;rfl
 |c::ds,xs,n+1,h=>by
  obtain⟨x,r,q,a,b⟩:=h
  subst q
  exact⟨x,r.take n,rfl,a,DenL.take n b⟩
theorem DenL.drop:∀{ds:List D} {xs:List V} (n:Nat),DenL K F H ds xs->DenL K F H (ds.drop n) (xs.drop n)
 |[],xs,n,h=>by have q:xs=[]:=h;subst q;simp;rfl
 |c::ds,xs,0,h=>h
 |c::ds,xs,n+1,h=>by
  obtain⟨x,r,q,b,a⟩:=h
  subst q
  exact DenL.drop n a
theorem DenL.set:∀{ds:List D} {xs:List V} (i:Nat) {d:D} {x:V},DenL K F H ds xs->Den K F H d x->DenL K F H (ds.set i d) (xs.set i x)
 |[],xs,i,_,_,h,_=>by have q:xs=[]:=h;subst q;simp;rfl
 |c::ds,xs,0,d,x,h,hd=>by
  obtain⟨y,r,q,b,a⟩:=h
  subst q
  exact⟨x,r,rfl,hd,a⟩
 |c::ds,xs,i+1,d,x,h,hd=>by
  obtain⟨y,r,q,b,a⟩:=h
  subst q
  exact⟨y,r.set i x,rfl,b,DenL.set i a hd⟩
theorem Den.sqL{ds:List D}{v:V}(h:Den K F H (.lst ds) v):∃a xs,v= .ref a/\SqL K H a xs/\DenL K F H ds xs:=by
 unfold Den at h
 obtain⟨a,xs,e,b,c⟩:=h
 exact⟨a,xs,e,.inl b.2,c⟩
theorem Den.rdL{ds:List D}{v:V}(h:Den K F H (.lst ds) v):∃a xs,v= .ref a/\Rd H a (.lst xs)/\DenL K F H ds xs:=by
 unfold Den at h
 obtain⟨a,xs,e,b,c⟩:=h
 exact⟨a,xs,e,b.2,c⟩
theorem Den.scr{ns:List Int}{v:V}(h:Den K F H (.scr ns) v):∃a,v= .ref a/\SqL K H a (ns.map V.int):=by
 unfold Den at h
 obtain⟨a,e,b⟩:=h
 exact⟨a,e,b.imp (λp=>p.2) id⟩
theorem Den.sqT{ds:List D}{v:V}(h:Den K F H (.tup ds) v):∃a xs,v= .ref a/\SqT K H a xs/\DenL K F H ds xs:=by
 unfold Den at h
 obtain⟨a,xs,e,b,c⟩:=h
 exact⟨a,xs,e,b.imp (λp=>p.2) id,c⟩
theorem Den.int{i:Int}{v:V}(h:Den K F H (.int i) v):v= .int i:=h
theorem Den.bl{i:Bool}{v:V}(h:Den K F H (.bl i) v):v= .bl i:=h
theorem Den.str{i:Str}{v:V}(h:Den K F H (.str i) v):v= .str i:=h
theorem Den.non{v:V}(h:Den K F H .non v):v= .non:=h
theorem Den.ty{n:String}{v:V}(h:Den K F H (.ty n) v):v= .ty n:=h
theorem DenL.ints:∀(ns:List Int) {xs:List V},DenL K F H (ns.map D.int) xs->xs=ns.map V.int
 |[],xs,h=>h
 |n::ns,xs,h=>by
  obtain⟨x,r,e,a,b⟩:=h
  rw[e,DenL.ints ns b]
  have q:x= .int n:=a
  rw[q];rfl
theorem DenL.ofInts:∀(ns:List Int),DenL K F H (ns.map D.int) (ns.map V.int)
 |[]=>rfl
 |n::ns=>⟨.int n,ns.map V.int,rfl,rfl,DenL.ofInts ns⟩
end
structure Fr (F:Fx) (H:Hp) (β:Bg):Prop where
 occ:∀a,F.A a->H a≠none
 bgA:∀b l,F.bg=some (b,l)->F.A b/\F.A l/\b≠l
 bag:∀b l,F.bg=some (b,l)->H b=some (.lst [.ref l,.int β.i,.int β.j])/\H l=some (.lst (β.cells.map V.int))
structure To (F:Fx) (H H':Hp) (β':Bg):Prop where
 kp:∀a o,H a=some o->(∀b l,F.bg=some (b,l)->a≠b/\a≠l)->H' a=some o
 fr:Fr F H' β'
theorem To.refl{F:Fx}{H:Hp}{β:Bg}(fr:Fr F H β):To F H H β:=⟨λ_ _ h _=>h,fr⟩
theorem To.trans{F:Fx}{H c d:Hp}{β1 β2:Bg}(a:To F H c β1)(b:To F c d β2):To F H d β2:=⟨λx o h n=>b.kp x o (a.kp x o h n) n,b.fr⟩
theorem Fr.same{F:Fx}{H c:Hp}{β:Bg}(fr:Fr F H β)(s:bv H c):To F H c β:=
 ⟨λa o h _=>s a o h,⟨λa h q=>(by
  cases e:H a with
  |none=>exact fr.occ a h e
  |some o=>exact MM ((s a o e).symm.trans q) (by simp)),fr.bgA,λb l e=>⟨s _ _ (fr.bag b l e).1,s _ _ (fr.bag b l e).2⟩⟩⟩
theorem Fr.upd{F:Fx}{H:Hp}{β:Bg}(fr:Fr F H β){p:Addr}(o:HO)(h:H p=none):To F H (upd H p o) β:=fr.same (bv.upd h)
theorem Fr.fresh{F:Fx}{H:Hp}{β:Bg}(fr:Fr F H β){p:Addr}(h:H p=none):¬F.A p:=λq=>fr.occ p q h
theorem To.tr{F:Fx}{H d:Hp}{β c:Bg}(fr:Fr F H β)(t:To F H d c):Tr F H F d:=
 ⟨λ_ h _=>h,λa o h e=>t.kp a o e λb l q=>⟨λz=>h (z▸(fr.bgA b l q).1),λz=>h (z▸(fr.bgA b l q).2.1)⟩,rfl⟩
noncomputable abbrev Dn:=List (Option D)
structure VOk (K:Frag) (F:Fx) (H:Hp) (δ:Dn) (σ:St):Prop where
 len:δ.length=σ.length
 tell:∀(i:Nat) (d:D),δ[i]?=some (some d)->∃v,σ[i]?=some (some v)/\Den K F H d v
theorem VOk.tr{K:Frag}{F a:Fx}{H b:Hp}{δ:Dn}{c:St}(t:Tr F H a b)(h:VOk K F H δ c):VOk K a b δ c:=⟨h.len,λi d e=>let ⟨v,h1,h2⟩:=h.tell i d e;⟨v,h1,Den.tr t d v h2⟩⟩
theorem VOk.set{K:Frag}{F:Fx}{H:Hp}{δ:Dn}{a:St}{i:Nat}{d:D}{v:V}(h:VOk K F H δ a)(hd:Den K F H d v):VOk K F H (δ.set i (some d)) (a.set i (some v)):=by
 refine⟨by rw[Nm,Nm,h.len],λj c e=>?_⟩
 rw[NP]at e
 rw[NP]
 by_cases q:i=j
 ·subst q
  rw[Mu rfl]at e⊢
  split at e
  ·rename_i b
   cases e
   rw[Mu (by rw[←h.len];exact b)]
   exact⟨v,rfl,hd⟩
  ·cases e
 ·rw[Mr q]at e⊢
  exact h.tell j c e
noncomputable def Sub(δ δ1:Dn):Prop:=∀(i:Nat) (d:D),δ[i]?=some (some d)->δ1[i]?=some (some d)
theorem VOk.sub{K:Frag}{F:Fx}{H:Hp}{δ δ1:Dn}{a:St}(h:VOk K F H δ1 a)(s:Sub δ δ1)(l:δ.length=δ1.length):VOk K F H δ a:=⟨l.trans h.len,λi d e=>h.tell i d (s i d e)⟩
noncomputable abbrev M(α:Type):=Bg->Option (Except Addr α×Bg)
noncomputable def M.ret{α:Type}(a:α):M α:=λβ=>some (.ok a,β)
noncomputable def M.bind{α b:Type}(m:M α)(k:α->M b):M b:=λβ=>match m β with
 |none=>none
 |some (.error C,β1)=>some (.error C,β1)
 |some (.ok a,β1)=>k a β1
noncomputable def M.ofO{α:Type}(o:Option α):M α:=λβ=>match o with
 |some a=>some (.ok a,β)
 |none=>none
noncomputable def M.fail{α:Type}:M α:=λ_=>none
theorem M.bind_some{α b:Type}(a:α)(k:α->M b):M.bind (M.ofO (some a)) k=k a:=rfl
theorem M.bind_ok{α b:Type}{m:M α}{k:α->M b}{β β1:Bg}{a:α}(h:m β=some (.ok a,β1)):M.bind m k β=k a β1:=by unfold M.bind;rw[h]
theorem M.bind_err{α a:Type}{m:M α}{k:α->M a}{β β1:Bg}{C:Addr}(h:m β=some (.error C,β1)):M.bind m k β=some (.error C,β1):=by unfold M.bind;rw[h]
noncomputable def run{α c:Type}(R:Hp->α->c->Prop)(F:Fx)(E:St->XK)(e:St)(m:M α)(H:Hp)(Q:c->Hp->Prop)(β:Bg):Prop:=
 ∃r a,m β=some (r,a)/\match r with
  | .ok d=>∀v b,To F H b a->R b d v->Q v b
  | .error C=>∀b,To F H b a->E e (.ref C) none b
theorem run.mono{α c:Type}{R:Hp->α->c->Prop}{F:Fx}{E:St->XK}{g:St}{m:M α}{H:Hp}{Q i:c->Hp->Prop}{β:Bg}(h:run R F E g m H Q β)(f:∀v a,Q v a->i v a):run R F E g m H i β:=by
 obtain⟨r,b,e,h⟩:=h
 refine⟨r,b,e,?_⟩
 cases r with
 |ok d=>exact λv a t q=>f v a (h v a t q)
 |error C=>exact h
theorem run.bind{α l i j:Type}{R:Hp->α->l->Prop}{R2:Hp->i->j->Prop}{F:Fx}{E:St->XK}{b:St}{m:M α}{k:α->M i}{H:Hp}{Q:j->Hp->Prop}{β:Bg}(h:run R2 F E b (M.bind m k) H Q β):
  run R F E b m H (λv a=>∃d β1,To F H a β1/\R a d v/\run R2 F E b (k d) a Q β1) β:=by
 obtain⟨r,c,e,h⟩:=h
 cases q:m β with
 |none=>unfold M.bind at e;rw[q]at e;cases e
 |some z=>
  obtain⟨r1,β1⟩:=z
  refine⟨r1,β1,q,?_⟩
  cases r1 with
  |error C=>
   rw[M.bind_err q]at e
   cases e
   exact h
  |ok d=>
   rw[M.bind_ok q]at e
   intro v a t hd
   refine⟨d,β1,t,hd,r,c,e,?_⟩
   cases r with
   |ok d2=>exact λn f g o=>h n f (t.trans g) o
   |error C=>exact λf g=>h f (t.trans g)
theorem run.ret{α b:Type}{R:Hp->α->b->Prop}{F:Fx}{E:St->XK}{c:St}{a:α}{v:b}{H:Hp}{Q:b->Hp->Prop}{β:Bg}(fr:Fr F H β)(h:run R F E c (M.ret a) H Q β)(r:R H a v):Q v H:=by
 obtain⟨_,_,e,h⟩:=h
 cases e
 exact h v H (To.refl fr) r
theorem run.ofO{α c:Type}{R:Hp->α->c->Prop}{F:Fx}{E:St->XK}{d:St}{o:Option α}{H:Hp}{Q:c->Hp->Prop}{β:Bg}(h:run R F E d (M.ofO o) H Q β):∃a,o=some a/\∀v b,To F H b β->R b a v->Q v b:=by
 obtain⟨_,_,e,h⟩:=h
 cases o with
 |none=>cases e
 |some a=>cases e;exact⟨a,rfl,h⟩
noncomputable abbrev FD:=Dn->M D
noncomputable abbrev FL:=Dn->M (List D)
noncomputable def tV(K:Frag)(f:FD)(E:St->XK):TE:=λa H Q=>∃F δ β,Fr F H β/\VOk K F H δ a/\run (Den K F) F E a (f δ) H Q β
noncomputable def tVA(K:Frag)(f:FL)(E:St->XK):TA:=λa H Q=>∃F δ β,Fr F H β/\VOk K F H δ a/\run (DenL K F) F E a (f δ) H Q β
noncomputable def tVT(K:Frag)(f:Dn->M Bool)(E:St->XK):TT:=λc H Q=>∃F δ β,Fr F H β/\VOk K F H δ c/\run (λ_ (a b:Bool)=>b=a) F E c (f δ) H Q β
theorem _root_.L2.PE.imp{X:Cx}{e:Expr}{t t':TE}(h:PE X e t)(f:∀a H Q,t' a H Q->t a H Q):PE X e t':=λb s a H Q I q=>h b s a H Q I (f a H Q q)
theorem _root_.L2.PT.imp{X:Cx}{e:Expr}{t t':TT}(h:PT X e t)(f:∀a H Q,t' a H Q->t a H Q):PT X e t':=λb s a H Q I q=>h b s a H Q I (f a H Q q)
theorem _root_.L2.PW.imp{X:Cx}{e:Expr}{t t':TT}(h:PW X e t)(f:∀a H Q,t' a H Q->t a H Q):PW X e t':=λc b s a H Q I q=>h c b s a H Q I (f a H Q q)
theorem _root_.L2.PA.imp{X:Cx}{e:List Expr}{t t':TA}(h:PA X e t)(f:∀a H Q,t' a H Q->t a H Q):PA X e t':=λpos b s a H Q I q=>h pos b s a H Q I (f a H Q q)
noncomputable def ac(i:Nat):FD:=λδ=>M.ofO (δ.getD i none)
noncomputable def fC(d:D):FD:=λ_=>M.ret d
noncomputable def f1(op:D->Option D)(f:FD):FD:=λδ=>M.bind (f δ) λa=>M.ofO (op a)
noncomputable def f2(op:D->D->Option D)(f g:FD):FD:=λδ=>M.bind (f δ) λa=>M.bind (g δ) λb=>M.ofO (op a b)
noncomputable def ad:FL:=λ_=>M.ret []
noncomputable def aa(f:FD)(g:FL):FL:=λδ=>M.bind (f δ) λa=>M.bind (g δ) λas=>M.ret (a::as)
noncomputable def ae(op:List D->Option D)(g:FL):FD:=λδ=>M.bind (g δ) λas=>M.ofO (op as)
noncomputable def aq(m:List D->M D)(g:FL):FD:=λδ=>M.bind (g δ) λas=>m as
section
variable{X:Cx}{E:St->XK}{e a b:Expr}{es:List Expr}{pos:Pos}
theorem Lg(i:Nat){x:Str}(h:PE X (.Name x pos) (o6 i)):PE X (.Name x pos) (tV X.K (ac i) E):=h.imp λl H Q c=>by
 obtain⟨F,δ,β,fr,f,r⟩:=c
 obtain⟨d,e,r⟩:=run.ofO r
 have g:δ[i]?=some (some d):=by
  rw[Mp]at e
  cases q:δ[i]? with
  |none=>rw[q]at e;cases e
  |some z=>rw[q]at e;simp at e;rw[e]
 obtain⟨v,j,k⟩:=f.tell i d g
 exact⟨v,j,r v H (To.refl fr) k⟩
theorem v_c{d:D}{v:V}(h:PE X e (tC v))(hd:∀F H,Den X.K F H d v):PE X e (tV X.K (fC d) E):=h.imp λf H Q c=>by obtain⟨F,δ,β,fr,g,r⟩:=c;exact run.ret fr r (hd F H)
theorem ar{i j pos}:PE X (.Constant (.int i) j pos) (tV X.K (fC (.int i)) E):=v_c bz λ_ _=>rfl
theorem sj{i j pos}:PE X (.Constant (.bool i) j pos) (tV X.K (fC (.bl i)) E):=v_c LB λ_ _=>rfl
theorem rn{j pos}:PE X (.Constant .none j pos) (tV X.K (fC .non) E):=v_c IH λ_ _=>rfl
theorem Lh{i j pos}:PE X (.Constant (.str i) j pos) (tV X.K (fC (.str i)) E):=v_c n5 λ_ _=>rfl
theorem kA:PA X [] (tVA X.K ad E):=dW.imp λd H Q c=>by obtain⟨F,δ,β,fr,f,r⟩:=c;exact run.ret fr r DenL.nil
theorem dB{f:FD}{g:FL}(ha:PE X e (tV X.K f E))(k:PA X es (tVA X.K g E))(hs:Mx (e::es) X.env=(false,eval e X.env)::Mx es X.env:=by rfl):PA X (e::es) (tVA X.K (aa f g) E):=
 (bh ha k hs).imp λm H Q c=>ex6 c λF δ β fr i r=>⟨F,δ,β,fr,i,(run.bind (R:=Den X.K F) r).mono λv n ⟨d,β1,t,hd,r1⟩=>
  ⟨F,δ,β1,t.fr,i.tr (t.tr fr),(run.bind (R:=DenL X.K F) r1).mono λvs o c=>ex5 c λds β2 j h l=>run.ret j.fr l (DenL.cons (Den.tr (j.tr t.fr) _ _ hd) h)⟩⟩
noncomputable def aR(K:Frag)(r:R2)(op:D->D->Option D):Prop:=∀(F:Fx) (H:Hp) (β:Bg) (Q:VK) (d1 d2 d:D) (f g:V),Fr F H β->Den K F H d1 f->Den K F H d2 g->op d1 d2=some d->
 (∀v c,To F H c β->Den K F c d v->Q v c)->r f g H Q
noncomputable def EA(K:Frag)(r:V->Hp->VK->Prop)(op:D->Option D):Prop:=∀(F:Fx) (H:Hp) (β:Bg) (Q:VK) (d1 d:D) (f:V),Fr F H β->Den K F H d1 f->op d1=some d->
 (∀v c,To F H c β->Den K F c d v->Q v c)->r f H Q
noncomputable def dQ(K:Frag)(r:List V->Hp->VK->Prop)(op:List D->Option D):Prop:=∀(F:Fx) (H:Hp) (β:Bg) (Q:VK) (ds:List D) (d:D) (vs:List V),Fr F H β->DenL K F H ds vs->op ds=some d->
 (∀v c,To F H c β->Den K F c d v->Q v c)->r vs H Q
theorem nE{r:R2}{op:D->D->Option D}{f g:FD}{K:Frag}(l:aR K r op){j:St}{H:Hp}{Q:VK}(h:tV K (f2 op f g) E j H Q):tOp r (tV K f E) (tV K g E) j H Q:=by
 obtain⟨F,δ,β,fr,m,h⟩:=h
 refine⟨F,δ,β,fr,m,(run.bind (R:=Den K F) h).mono λv u c=>ex5 c λd β1 t hd r1=>⟨F,δ,β1,t.fr,m.tr (t.tr fr),(run.bind (R:=Den K F) r1).mono λo p c=>ex5 c λd2 β2 n i q=>?_⟩⟩
 obtain⟨d3,s,k⟩:=run.ofO q
 exact l F p β2 Q d d2 d3 v o n.fr (Den.tr (n.tr t.fr) _ _ hd) i s k
theorem bw{op:Operator}{r:R2}{o:D->D->Option D}{f g:FD}(c:OpR X (OC op) r)(l:aR X.K r o)(ha:PE X a (tV X.K f E))(d:PE X b (tV X.K g E)):PE X (.BinOp a op b pos) (tV X.K (f2 o f g) E):=
 (cZ c ha d).imp λ_ _ _=>nE l
theorem lH{op:Ub}{r:R2}{o:D->D->Option D}{f g:FD}(c:OpR X (Nw op) r)(l:aR X.K r o)(ha:PE X a (tV X.K f E))(d:PE X b (tV X.K g E))(hm:Qy op b=false:=by first|exact s0 _|rfl):PE X (.Compare a [op] [b] pos) (tV X.K (f2 o f g) E):=
 (FV c ha d hm).imp λ_ _ _=>nE l
theorem HJ{op:UnaryOp}{r:V->Hp->VK->Prop}{o:D->Option D}{f:FD}(g:UnR X (unaryOp op) r)(l:EA X.K r o)(ha:PE X a (tV X.K f E)):PE X (.UnaryOp op a pos) (tV X.K (f1 o f) E):=
 (LA g ha).imp λm H Q c=>ex6 c λF δ β fr i h=>⟨F,δ,β,fr,i,(run.bind (R:=Den X.K F) h).mono λv j c=>ex5 c λd β1 t hd r1=>let ⟨d3,e3,k⟩:=run.ofO r1;l F j β1 Q d d3 v t.fr hd e3 k⟩
theorem cB{r:R2}{o:D->D->Option D}{f g:FD}(c:IxR X r)(l:aR X.K r o)(ha:PE X a (tV X.K f E))(d:PE X b (tV X.K g E))(hs:p8 b:=by exact λ_ _=>rfl):PE X (.Subscript a b pos) (tV X.K (f2 o f g) E):=
 (iN c ha d hs).imp λ_ _ _=>nE l
theorem xR{K:Frag}{r:List V->Hp->VK->Prop}{op:List D->Option D}{g:FL}(l:dQ K r op){c:St}{H:Hp}{Q:VK}(h:tV K (ae op g) E c H Q):tCB r (tVA K g E) c H Q:=by
 obtain⟨F,δ,β,fr,f,h⟩:=h
 refine⟨F,δ,β,fr,f,(run.bind (R:=DenL K F) h).mono λv i j=>ex5 j λd β1 t hd r1=>?_⟩
 obtain⟨d3,m,k⟩:=run.ofO r1
 exact l F i β1 Q d d3 v t.fr hd m k
theorem cm{x:Str}{p:Pos}{f:String}{r:List V->Hp->VK->Prop}{op:List D->Option D}{g:FL}(h:cz X (.builtin f) r)(l:dQ X.K r op)(i:Gl X x)(hm:X.mg x=none)(j:PM x=some (.builtin f))(ha:PA X (e::es) (tVA X.K g E))(hn:x≠"__name__":=by decide)(c:(x==("__debug__":Str))=false:=by decide)
  (k:Mx (e::es) X.env=(false,eval e X.env)::Mx es X.env:=by rfl) (d:(NZ pos (Mx es X.env)).any (·.1)=false:=by rfl):PE X (.Call (.Name x p) (e::es) [] pos) (tV X.K (ae op g) E):=
 (jR h i hm j ha hn c k d).imp λ_ _ _=>xR l
theorem cD{x:Str}{p:Pos}{T:String}{r:List V->Hp->VK->Prop}{op:List D->Option D}{g:FL}(f:cz X (.type T) r)(l:dQ X.K r op)(h:Gl X x)(hm:X.mg x=none)(i:PM x=some (.type T))(ha:PA X (e::es) (tVA X.K g E))(hn:x≠"__name__":=by decide)(c:(x==("__debug__":Str))=false:=by decide)
  (j:Mx (e::es) X.env=(false,eval e X.env)::Mx es X.env:=by rfl) (d:(NZ pos (Mx es X.env)).any (·.1)=false:=by rfl):PE X (.Call (.Name x p) (e::es) [] pos) (tV X.K (ae op g) E):=
 (yr f h hm i ha hn c j d).imp λ_ _ _=>xR l
noncomputable def bB(ds:List D):Option D:=if ds.length<=sizeLine then some (.tup ds)else none
noncomputable def bt(ds:List D):Option D:=if ds.length<=sizeLine then some (.lst ds)else none
theorem Den.newT{K:Frag}{F:Fx}{H:Hp}{β:Bg}{p:Addr}{ds:List D}{xs:List V}(fr:Fr F H β)(h:H p=none)(hd:DenL K F H ds xs):Den K F (upd H p (.tup xs)) (.tup ds) (.ref p):=
 ⟨p,xs,rfl,.inl ⟨fr.fresh h,.inl ai⟩,DenL.tr ((fr.upd _ h).tr fr) _ _ hd⟩
theorem Den.newL{K:Frag}{F:Fx}{H:Hp}{β:Bg}{p:Addr}{ds:List D}{xs:List V}(fr:Fr F H β)(h:H p=none)(hd:DenL K F H ds xs):Den K F (upd H p (.lst xs)) (.lst ds) (.ref p):=
 ⟨p,xs,rfl,⟨fr.fresh h,.inl ai⟩,DenL.tr ((fr.upd _ h).tr fr) _ _ hd⟩
theorem fG{x1}{g:FL}(h:PA X es (tVA X.K g E)):PE X (.Tuple es x1 pos) (tV X.K (ae bB g) E):=
 (IE h).imp λj H Q d=>ex6 d λF δ β fr i r=>⟨F,δ,β,fr,i,(run.bind (R:=DenL X.K F) r).mono λvs l d=>by
  obtain⟨ds,β1,t,hd,r1⟩:=d
  obtain⟨d3,c,k⟩:=run.ofO r1
  unfold bB at c
  split at c
  ·cases c
   exact⟨by rw[←hd.length];assumption,λp f=>k _ _ (t.fr.upd _ f) (Den.newT t.fr f hd)⟩
  ·cases c⟩
theorem d6{g:FL}(h:PA X es (tVA X.K g E)):PE X (.List es pos) (tV X.K (ae bt g) E):=
 (ik h).imp λj H Q d=>ex6 d λF δ β fr i r=>⟨F,δ,β,fr,i,(run.bind (R:=DenL X.K F) r).mono λvs l d=>by
  obtain⟨ds,β1,t,hd,r1⟩:=d
  obtain⟨d3,c,k⟩:=run.ofO r1
  unfold bt at c
  split at c
  ·cases c
   exact⟨by rw[←hd.length];assumption,λp f=>k _ _ (t.fr.upd _ f) (Den.newL t.fr f hd)⟩
  ·cases c⟩
end
noncomputable def spF(K:Frag)(n:Nat)(m:List D->M D):Sp:=λvs H Q E=>vs.length=n/\∃F ds β,Fr F H β/\DenL K F H ds vs/\run (Den K F) F (λ_=>E) [] (m ds) H Q β
section
variable{X:Cx}{E:St->XK}{e:Expr}{es:List Expr}{pos p:Pos}{x:Str}{k n:Nat}{f:Addr}{fd:FuncData}{ps:List Str}
theorem run.toE{α a:Type}{R:Hp->α->a->Prop}{F:Fx}{E:St->XK}{b:St}{m:M α}{H:Hp}{Q:a->Hp->Prop}{β:Bg}(h:run R F E b m H Q β):run R F (λ_=>E b) [] m H Q β:=h
theorem xF{m:List D->M D}{g:FL}(G:FnOk X.prog X.w X.K X.mg X.base (CXE X.prog X.w) k f fd ps (spF X.K n m))(l:Room k X.A)(o:Gl X x)(hm:X.mg x=some (.ref f))(q:RA X.K (.ref f)=true)(s:aA X.K fd ps [])(u:bD (CXE X.prog X.w) X E)
  (ha:PA X (e::es) (tVA X.K g E)) (hn:∀δ β r c,g δ β=some (.ok r,c)->r.length=n) (a:(x==("__debug__":Str))=false:=by decide) (v:Mx (e::es) X.env=(false,eval e X.env)::Mx es X.env:=by rfl) (b:(NZ pos (Mx es X.env)).any (·.1)=false:=by rfl):
  PE X (.Call (.Name x p) (e::es) [] pos) (tV X.K (aq m g) E):=
 (pi G l o hm q s .nil u ha a v b).imp λL H Q y=>ex6 y λF δ β fr z r=>⟨F,δ,β,fr,z,by
  obtain⟨r0,d,i,j⟩:=run.bind (R:=DenL X.K F) r
  refine⟨r0,d,i,?_⟩
  cases r0 with
  |error C=>exact j
  |ok ds=>
   intro vs B t hd
   obtain⟨d',β1,I,h,r1⟩:=j vs B t hd
   have J:=hn _ _ _ _ i
   refine⟨by rw[M2,←hd.length,J],F,d',β1,I.fr,by rw[M2];exact h,run.toE r1⟩⟩
end
theorem CI{δ:Dn}{β a:Bg}{r:List D}(h:ad δ β=some (.ok r,a)):r.length=0:=by cases h;rfl
theorem aK{f:FD}{g:FL}{n:Nat}(b:∀δ β r a,g δ β=some (.ok r,a)->r.length=n):∀δ β r a,aa f g δ β=some (.ok r,a)->r.length=n+1:=by
 intro δ β r a h
 unfold aa M.bind at h
 split at h
 ·cases h
 ·cases h
 ·dsimp only at h
  split at h
  ·cases h
  ·cases h
  ·rename_i as _ c
   cases h
   rw[MA,b _ _ _ _ c]
section
variable{X:Cx}{K:Frag}
noncomputable def opI(g:Int->Int->Option D):D->D->Option D
 | .int i,.int j=>g i j
 |_,_=>none
theorem il{g:Int->Int->Option D}{a b d:D}(h:opI g a b=some d):∃i j,a= .int i/\b= .int j/\g i j=some d:=by
 cases a<;>cases b<;>first|(exact⟨_,_,rfl,rfl,h⟩)|(cases h)
theorem yR{g:Int->Int->Int}:aR K (rI0 λi j=> .int (g i j)) (opI λi j=>some (.int (g i j))):=λF H β Q d1 d2 d c f fr a b e k=>by
 obtain⟨i,j,rfl,rfl,e⟩:=il e
 cases e
 exact⟨i,j,a,b,k _ H (To.refl fr) rfl⟩
theorem j3{g:Int->Int->Bool}:aR K (rI0 λi j=> .bl (g i j)) (opI λi j=>some (.bl (g i j))):=λF H β Q d1 d2 d c f fr a b e k=>by
 obtain⟨i,j,rfl,rfl,e⟩:=il e
 cases e
 exact⟨i,j,a,b,k _ H (To.refl fr) rfl⟩
theorem qv{C:Int->Int->Prop}{c:Int->Int->Bool}{g:Int->Int->Int}(b:∀i j,c i j=true->C i j):aR K (rI C λi j=> .int (g i j)) (opI λi j=>if c i j=true then some (.int (g i j))else none):=λF H β Q d1 d2 d l m fr f h e k=>by
 obtain⟨i,j,rfl,rfl,a⟩:=il e
 split at a
 ·cases a
  exact⟨i,j,f,h,b _ _ (by assumption),k _ H (To.refl fr) rfl⟩
 ·cases a
noncomputable def gm(i:Int):Bool:=decide (i.natAbs<2^1000)
noncomputable def kG:D->D->Option D:=opI λi j=>some (.int (i-j))
noncomputable def oM:D->D->Option D:=opI λi j=>if(decide (0<j)&&decide (j.natAbs.log2<9000))=true then some (.int (i/j))else none
noncomputable def modD:D->D->Option D:=opI λi j=>if decide (0<j)=true then some (.int (i % j))else none
noncomputable def ltD:D->D->Option D:=opI λi j=>some (.bl (decide (i<j)))
noncomputable def leD:D->D->Option D:=opI λi j=>some (.bl (decide (i<=j)))
noncomputable def gtD:D->D->Option D:=opI λi j=>some (.bl (decide (j<i)))
noncomputable def geD:D->D->Option D:=opI λi j=>some (.bl (decide (j<=i)))
theorem lS:aR K (rI0 λi j=> .int (i-j)) kG:=yR
theorem wS:aR K (rI0 λi j=> .bl (decide (i<j))) ltD:=j3
theorem mW:aR K (rI0 λi j=> .bl (decide (i<=j))) leD:=j3
theorem BI:aR K (rI0 λi j=> .bl (decide (j<i))) gtD:=j3
theorem Jd:aR K (rI rT λi j=> .int (i/j)) oM:=qv λi j h=>by
 simp only[MU,Ni]at h
 exact h
noncomputable def wx:R2:=λx y H Q=>∃l b xs a,x= .ref l/\y= .ref b/\Rd H l (.lst xs)/\Rd H b (.lst a)/\xs.length+a.length<=sizeLine/\∀p,H p=none->Q (.ref p) (upd H p (.lst (xs++a)))
theorem FZ:OpR X (OC .Add) wx:=by
 intro c s k H x y v u Q I f g h
 obtain⟨l,b,xs,m,rfl,rfl,i,hB,o,q⟩:=h
 cases f
 cases g
 obtain⟨z,its,n,r,e⟩:=i.ok I.hok
 obtain⟨p,a,t,d,j⟩:=hB.ok I.hok
 have w:=r.length
 have A:=d.length
 refine US e j ?_ (by simp only[MG];omega)
 rw[show its.toArray++a.toArray=(its++a).toArray by simp]
 exact⟨.ref _,_,I.lnew (t':=s.toks) (r.append d) (by rw[MJ];omega),rfl,q _ I.fresh⟩
noncomputable def wy(K:Frag):R2:=λx y H Q=>∃a b ys,x= .ref a/\y= .ref b/\SqT K H a []/\SqT K H b ys/\Q (.ref b) H
theorem GA:OpR X (OC .Add) (wy X.K):=by
 intro i s B H x y v u Q I m o h
 obtain⟨a,b,ys,rfl,rfl,ha,p,q⟩:=h
 cases m
 cases o
 obtain⟨its,r1,r,_⟩:=I.tuple ha
 obtain⟨j,C,t,_⟩:=I.tuple p
 cases r1
 obtain⟨⟨c1,d1,w,f⟩,k,l,n,hd⟩:=r
 obtain⟨⟨c2,d2,z,g⟩,c,d,A,e⟩:=t
 simp only at l hd d e
 subst l hd d e
 exact PySem.concat_meets ⟨_,k,rfl⟩ ⟨_,c,rfl⟩ Tv U1 Rf Q2 (QL _ _) (tuple_addW0 a b _ _ n A d1 d2 f g (by simp)) ⟨k,c,⟨.ref b,H,I,rfl,q⟩⟩
noncomputable def ck:D->D->Option D
 | .int i,.int j=>some (.int (i+j))
 | .tup [],.tup b=>some (.tup b)
 | .lst a,.lst b=>if a.length+b.length<=sizeLine then some (.lst (a++b))else none
 | .tup (c::a),.tup b=>if(c::a).length+b.length<=sizeLine then some (.tup (c::a++b))else none
 |_,_=>none
theorem da:aR K (λx y H Q=>(rI0 λi j=> .int (i+j)) x y H Q\/wx x y H Q\/ww K x y H Q\/wy K x y H Q) ck:=λF H β Q d1 d2 d s t fr g h e k=>by
 unfold ck at e
 split at e
 ·cases e
  exact .inl ⟨_,_,g,h,k _ H (To.refl fr) rfl⟩
 ·cases e
  obtain⟨a,xs,rfl,r1,c⟩:=Den.sqT g
  obtain⟨b,ys,rfl,l,f⟩:=Den.sqT h
  have q:xs=[]:=c
  subst q
  exact .inr (.inr (.inr ⟨a,b,ys,rfl,rfl,r1,l,k _ H (To.refl fr) h⟩))
 ·split at e
  ·cases e
   obtain⟨a,xs,rfl,r1,c⟩:=Den.rdL g
   obtain⟨b,ys,rfl,l,f⟩:=Den.rdL h
   exact .inr (.inl ⟨a,b,xs,ys,rfl,rfl,r1,l,by rw[←c.length,←f.length];assumption,λp m=>k _ _ (fr.upd _ m) (Den.newL fr m (c.append f))⟩)
  ·cases e
 ·split at e
  ·cases e
   obtain⟨a,xs,rfl,r1,c⟩:=Den.sqT g
   obtain⟨b,ys,rfl,l,f⟩:=Den.sqT h
   have n:=c.length
   have o:=f.length
   refine .inr (.inr (.inl ⟨a,b,xs,ys,rfl,rfl,r1,l,(λz=>by subst z;cases n),by rw[←n,←o];assumption,λz=>?_,λ_ p m=>k _ _ (fr.upd _ m) (Den.newT fr m (c.append f))⟩))
   subst z
   have r:=Rk.mp o
   subst r
   rw[M2]at k
   exact k _ H (To.refl fr) g
  ·cases e
 ·cases e
theorem bo:OpR X (OC .Add) (λx y H Q=>(rI0 λi j=> .int (i+j)) x y H Q\/wx x y H Q\/ww X.K x y H Q\/wy X.K x y H Q):=n6.or (FZ.or (FY.or GA))
noncomputable def kZ:D->D->Option D:=opI λi j=>if(gm i&&gm j)=true then some (.int (i*j))else none
theorem wR:aR K (rI rS λi j=> .int (i*j)) kZ:=qv λi j h=>by
 simp only[MU,gm,Ni]at h
 exact h
noncomputable def eqS:D->D->Option Bool
 | .non,.non=>some true
 | .int i,.int j=>some (decide (i=j))
 | .bl i,.bl j=>some (decide (i=j))
 | .str i,.str j=>some (decide (i=j))
 | .int _,.str _=>some false
 | .str _,.int _=>some false
 | .bl _,.str _=>some false
 | .str _,.bl _=>some false
 | .non,.int _=>some false
 | .int _,.non=>some false
 | .non,.str _=>some false
 | .str _,.non=>some false
 |_,_=>none
theorem zj{F:Fx}{H:Hp}{a b:D}{v w:V}{c:Bool}(h:eqS a b=some c)(d:Den K F H a v)(e:Den K F H b w):z5 v w=true/\decide (v=w)=c:=by
 unfold eqS at h
 split at h<;>first
  |(cases h;cases d.int;cases e.int;exact⟨rfl,by simp⟩)
  |(cases h;cases d.bl;cases e.bl;exact⟨rfl,by simp⟩)
  |(cases h;cases d.str;cases e.str;exact⟨rfl,by simp⟩)
  |(cases h;cases d.non;cases e.non;exact⟨rfl,by simp⟩)
  |(cases h;cases d.int;cases e.str;exact⟨rfl,rfl⟩)
  |(cases h;cases d.str;cases e.int;exact⟨rfl,rfl⟩)
  |(cases h;cases d.bl;cases e.str;exact⟨rfl,rfl⟩)
  |(cases h;cases d.str;cases e.bl;exact⟨rfl,rfl⟩)
  |(cases h;cases d.non;cases e.int;exact⟨rfl,rfl⟩)
  |(cases h;cases d.int;cases e.non;exact⟨rfl,rfl⟩)
  |(cases h;cases d.non;cases e.str;exact⟨rfl,rfl⟩)
  |(cases h;cases d.str;cases e.non;exact⟨rfl,rfl⟩)
  |cases h
noncomputable def isN:D->Bool
 | .non=>true
 |_=>false
theorem Jl{F:Fx}{H:Hp}{d:D}{v:V}(h:Den K F H d v):decide (v= .non)=isN d:=by
 cases d with
 |non=>cases h.non;rfl
 |bl b=>cases h.bl;rfl
 |int b=>cases h.int;rfl
 |str b=>cases h.str;rfl
 |ty b=>cases h.ty;rfl
 |txt=>unfold Den at h;obtain⟨z,rfl⟩:=h;rfl
 |lst ds=>obtain⟨a,xs,rfl,_⟩:=Den.sqL h;rfl
 |tup ds=>obtain⟨a,xs,rfl,_⟩:=Den.sqT h;rfl
 |scr ds=>obtain⟨a,rfl,_⟩:=Den.scr h;rfl
 |obj C ns ds=>
  unfold Den at h
  obtain⟨a,_,_,rfl,_⟩:=h;rfl
 |bag=>
  unfold Den at h
  obtain⟨a,_,_,rfl⟩:=h;rfl
 |adr a=>
  unfold Den at h
  obtain rfl:=h;rfl
 |dct b ks vs=>
  unfold Den at h
  obtain⟨a,_,xs,rfl,_⟩:=h;rfl
noncomputable def f9:D->D->Option D
 |a,.non=>some (.bl (isN a))
 |_,_=>none
noncomputable def lP:D->D->Option D
 |a,.non=>some (.bl (!isN a))
 |_,_=>none
theorem wT:aR K (λx y H Q=>y= .non/\Q (.bl (decide (x= .non))) H) f9:=λF H β Q d1 d2 d c f fr a b e k=>by
 unfold f9 at e
 split at e
 ·cases e
  exact⟨b,by rw[Jl a];exact k _ H (To.refl fr) rfl⟩
 ·cases e
noncomputable def de:D->Bool
 | .int _=>true| .bl _=>true| .str _=>true| .non=>true|_=>false
noncomputable def eqF:D->D->Bool
 | .non,.non=>true
 | .bl a,.bl b=>a==b
 | .bl a,.int b=>(if a then 1 else 0)==b
 | .int a,.bl b=>a==(if b then 1 else 0)
 | .int a,.int b=>a==b
 | .str a,.str b=>a==b
 |_,_=>false
noncomputable def dJ:D->Option (List D)
 | .lst a=>some a
 | .tup a=>some a
 |_=>none
noncomputable def inB(x:D)(ys:List D):Bool:=ys.any λy=>eqF y x
noncomputable def inD(neg:Bool)(x y:D):Option D:=(dJ y).bind λys=>if(de x&&ys.all de)=true then some (.bl (if neg then !inB x ys else inB x ys))else none
theorem pM{F:Fx}{H:Hp}{d:D}{v:V}(f:de d=true)(h:Den K F H d v):gj v=true:=by
 cases d<;>first|(cases h.int;rfl)|(cases h.bl;rfl)|(cases h.str;rfl)|(cases h.non;rfl)|cases f
theorem Jt{F:Fx}{H:Hp}{a b:D}{v w:V}(e:de a=true)(f:de b=true)(c:Den K F H a v)(d:Den K F H b w):eqV v w=eqF a b:=by
 cases a<;>first
  |(exfalso;exact Ms e)
  |(cases b<;>first
   |(exfalso;exact Ms f)
   |(cases c.int;cases d.int;rfl)|(cases c.int;cases d.bl;rfl)|(cases c.int;cases d.str;rfl)|(cases c.int;cases d.non;rfl)
   |(cases c.bl;cases d.int;rfl)|(cases c.bl;cases d.bl;rfl)|(cases c.bl;cases d.str;rfl)|(cases c.bl;cases d.non;rfl)
   |(cases c.str;cases d.int;rfl)|(cases c.str;cases d.bl;rfl)|(cases c.str;cases d.str;rfl)|(cases c.str;cases d.non;rfl)
   |(cases c.non;cases d.int;rfl)|(cases c.non;cases d.bl;rfl)|(cases c.non;cases d.str;rfl)|(cases c.non;cases d.non;rfl))
theorem tX{F:Fx}{H:Hp}{x:D}{v:V}(a:de x=true)(b:Den K F H x v):∀{ds:List D} {vs:List V},ds.all de=true->DenL K F H ds vs->vs.all gj=true/\inV v vs=inB x ds
 |[],vs,_,h=>by have q:vs=[]:=h;subst q;exact⟨rfl,rfl⟩
 |d::ds,vs,f,h=>by
  obtain⟨y,r,q,c,g⟩:=h
  subst q
  rw[Q9,MU]at f
  obtain⟨i,e⟩:=tX a b f.2 g
  refine⟨by rw[Q9,pM f.1 c,i];rfl,?_⟩
  unfold inV inB at e⊢
  rw[Qb,Qb,e,Jt f.1 a c b]
theorem BH{neg:Bool}:aR K (rIn K neg) (inD neg):=λF H β Q d1 d2 d j l fr c i e k=>by
 unfold inD at e
 cases q:dJ d2 with
 |none=>rw[q]at e;cases e
 |some ys=>
  rw[q]at e
  simp only[Nz]at e
  split at e
  ·rename_i b
   rw[MU]at b
   cases e
   cases d2<;>first|(cases q;obtain⟨a,xs,rfl,r1,f⟩:=Den.sqL i;obtain⟨g,h⟩:=tX b.1 c b.2 f;exact⟨a,xs,rfl,.inl r1,pM b.1 c,g,by rw[h];exact k _ H (To.refl fr) rfl⟩)|(cases q;obtain⟨a,xs,rfl,r1,f⟩:=Den.sqT i;obtain⟨g,h⟩:=tX b.1 c b.2 f;exact⟨a,xs,rfl,.inr r1,pM b.1 c,g,by rw[h];exact k _ H (To.refl fr) rfl⟩)|cases q
  ·cases e
noncomputable def ixD:D->D->Option D
 | .lst xs,.int i=>atI xs i
 | .tup xs,.int i=>atI xs i
 |_,_=>none
theorem zE{F:Fx}{H:Hp}{ds:List D}{vs:List V}{i:Int}{d:D}(h:DenL K F H ds vs)(e:atI ds i=some d):∃v,atI vs i=some v/\Den K F H d v:=by
 unfold atI at e⊢
 rw[←h.length]
 cases q:ixN ds.length i with
 |none=>rw[q]at e;cases e
 |some j=>
  rw[q]at e
  exact h.get e
theorem cV:aR K (λx y H Q=>wv K x y H Q\/z9 K x y H Q) ixD:=λF H β Q d1 d2 d h i fr f g e k=>by
 unfold ixD at e
 split at e
 ·obtain⟨a,xs,rfl,r1,b⟩:=Den.sqL f
  obtain⟨v,c,hd⟩:=zE b e
  exact .inl ⟨a,xs,_,v,rfl,g,r1,c,k _ H (To.refl fr) hd⟩
 ·obtain⟨a,xs,rfl,r1,b⟩:=Den.sqT f
  obtain⟨v,c,hd⟩:=zE b e
  exact .inr ⟨a,xs,_,v,rfl,g,r1,c,k _ H (To.refl fr) hd⟩
 ·cases e
theorem bj:IxR X (λx y H Q=>wv X.K x y H Q\/z9 X.K x y H Q):=fE.or Jk
noncomputable def bp:List D->Option D
 |[.lst xs]=>some (.int xs.length)
 |[.tup xs]=>some (.int xs.length)
 |_=>none
theorem DenL.one{F:Fx}{H:Hp}{d:D}{vs:List V}(h:DenL K F H [d] vs):∃v,vs=[v]/\Den K F H d v:=by
 obtain⟨x,r,e,a,b⟩:=h
 have q:r=[]:=b
 subst q
 exact⟨x,e,a⟩
theorem DenL.two{F:Fx}{H:Hp}{d c:D}{vs:List V}(h:DenL K F H [d,c] vs):∃v w,vs=[v,w]/\Den K F H d v/\Den K F H c w:=by
 obtain⟨x,r,e,a,b⟩:=h
 obtain⟨y,rfl,f⟩:=DenL.one b
 exact⟨x,y,e,a,f⟩
theorem LQ:dQ K (λxs H Q=>∃p ys,xs=[.ref p]/\(SqL K H p ys\/SqT K H p ys)/\Q (.int ys.length) H) bp:=λF H β Q ds d vs fr h e k=>by
 unfold bp at e
 split at e
 ·cases e
  obtain⟨v,rfl,g⟩:=DenL.one h
  obtain⟨a,xs,rfl,r,b⟩:=Den.sqL g
  exact⟨a,xs,rfl,.inl r,by rw[←b.length];exact k _ H (To.refl fr) rfl⟩
 ·cases e
  obtain⟨v,rfl,g⟩:=DenL.one h
  obtain⟨a,xs,rfl,r,b⟩:=Den.sqT g
  exact⟨a,xs,rfl,.inr r,by rw[←b.length];exact k _ H (To.refl fr) rfl⟩
 ·cases e
noncomputable def p0:List D->Option D
 |[.int i]=>some (.int (if i<0 then -i else i))
 |_=>none
noncomputable def mS:List D->Option D
 |[.int i,.int j]=>some (.int (if j<i then j else i))
 |_=>none
noncomputable def tE:List D->Option D
 |[.int i,.int j]=>some (.int (if j>i then j else i))
 |_=>none
theorem DM:dQ K (λxs H Q=>∃i j,xs=[.int i,.int j]/\Q (.int (if j<i then j else i)) H) mS:=λF H β Q ds d vs fr h e k=>by
 unfold mS at e
 split at e
 ·cases e
  obtain⟨v,w,rfl,g,g'⟩:=DenL.two h
  cases g.int
  cases g'.int
  exact⟨_,_,rfl,k _ H (To.refl fr) rfl⟩
 ·cases e
theorem LO:dQ K (λxs H Q=>∃i j,xs=[.int i,.int j]/\Q (.int (if j>i then j else i)) H) tE:=λF H β Q ds d vs fr h e k=>by
 unfold tE at e
 split at e
 ·cases e
  obtain⟨v,w,rfl,g,g'⟩:=DenL.two h
  cases g.int
  cases g'.int
  exact⟨_,_,rfl,k _ H (To.refl fr) rfl⟩
 ·cases e
noncomputable def dY:List D->Option (List Int)
 |[]=>some []
 | .int i::r=>(dY r).map (i::·)
 |_=>none
theorem intsOf_eq:∀{ds:List D} {ns:List Int},dY ds=some ns->ds=ns.map D.int
 |[],ns,h=>by cases h;rfl
 |d::ds,ns,h=>by
  cases d with
  |int i=>
   unfold dY at h
   cases q:dY ds with
   |none=>rw[q]at h;cases h
   |some a=>rw[q]at h;cases h;rw[intsOf_eq q];rfl
  |_=>cases h
noncomputable def zX:List D->Option D
 |[.lst xs]=>(dY xs).map λns=> .int ns.sum
 |_=>none
theorem LN:dQ K (λxs H Q=>∃(a:Addr) (ns:List Int),xs=[.ref a]/\SqL K H a (ns.map V.int)/\Q (.int ns.sum) H) zX:=λF H β Q ds d vs fr h e k=>by
 unfold zX at e
 split at e
 ·rename_i xs
  cases q:dY xs with
  |none=>rw[q]at e;cases e
  |some ns=>
   rw[q]at e;cases e
   obtain⟨v,rfl,g⟩:=DenL.one h
   obtain⟨a,ys,rfl,r,b⟩:=Den.sqL g
   rw[intsOf_eq q]at b
   have c:=DenL.ints ns b
   subst c
   exact⟨a,ns,rfl,r,k _ H (To.refl fr) rfl⟩
 ·cases e
noncomputable def iT:List D->Option D
 |[.lst xs]=>some (.lst xs)
 |[.tup xs]=>some (.lst xs)
 |_=>none
theorem jy:dQ K (λxs H Q=>∃p ys,xs=[.ref p]/\(SqL K H p ys\/SqT K H p ys)/\∀l,H l=none->Q (.ref l) (upd H l (.lst ys))) iT:=λF H β Q ds d vs fr h e k=>by
 unfold iT at e
 split at e
 ·cases e
  obtain⟨v,rfl,g⟩:=DenL.one h
  obtain⟨a,xs,rfl,r,c⟩:=Den.sqL g
  exact⟨a,xs,rfl,.inl r,λl b=>k _ _ (fr.upd _ b) (Den.newL fr b c)⟩
 ·cases e
  obtain⟨v,rfl,g⟩:=DenL.one h
  obtain⟨a,xs,rfl,r,c⟩:=Den.sqT g
  exact⟨a,xs,rfl,.inr r,λl b=>k _ _ (fr.upd _ b) (Den.newL fr b c)⟩
 ·cases e
noncomputable def jg:List D->Option D
 |[.lst xs]=>some (.tup xs)
 |[.tup xs]=>some (.tup xs)
 |_=>none
theorem lR:dQ K (λxs H Q=>∃p ys,xs=[.ref p]/\((SqL K H p ys/\∀l,H l=none->Q (.ref l) (upd H l (.tup ys)))\/(SqT K H p ys/\Q (.ref p) H))) jg:=λF H β Q ds d vs fr h e k=>by
 unfold jg at e
 split at e
 ·cases e
  obtain⟨v,rfl,g⟩:=DenL.one h
  obtain⟨a,xs,rfl,r,b⟩:=Den.sqL g
  exact⟨a,xs,rfl,.inl ⟨r,λl c=>k _ _ (fr.upd _ c) (Den.newT fr c b)⟩⟩
 ·cases e
  obtain⟨v,rfl,g⟩:=DenL.one h
  obtain⟨a,xs,rfl,r,b⟩:=Den.sqT g
  exact⟨a,xs,rfl,.inr ⟨r,k _ H (To.refl fr) g⟩⟩
 ·cases e
end
noncomputable def asB:D->Option Bool
 | .bl b=>some b
 |_=>none
theorem iB{d:D}{b:Bool}(h:asB d=some b):d= .bl b:=by cases d<;>first|(cases h;rfl)|cases h
noncomputable def jM:D->Option Bool
 | .non=>some false
 | .bl b=>some b
 | .int i=>some (i !=0)
 | .lst xs=>some (!xs.isEmpty)
 | .tup xs=>some (!xs.isEmpty)
 |_=>none
noncomputable def fB(f:FD):Dn->M Bool:=λδ=>M.bind (f δ) λd=>M.ofO (asB d)
noncomputable def eJ(f:FD):Dn->M Bool:=λδ=>M.bind (f δ) λd=>M.ofO (jM d)
noncomputable def l4(f g:Dn->M Bool):Dn->M Bool:=λδ=>M.bind (f δ) λc=>if c=true then g δ else M.ret false
noncomputable def eK(f g:Dn->M Bool):Dn->M Bool:=λδ=>M.bind (f δ) λc=>if c=true then M.ret true else g δ
noncomputable def eA(f:Dn->M Bool):Dn->M Bool:=λδ=>M.bind (f δ) λc=>M.ret (!c)
noncomputable def gO(f g:FD):FD:=λδ=>M.bind (f δ) λd=>M.bind (M.ofO (asB d)) λc=>if c=true then g δ else M.ret (.bl false)
noncomputable def fOr(f g:FD):FD:=λδ=>M.bind (f δ) λd=>M.bind (M.ofO (asB d)) λc=>if c=true then M.ret (.bl true)else g δ
noncomputable def pN(f:FD):FD:=λδ=>M.bind (f δ) λd=>M.bind (M.ofO (asB d)) λc=>M.ret (.bl (!c))
noncomputable def fIf(t:Dn->M Bool)(f g:FD):FD:=λδ=>M.bind (t δ) λc=>if c=true then f δ else g δ
noncomputable def dz(o d:D->D->Option D)(f g h:FD):FD:=λδ=>M.bind (f δ) λa=>M.bind (g δ) λb=>M.bind (M.ofO (o a b)) λz=>M.bind (M.ofO (asB z)) λc=>if c=true then M.bind (h δ) (λw=>M.ofO (d b w))else M.ret (.bl false)
section
variable{X:Cx}{E:St->XK}{a b c:Expr}{rest:List Expr}{pos:Pos}{K:Frag}
theorem M.ofO_bind{α d:Type}{o:Option α}{k:α->M d}{β:Bg}{z:Except Addr d×Bg}(h:M.bind (M.ofO o) k β=some z):∃a,o=some a/\k a β=some z:=by
 cases o with
 |none=>cases h
 |some a=>exact⟨a,rfl,h⟩
theorem run.ofO_bind{α f g:Type}{R:Hp->f->g->Prop}{F:Fx}{i:St}{o:Option α}{k:α->M f}{H:Hp}{Q:g->Hp->Prop}{β:Bg}(h:run R F E i (M.bind (M.ofO o) k) H Q β):∃a,o=some a/\run R F E i (k a) H Q β:=by
 obtain⟨r,d,e,h⟩:=h
 obtain⟨a,q,e⟩:=M.ofO_bind e
 exact⟨a,q,r,d,e,h⟩
theorem run.bOk{F:Fx}{f:St}{d:D}{v:V}{H:Hp}{Q:Bool->Hp->Prop}{β:Bg}(fr:Fr F H β)(hd:Den K F H d v)(h:run (λ_ (a b:Bool)=>b=a) F E f (M.ofO (asB d)) H Q β):∃k,v= .bl k/\Q k H:=by
 obtain⟨b,e,k⟩:=run.ofO h
 rw[iB e]at hd
 exact⟨b,hd,k b H (To.refl fr) rfl⟩
theorem mF{f:FD}{e:St}{H:Hp}{Q:Bool->Hp->Prop}(h:tVT K (fB f) E e H Q):tV K f E e H λx g=>∃k,x= .bl k/\Q k g:=by
 obtain⟨F,δ,β,fr,i,h⟩:=h
 exact⟨F,δ,β,fr,i,(run.bind (R:=Den K F) h).mono λv l j=>ex5 j λd β1 t hd r1=>run.bOk t.fr hd r1⟩
theorem bL{op:Ub}{r:R2}{o:D->D->Option D}{f g:FD}(d:OpR X (Nw op) r)(l:aR X.K r o)(ha:PE X a (tV X.K f E))(e:PE X b (tV X.K g E))(hm:Qy op b=false:=by first|exact s0 _|rfl):PT X (.Compare a [op] [b] pos) (tVT X.K (fB (f2 o f g)) E):=
 (uX d ha e hm).imp λi H Q h=>nE l (mF h)
theorem xP{r L:R2}{o u:D->D->Option D}{f g h:FD}(l:aR K r o)(T:aR K L u){x:St}{H:Hp}{Q:VK}(y:tV K (dz o u f g h) E x H Q):xQ r L (tV K f E) (tV K g E) (tV K h E) x H Q:=by
 obtain⟨F,δ,β,fr,A,y⟩:=y
 refine⟨F,δ,β,fr,A,(run.bind (R:=Den K F) y).mono λv H1 j=>ex5 j λd β1 t hd r1=>⟨F,δ,β1,t.fr,A.tr (t.tr fr),(run.bind (R:=Den K F) r1).mono λN U j=>ex5 j λd2 β2 m n V=>?_⟩⟩
 obtain⟨z,O,W⟩:=run.ofO_bind V
 obtain⟨c,Y,s⟩:=run.ofO_bind W
 rw[iB Y]at O
 refine l F U β2 _ d d2 _ v N m.fr (Den.tr (m.tr t.fr) _ _ hd) n O λvz P i Z=>⟨c,Z,?_⟩
 cases c with
 |true=>
  rw[Mu rfl]at s
  refine⟨F,δ,β2,i.fr,A.tr ((t.tr fr).trans ((m.tr t.fr).trans (i.tr m.fr))),?_⟩
  have r5:run (Den K F) F E x (M.bind (h δ) λw=>M.ofO (u d2 w)) P Q β2:=by
   obtain⟨B,p,e,q⟩:=s
   refine⟨B,p,e,?_⟩
   cases B with
   |ok d=>exact λv G tt=>q v G (i.trans tt)
   |error C=>exact λG tt=>q G (i.trans tt)
  refine(run.bind (R:=Den K F) r5).mono λw H4 j=>ex5 j λdw I S J r6=>?_
  obtain⟨d3,e3,k⟩:=run.ofO r6
  exact T F H4 I Q d2 dw d3 N w S.fr (Den.tr ((i.tr m.fr).trans (S.tr i.fr)) _ _ n) J e3 k
 |false=>
  rw[Mr Ms]at s
  obtain⟨B,p,e,q⟩:=s
  cases e
  exact q _ P i rfl
theorem uK{op d:Ub}{r i:R2}{o j:D->D->Option D}{f g h:FD}(k:OpR X (Nw op) r)(e:OpR X (Nw d) i)(l:aR X.K r o)(m:aR X.K i j)(ha:PE X a (tV X.K f E))(n:PE X b (tV X.K g E))(p:PE X c (tV X.K h E))(hm:Vp [op,d] [b,c]=false:=by with_unfolding_all rfl):
  PT X (.Compare a [op,d] [b,c] pos) (tVT X.K (fB (dz o j f g h)) E):=(AB k e ha n p hm).imp λs H Q q=>xP l m (mF q)
theorem EQ{F:Fx}{H:Hp}{d:D}{v:V}{k:Bool}(h:jM d=some k)(hd:Den K F H d v):CJ K v H k:=by
 cases d with
 |non=>cases h;cases hd.non;rfl
 |bl b=>cases h;cases hd.bl;rfl
 |int i=>cases h;cases hd.int;rfl
 |lst xs=>
  cases h
  obtain⟨a,ys,rfl,r,e⟩:=Den.sqL hd
  refine .inl ⟨ys,r,?_⟩
  have:=e.length
  cases xs<;>cases ys<;>first|rfl|(simp at this)
 |tup xs=>
  cases h
  obtain⟨a,ys,rfl,r,e⟩:=Den.sqT hd
  refine .inr (.inl ⟨ys,r,?_⟩)
  have:=e.length
  cases xs<;>cases ys<;>first|rfl|(simp at this)
 |_=>cases h
theorem nB{f:FD}(ha:PE X a (tV X.K f E))(j:∀g,isTrue a X.env g=(do let v ←g;Pc a.pos;PN [v] (truthy v)):=by intro _;rfl):PT X a (tVT X.K (eJ f) E):=
 (AA ha j).imp λn H Q i=>ex6 i λF δ β fr l h=>⟨F,δ,β,fr,l,(run.bind (R:=Den X.K F) h).mono λv m i=>by
  obtain⟨d,β1,t,hd,r1⟩:=i
  obtain⟨k,e,q⟩:=run.ofO r1
  exact⟨k,EQ e hd,q k m (To.refl t.fr) rfl⟩⟩
theorem rp{f:Dn->M Bool}(ha:PT X a (tVT X.K f E)):PT X (.UnaryOp .Not a pos) (tVT X.K (eA f) E):=
 (Iu ha).imp λi H Q e=>ex6 e λF δ β fr g h=>⟨F,δ,β,fr,g,(run.bind (R:=λ_ (a b:Bool)=>b=a) h).mono λv j e=>by
  obtain⟨d,β1,t,hd,r1⟩:=e
  subst hd
  exact run.ret t.fr r1 rfl⟩
theorem HP{f g:Dn->M Bool}{e:St}{H:Hp}{Q:Bool->Hp->Prop}(h:tVT K (eK f g) E e H Q):tOr (tVT K f E) (tVT K g E) e H Q:=by
 obtain⟨F,δ,β,fr,i,h⟩:=h
 refine⟨F,δ,β,fr,i,(run.bind (R:=λ_ (a b:Bool)=>b=a) h).mono λv k j=>ex5 j λd β1 t hd r1=>?_⟩
 subst hd
 cases v with
 |false=>rw[Mr Ms]at r1⊢;exact⟨F,δ,β1,t.fr,i.tr (t.tr fr),r1⟩
 |true=>rw[Mu rfl]at r1⊢;exact run.ret t.fr r1 rfl
theorem rh{f:Dn->M Bool}(ha:PT X a (tVT X.K f E)):PW X (.BoolOp .Or [a] pos) (tVT X.K f E):=Iq ha
theorem vZ{f g:Dn->M Bool}(ha:PT X a (tVT X.K f E))(d:PW X (.BoolOp .Or (b::rest) pos) (tVT X.K g E)):PW X (.BoolOp .Or (a::b::rest) pos) (tVT X.K (eK f g) E):=(Ly ha d).imp λ_ _ _=>HP
theorem nC{e:Expr}{f:Dn->M Bool}(h:PW X e (tVT X.K f E)):PT X e (tVT X.K f E):=PW.pt h
theorem CU{op}{f:FD}(h:PE X a (tV X.K f E)):PE X (.BoolOp op [a] pos) (tV X.K f E):=IG h
theorem run.asB{F:Fx}{f:St}{d:D}{v:V}{k:Bool->M D}{H:Hp}{Q:VK}{β:Bg}(hd:Den K F H d v)(h:run (Den K F) F E f (M.bind (M.ofO (asB d)) k) H Q β):∃c,v= .bl c/\run (Den K F) F E f (k c) H Q β:=by
 obtain⟨c,e,h⟩:=run.ofO_bind h
 rw[iB e]at hd
 exact⟨c,hd,h⟩
theorem CV{f g:FD}(ha:PE X a (tV X.K f E))(l:PE X (.BoolOp .And (b::rest) pos) (tV X.K g E)):PE X (.BoolOp .And (a::b::rest) pos) (tV X.K (gO f g) E):=
 (IJ ha l).imp λm H Q j=>ex6 j λF δ β fr k h=>⟨F,δ,β,fr,k,(run.bind (R:=Den X.K F) h).mono λv n j=>by
  obtain⟨d,β1,t,hd,r1⟩:=j
  obtain⟨c,e,i⟩:=run.asB hd r1
  refine⟨c,e,?_⟩
  cases c with
  |true=>rw[Mu rfl]at i⊢;exact⟨F,δ,β1,t.fr,k.tr (t.tr fr),i⟩
  |false=>rw[Mr Ms]at i⊢;exact run.ret t.fr i rfl⟩
theorem v_if{t:Dn->M Bool}{f g:FD}(j:PT X c (tVT X.K t E))(ha:PE X a (tV X.K f E))(k:PE X b (tV X.K g E)):PE X (.IfExp c a b pos) (tV X.K (fIf t f g) E):=
 (AK j ha k).imp λl H Q e=>ex6 e λF δ β fr i h=>⟨F,δ,β,fr,i,(run.bind (R:=λ_ (a b:Bool)=>b=a) h).mono λv m e=>by
  obtain⟨d,β1,t,hd,r1⟩:=e
  subst hd
  cases v with
  |true=>rw[Mu rfl]at r1⊢;exact⟨F,δ,β1,t.fr,i.tr (t.tr fr),r1⟩
  |false=>rw[Mr Ms]at r1⊢;exact⟨F,δ,β1,t.fr,i.tr (t.tr fr),r1⟩⟩
noncomputable def tyD:D->Option String
 | .non=>some "NoneType"| .bl _=>some "bool"| .int _=>some "int"| .str _=>some "str"| .lst _=>some "list"| .tup _=>some "tuple"|_=>none
noncomputable def jc:String->String->Option Bool
 |"int","str"=>some false|"int","bool"=>some false|"int","list"=>some false|"int","tuple"=>some false|"int","int"=>some true
 |"bool","str"=>some false|"bool","bool"=>some true|"bool","list"=>some false|"bool","tuple"=>some false
 |"str","str"=>some true|"str","bool"=>some false|"str","list"=>some false|"str","tuple"=>some false
 |"NoneType","str"=>some false|"NoneType","bool"=>some false|"NoneType","list"=>some false|"NoneType","tuple"=>some false
 |"list","list"=>some true|"list","tuple"=>some false|"list","str"=>some false|"list","bool"=>some false
 |"tuple","list"=>some false|"tuple","tuple"=>some true|"tuple","str"=>some false|"tuple","bool"=>some false
 |_,_=>none
noncomputable def i9:String->String->String->Option Bool
 |"int","list","tuple"=>some false|"bool","list","tuple"=>some false|"str","list","tuple"=>some false|"NoneType","list","tuple"=>some false|"list","list","tuple"=>some true|"tuple","list","tuple"=>some true
 |"int","int","str"=>some true|"bool","int","str"=>some true|"str","int","str"=>some true|"NoneType","int","str"=>some false|"list","int","str"=>some false|"tuple","int","str"=>some false
 |_,_,_=>none
theorem GR{a b:String}{c:Bool}(h:jc a b=some c):kitOne K (.type a) (.type b)=some c:=by
 unfold jc at h
 split at h<;>first|(cases h;kernel_rfl)|cases h
theorem GQ{a b d:String}{c:Bool}(h:i9 a b d=some c):Vw K (.type a) ([b,d].map OH)=some c:=by
 unfold i9 at h
 split at h<;>first|(cases h;kernel_rfl)|cases h
noncomputable def TyG(K:Frag)(H:Hp)(x:V)(t:Mh):Prop:=TyOf K H x t\/(∃a ys,x= .ref a/\SqL K H a ys/\t= .type "list")\/(∃a ys,x= .ref a/\SqT K H a ys/\t= .type "tuple")
noncomputable def DH(K:Frag):List V->Hp->VK->Prop:=λxs H Q=>∃x c t b,xs=[x,.ty c]/\TyG K H x t/\kitOne K t (.type c)=some b/\Q (.bl b) H
theorem zy:cz X (.builtin "isinstance") (DH X.K):=by
 intro i s l H xs us Q I r h
 obtain⟨x,c,t,b,rfl,ty,e,q⟩:=h
 cases r with
 |cons r1 d=>
  cases d with
  |cons d k=>
   cases k
   cases d
   rcases ty with ty|⟨a,ys,rfl,sq,rfl⟩|⟨a,ys,rfl,sq,rfl⟩
   ·exact yZ I r1 ty e λj=>⟨.bl b,H,I.tok _,rfl,q⟩
   ·cases r1
    obtain⟨its,_,pl,_⟩:=I.list sq
    obtain⟨o,f,g,_⟩:=pl.isList
    exact Qf Sw I.kIn ⟨o,f,g⟩ e (λz=>nomatch z) λj=>⟨.bl b,H,I.tok _,rfl,q⟩
   ·cases r1
    obtain⟨its,_,pl,_⟩:=I.tuple sq
    obtain⟨o,f,g,_⟩:=pl
    exact Qf Ut I.kIn ⟨o,f,g⟩ e (λz=>nomatch z) λj=>⟨.bl b,H,I.tok _,rfl,q⟩
theorem xJ{F:Fx}{H:Hp}{d:D}{v:V}{t:String}(h:tyD d=some t)(hd:Den K F H d v):TyG K H v (.type t):=by
 cases d with
 |non=>cases h;cases hd.non;exact .inl .non
 |bl b=>cases h;cases hd.bl;exact .inl (.bl b)
 |int b=>cases h;cases hd.int;exact .inl (.int b)
 |str b=>cases h;cases hd.str;exact .inl (.str b)
 |lst ds=>cases h;obtain⟨a,xs,rfl,sq,_⟩:=Den.sqL hd;exact .inr (.inl ⟨a,xs,rfl,sq,rfl⟩)
 |tup ds=>cases h;obtain⟨a,xs,rfl,sq,_⟩:=Den.sqT hd;exact .inr (.inr ⟨a,xs,rfl,sq,rfl⟩)
 |_=>cases h
noncomputable def bR:List D->Option D
 |[x,.ty c]=>(tyD x).bind λt=>(jc t c).map D.bl
 |_=>none
theorem LR:dQ K (DH K) bR:=λF H β Q ds d vs fr h e k=>by
 unfold bR at e
 split at e
 ·rename_i x c
  cases q:tyD x with
  |none=>rw[q]at e;cases e
  |some t=>
   rw[q]at e
   simp only[Nz]at e
   cases q2:jc t c with
   |none=>rw[q2]at e;cases e
   |some b=>
    rw[q2]at e;cases e
    obtain⟨v,w,rfl,f,g⟩:=DenL.two h
    cases g.ty
    exact⟨v,c,_,b,rfl,xJ q f,GR q2,k _ H (To.refl fr) rfl⟩
 ·cases e
noncomputable def yi(K:Frag):List V->Hp->VK->Prop:=λxs H Q=>∃(x:V) (tp:Addr) (cs:List String) (t:Mh) (b:Bool),xs=[x,.ref tp]/\SqT K H tp (cs.map V.ty)/\TyG K H x t/\Vw K t (cs.map OH)=some b/\Q (.bl b) H
theorem oU:cz X (.builtin "isinstance") (yi X.K):=by
 intro l s F H xs us Q I r h
 obtain⟨x,tp,cs,t,b,rfl,v,ty,e,q⟩:=h
 cases r with
 |cons r1 A=>
  cases A with
  |cons A G=>
   cases G
   cases A
   obtain⟨its,L,⟨⟨R,M,N,P⟩,f,m,n,j⟩,_⟩:=I.tuple v
   rw[xH L]at j
   dsimp only at m j
   subst m j
   have d:∀D,EP X l F Q (.bool b) {s with toks:=D}:=λD=>⟨.bl b,H,I.tok _,rfl,q⟩
   rcases ty with ty|⟨a,ys,rfl,sq,rfl⟩|⟨a,ys,rfl,sq,rfl⟩
   ·cases ty with
    |non=>cases r1;exact Qg UG I.kIn Oy f e (λz=>nomatch z) d
    |bl y=>cases r1;exact Qg UF I.kIn Oy f e (λz=>nomatch z) d
    |int i=>obtain⟨t,rfl⟩:=r1;exact Qg UU I.kIn Oy f e (λz=>nomatch z) d
    |str y=>obtain⟨t,rfl⟩:=r1;exact Qg UW I.kIn Oy f e (λz=>nomatch z) d
    |flt y=>obtain⟨t,rfl⟩:=r1;exact Qg Uh I.kIn Oy f e (λz=>nomatch z) d
    |@lst a xs ea=>
     cases r1
     obtain⟨_,_,n,_,g⟩:=(show bd X.prog X.w H s.heap a (.lst xs)from I.hok a _ ea)
     exact Qg Sw I.kIn ⟨_,g,rfl⟩ f e (λz=>nomatch z) d
    |@frz a ob xs ea=>
     cases r1
     obtain⟨_,_,_,n,_,g⟩:=(show bd X.prog X.w H s.heap a (.frz ob (.lst xs))from I.hok a _ ea)
     exact Qg Sw I.kIn ⟨_,g,rfl⟩ f e (λz=>nomatch z) d
    |@tup a xs ea=>
     cases r1
     obtain⟨_,_,_,p⟩:=(show bd X.prog X.w H s.heap a (.tup xs)from I.hok a _ ea)
     obtain⟨o,g,u,_⟩:=p
     exact Qg Ut I.kIn ⟨o,g,u⟩ f e (λz=>nomatch z) d
    |@dK a kvs ea=>
     cases r1
     obtain⟨_,_,vs,_,p⟩:=(show bd X.prog X.w H s.heap a (.dK kvs)from I.hok a _ ea)
     obtain⟨o,es,ep,g,u,_⟩:=p
     exact Qg Vo I.kIn ⟨o,g,u.1⟩ f e (λz=>nomatch z) d
    |@dT a kvs ea=>
     cases r1
     obtain⟨_,_,xs,_,o,es,ep,g,u,_⟩:=(show bd X.prog X.w H s.heap a (.dT kvs)from I.hok a _ ea)
     exact Qg Vo I.kIn ⟨o,g,u.1⟩ f e (λz=>nomatch z) d
    |@ins a C dx fs ea cl ha hn htk hm=>
     cases r1
     obtain⟨S,O,_⟩:=jz I.hok ea
     obtain⟨M,J,_⟩:=O.look
     exact Qg (UV (cl.get _) cl.hd ha hn htk hm) I.kIn J f e (λz=>nomatch z) d
   ·cases r1
    obtain⟨its,_,pl,_⟩:=I.list sq
    obtain⟨o,k,B,_⟩:=pl.isList
    exact Qg Sw I.kIn ⟨o,k,B⟩ f e (λz=>nomatch z) d
   ·cases r1
    obtain⟨its,_,pl,_⟩:=I.tuple sq
    obtain⟨o,k,B,_⟩:=pl
    exact Qg Ut I.kIn ⟨o,k,B⟩ f e (λz=>nomatch z) d
noncomputable def fc:List D->Option D
 |[x,.tup [.ty a,.ty b]]=>(tyD x).bind λt=>(i9 t a b).map D.bl
 |_=>none
theorem yT:dQ K (yi K) fc:=λF H β Q ds d vs fr h e k=>by
 unfold fc at e
 split at e
 ·rename_i x a b
  cases q:tyD x with
  |none=>rw[q]at e;cases e
  |some t=>
   rw[q]at e
   simp only[Nz]at e
   cases q2:i9 t a b with
   |none=>rw[q2]at e;cases e
   |some c=>
    rw[q2]at e;cases e
    obtain⟨v,w,rfl,f,g⟩:=DenL.two h
    obtain⟨p,xs,rfl,sq,i⟩:=Den.sqT g
    obtain⟨y,z,rfl,j,l⟩:=DenL.two i
    cases j.ty
    cases l.ty
    exact⟨v,p,[a,b],_,c,rfl,sq,xJ q f,GQ q2,k _ H (To.refl fr) rfl⟩
 ·cases e
end
noncomputable def ItD(K:Frag)(J:It)(F:Fx)(H:Hp)(ds:List D):Prop:=∀(b:Fx) (a:Hp) (β2:Bg),Tr F H b a->Fr b a β2->∀i,(∀d,ds[i]?=some d->J.go i a/\∀x c,J.yld i a x c->bv a c/\Den K b c d x)/\(i=ds.length->J.stop i a)
theorem ItD.tr{K:Frag}{J:It}{F a:Fx}{H b:Hp}{ds:List D}(t:Tr F H a b)(h:ItD K J F H ds):ItD K J a b ds:=λc d β3 e fr=>h c d β3 (t.trans e) fr
noncomputable def iV(K:Frag)(f:FL)(E:St->XK):TI:=λa H R=>∃F δ β,Fr F H β/\VOk K F H δ a/\run (λb (ds:List D) (J:It)=>ItD K J F b ds) F E a (f δ) H R β
theorem _root_.L2.PI.imp{X:Cx}{tg e:Expr}{t t':TI}(h:PI X tg e t)(f:∀a H Q,t' a H Q->t a H Q):PI X tg e t':=λb s a H Q I q=>h b s a H Q I (f a H Q q)
section
variable{X:Cx}{E:St->XK}{tg:Expr}{K:Frag}
noncomputable def iSeq(K:Frag)(c:TE):TI:=λd H R=>c d H λx b=>(∃a,x= .ref a/\(∃xs,SqL K b a xs)/\R (Itl K a) b)\/(∃a,x= .ref a/\(∃xs,SqT K b a xs)/\R (Itt K a) b)
theorem IC{l:Expr}{k:TE}(m:PE X l k):PI X tg l (iSeq X.K k):=by
 intro d s n H R I h
 refine thn (m d s n H _ I h) λv c ⟨x,i,f,r1,q1⟩=>?_
 have g:∀b∈[c.heap.objs.size],eL X d i b:=λb r=>by
  obtain rfl:b=c.heap.objs.size:=by simpa using r
  exact f.fpOk (Mw _) (f.hok.fresh (Mw _))
 rcases q1 with⟨a,e,⟨xs,j⟩,q⟩|⟨a,e,⟨xs,j⟩,q⟩
 ·subst e
  cases r1
  obtain⟨its,t,p,u⟩:=f.list j
  exact Rv p.isList ⟨c.heap.objs.size,[c.heap.objs.size],_,_,i,rfl,f.kept (t':=c.toks) λb o e=>Mi _ e,qc a _,⟨_,MB _ rfl,rfl,rfl⟩,g,q⟩
 ·subst e
  cases r1
  obtain⟨its,t,p,u⟩:=f.tuple j
  exact SJ (show c.heap.IsTuple a its.toArray from p) ⟨c.heap.objs.size,[c.heap.objs.size],_,_,i,rfl,f.kept (t':=c.toks) λb o e=>Mi _ e,v6 a _,⟨_,MB _ rfl,rfl,rfl⟩,g,q⟩
theorem BL{F:Fx}{H:Hp}{ds:List D}{a:Addr}(h:Den K F H (.lst ds) (.ref a)):ItD K (Itl K a) F H ds:=λm n β2 t fr i=>by
 have j:=Den.tr t _ _ h
 obtain⟨o,xs,e,sq,b⟩:=Den.sqL j
 cases e
 refine⟨λd hd=>?_,λk=>⟨xs,sq,by rw[←b.length,k];exact Mw _⟩⟩
 obtain⟨x,l,_⟩:=b.get hd
 refine⟨⟨xs,x,sq,l⟩,λy p c=>?_⟩
 obtain⟨rfl,c⟩:=c
 obtain⟨d',g,f⟩:=b.getV (c xs sq)
 rw[hd]at g
 cases g
 exact⟨bv.refl _,f⟩
theorem GU{F:Fx}{H:Hp}{ds:List D}{a:Addr}(h:Den K F H (.tup ds) (.ref a)):ItD K (Itt K a) F H ds:=λm n β2 t fr i=>by
 have j:=Den.tr t _ _ h
 obtain⟨o,xs,e,sq,b⟩:=Den.sqT j
 cases e
 refine⟨λd hd=>?_,λk=>⟨xs,sq,by rw[←b.length,k];exact Mw _⟩⟩
 obtain⟨x,l,_⟩:=b.get hd
 refine⟨⟨xs,x,sq,l⟩,λy p c=>?_⟩
 obtain⟨rfl,c⟩:=c
 obtain⟨d',g,f⟩:=b.getV (c xs sq)
 rw[hd]at g
 cases g
 exact⟨bv.refl _,f⟩
noncomputable def aQ(f:FD):FL:=λδ=>M.bind (f δ) λd=>M.ofO (dJ d)
theorem bq{l:Expr}{f:FD}(g:PE X l (tV X.K f E)):PI X tg l (iV X.K (aQ f) E):=
 (IC g).imp λm H R b=>ex6 b λF δ β fr i h=>⟨F,δ,β,fr,i,(run.bind (R:=Den X.K F) h).mono λv c b=>by
  obtain⟨d,β1,t,hd,r1⟩:=b
  obtain⟨ds,e,k⟩:=run.ofO r1
  cases d<;>first
   |(cases e;obtain⟨a,xs,rfl,sq,j⟩:=Den.sqL hd;exact .inl ⟨a,rfl,⟨xs,sq⟩,k _ c (To.refl t.fr) (BL hd)⟩)
   |(cases e;obtain⟨a,xs,rfl,sq,j⟩:=Den.sqT hd;exact .inr ⟨a,rfl,⟨xs,sq⟩,k _ c (To.refl t.fr) (GU hd)⟩)
   |cases e⟩
noncomputable def aP(lo:Int)(n:Nat):List D:=(Mv n).map λ(i:Nat)=> .int (lo+(i:Int))
theorem qy{F:Fx}{H:Hp}{lo:Int}{n:Nat}:ItD K (Itr lo n) F H (aP lo n):=λe f β2 t fr i=>by
 refine⟨λd hd=>?_,λa=>?_⟩
 ·unfold aP at hd
  have a:i<n:=by
   have:=(MF.mp hd).1
   simpa using this
  rw[Mt,NS a]at hd
  cases hd
  exact⟨a,λx g ⟨b,c⟩=>by subst b c;exact⟨bv.refl _,rfl⟩⟩
 ·show n<=i
  rw[a]
  simp[aP]
noncomputable def cI:List D->Option (List D)
 |[.int j]=>if(decide (-(2^62)<=j)&&decide (j<2^62))=true then some (aP 0 j.toNat)else none
 |_=>none
noncomputable def i8:List D->Option (List D)
 |[.int i,.int j]=>if(decide (-(2^62)<=i)&&decide (i<2^62)&&decide (-(2^62)<=j)&&decide (j<2^62))=true then some (aP i (j-i).toNat)else none
 |_=>none
noncomputable def aT(op:List D->Option (List D))(g:FL):FL:=λδ=>M.bind (g δ) λas=>M.ofO (op as)
theorem cJ{a:Expr}{g:FL}{p pos:Pos}(d:Gl X "range")(hm:X.mg "range"=none)(ha:PA X [a] (tVA X.K g E))(hs:Mx [a] X.env=[(false,eval a X.env)]:=by rfl):PI X tg (.Call (.Name "range" p) [a] [] pos) (iV X.K (aT cI g) E):=
 (yq d hm ha hs).imp λm H R b=>ex6 b λF δ β fr f h=>⟨F,δ,β,fr,f,(run.bind (R:=DenL X.K F) h).mono λvs i b=>by
  obtain⟨ds,β1,t,hd,r1⟩:=b
  obtain⟨l,e,k⟩:=run.ofO r1
  unfold cI at e
  split at e
  ·split at e
   ·rename_i c
    cases e
    simp only[MU,Ni]at c
    obtain⟨v,rfl,j⟩:=DenL.one hd
    cases j.int
    exact⟨_,rfl,c.1,c.2,k _ i (To.refl t.fr) qy⟩
   ·cases e
  ·cases e⟩
theorem mZ{a b:Expr}{g:FL}{p pos:Pos}(i:Gl X "range")(hm:X.mg "range"=none)(ha:PA X [a,b] (tVA X.K g E))(hs:Mx [a,b] X.env=[(false,eval a X.env),(false,eval b X.env)]:=by rfl)(d:Mx [b] X.env=[(false,eval b X.env)]:=by rfl):PI X tg (.Call (.Name "range" p) [a,b] [] pos) (iV X.K (aT i8 g) E):=
 (yp i hm ha hs d).imp λq H R f=>ex6 f λF δ β fr j h=>⟨F,δ,β,fr,j,(run.bind (R:=DenL X.K F) h).mono λvs m f=>by
  obtain⟨ds,β1,t,hd,r1⟩:=f
  obtain⟨l,e,k⟩:=run.ofO r1
  unfold i8 at e
  split at e
  ·split at e
   ·rename_i c
    cases e
    simp only[MU,Ni]at c
    obtain⟨v,w,rfl,n,o⟩:=DenL.two hd
    cases n.int
    cases o.int
    exact⟨_,_,rfl,⟨c.1.1.1,c.1.1.2,c.1.2,c.2⟩,k _ m (To.refl t.fr) qy⟩
   ·cases e
  ·cases e⟩
noncomputable abbrev TgF:=D->Dn->Option Dn
noncomputable abbrev iC:=List D->Dn->Option Dn
noncomputable def cy(K:Frag)(g:TG)(tg:TgF):Prop:=∀(F:Fx) (H:Hp) (δ δ1:Dn) (b:St) (d:D) (v:V) (Q:St->Hp->Prop),VOk K F H δ b->Den K F H d v->tg d δ=some δ1->(∀a,VOk K F H δ1 a->Q a H)->g v b H Q
noncomputable def oZ(K:Frag)(g:TGs)(tg:iC):Prop:=∀(F:Fx) (H:Hp) (δ δ1:Dn) (b:St) (ds:List D) (vs:List V) (Q:St->Hp->Prop),VOk K F H δ b->DenL K F H ds vs->tg ds δ=some δ1->(∀a,VOk K F H δ1 a->Q a H)->g vs b H Q
noncomputable def tgC(i:Nat):TgF:=λd δ=>if(δ.getD i (some .non)).isNone then some (δ.set i (some d))else none
noncomputable def cP:iC:=λds δ=>match ds with
 |[]=>some δ
 |_=>none
noncomputable def bf(t:TgF)(u:iC):iC:=λds δ=>match ds with
 |[]=>none
 |d::r=>(t d δ).bind λδ1=>u r δ1
noncomputable def tgT(t:iC):TgF:=λd δ=>match d with
 | .tup ds=>t ds δ
 |_=>none
theorem sw{i:Nat}{d:D}{δ δ1:Dn}(h:tgC i d δ=some δ1):δ[i]?=some none/\δ1=δ.set i (some d):=by
 unfold tgC at h
 split at h
 ·rename_i q
  cases h
  refine⟨?_,rfl⟩
  rw[Mp]at q
  cases e:δ[i]? with
  |none=>rw[e]at q;cases q
  |some z=>
   rw[e]at q
   cases z with
   |none=>rfl
   |some w=>cases q
 ·cases h
theorem au{i:Nat}:cy K (ef i) (tgC i):=λF H δ δ1 b d v Q a hd e k=>by
 obtain⟨_,rfl⟩:=sw e
 exact k _ (a.set hd)
theorem dE:oZ K gNil cP:=λF H δ δ1 b ds vs Q a hd e k=>by
 cases ds with
 |nil=>cases e;exact⟨hd,k _ a⟩
 |cons _ _=>cases e
theorem aY{t:TG}{u:TGs}{b:TgF}{f:iC}(j:cy K t b)(l:oZ K u f):oZ K (w9 t u) (bf b f):=λF H δ δ1 m ds vs Q n hd e k=>by
 cases ds with
 |nil=>cases e
 |cons d r=>
  obtain⟨x,i,rfl,o,p⟩:=hd
  have c:(b d δ).bind (λδ1=>f r δ1)=some δ1:=e
  cases q:b d δ with
  |none=>rw[q]at c;cases c
  |some a=>
   rw[q]at c
   exact⟨x,i,rfl,j F H δ a m d x _ n o q λg h=>l F H a δ1 g r i Q h p c k⟩
theorem eU{n:Nat}{t:TGs}{b:iC}(h:oZ K t b)(hn:∀ds δ δ1,b ds δ=some δ1->ds.length=n):cy K (BT K n t) (tgT b):=λF H δ δ1 f d v Q g hd e k=>by
 cases d<;>first
  |(obtain⟨a,xs,rfl,sq,c⟩:=Den.sqT hd;exact⟨a,xs,rfl,sq,by rw[←c.length];exact hn _ _ _ e,h F H δ δ1 f _ xs Q g c e k⟩)
  |cases e
theorem cE:∀ds δ δ1,cP ds δ=some δ1->ds.length=0:=λds δ δ1 h=>by
 cases ds with
 |nil=>rfl
 |cons _ _=>cases h
theorem aW{t:TgF}{u:iC}{n:Nat}(h:∀ds δ δ1,u ds δ=some δ1->ds.length=n):∀ds δ δ1,bf t u ds δ=some δ1->ds.length=n+1:=λds δ δ1 e=>by
 cases ds with
 |nil=>cases e
 |cons d r=>
  have a:(t d δ).bind (λδ1=>u r δ1)=some δ1:=e
  cases q:t d δ with
  |none=>rw[q]at a;cases a
  |some b=>rw[q]at a;rw[MA,h _ _ _ a]
noncomputable def dZ(tg:TgF):Prop:=∀d δ δ1,tg d δ=some δ1->Sub δ δ1/\δ.length=δ1.length
noncomputable def rQ(tg:iC):Prop:=∀d δ δ1,tg d δ=some δ1->Sub δ δ1/\δ.length=δ1.length
theorem ay{i:Nat}:dZ (tgC i):=λd δ δ1 e=>by
 obtain⟨q,rfl⟩:=sw e
 refine⟨λj c a=>?_,by rw[Nm]⟩
 rw[NP]
 by_cases z:i=j
 ·subst z;rw[q]at a;cases a
 ·rw[Mr z];exact a
theorem dD:rQ cP:=λds δ δ1 e=>by
 cases ds with
 |nil=>cases e;exact⟨λ_ _ h=>h,rfl⟩
 |cons _ _=>cases e
theorem aX{t:TgF}{u:iC}(b:dZ t)(f:rQ u):rQ (bf t u):=λds δ δ1 e=>by
 cases ds with
 |nil=>cases e
 |cons d r=>
  have a:(t d δ).bind (λδ1=>u r δ1)=some δ1:=e
  cases q:t d δ with
  |none=>rw[q]at a;cases a
  |some g=>
   rw[q]at a
   obtain⟨a1,a2⟩:=b _ _ _ q
   obtain⟨b1,b2⟩:=f _ _ _ a
   exact⟨λi c h=>b1 i c (a1 i c h),a2.trans b2⟩
theorem eP{t:iC}(h:rQ t):dZ (tgT t):=λd δ δ1 e=>by
 cases d<;>first|exact h _ _ _ e|cases e
structure ToD (F:Fx) (D:Addr) (H H':Hp) (β':Bg):Prop where
 kp:∀a o,H a=some o->a≠D->(∀b l,F.bg=some (b,l)->a≠b/\a≠l)->H' a=some o
 fr:Fr F H' β'
theorem ToD.trans{F:Fx}{D:Addr}{H c d:Hp}{β1 β2:Bg}(a:ToD F D H c β1)(b:ToD F D c d β2):ToD F D H d β2:=⟨λx o h n m=>b.kp x o (a.kp x o h n m) n m,b.fr⟩
theorem To.toD{F:Fx}{H c:Hp}{b:Bg}(t:To F H c b)(D:Addr):ToD F D H c b:=⟨λa o h _ m=>t.kp a o h m,t.fr⟩
theorem ToD.tr{F:Fx}{D:Addr}{H d:Hp}{β c:Bg}(fr:Fr F H β)(f:F.A D)(t:ToD F D H d c):Tr F H F d:=
 ⟨λ_ h _=>h,λa o h e=>t.kp a o e (λz=>h (z▸f)) λb l q=>⟨λz=>h (z▸(fr.bgA b l q).1),λz=>h (z▸(fr.bgA b l q).2.1)⟩,rfl⟩
structure AR where
 R:Fx->Hp->Addr->List Pu.D->Prop
 Z:List Pu.D->Prop
 tr:∀{F F2:Fx} {H H':Hp} {D:Addr} {as:List Pu.D},R F H D as->(∀o,H D=some o->H' D=some o)->Tr F H F2 H'->R F2 H' D as
 zp:∀{as os:List Pu.D},Z (as++os)->Z as
noncomputable def RL(K:Frag):AR where
 R:=λF H D as=>∃acc,H D=some (.lst acc)/\DenL K F H as acc
 Z:=λl=>l.length<=sizeLine
 tr:=λh k t=>by
  obtain⟨acc,a,b⟩:=h
  exact⟨acc,k _ a,DenL.tr t _ _ b⟩
 zp:=λh=>by rw[MJ]at h;omega
noncomputable def d4(K:Frag)(R:AR)(D:Addr)(g:TB)(f:Dn->M (List Pu.D)):Prop:=∀(F:Fx) (H:Hp) (δ:Dn) (β a:Bg) (e:St) (as os:List Pu.D) (Q:St->Hp->Prop),Fr F H β->F.A D->(∀b l,F.bg=some (b,l)->D≠b/\D≠l)->VOk K F H δ e->R.R F H D as->
 f δ β=some (.ok os,a)->R.Z (as++os)->(∀c d,ToD F D H d a->VOk K F d δ c->R.R F d D (as++os)->Q c d)->g e H Q
noncomputable abbrev mj(K:Frag):=d4 K (RL K)
noncomputable def cEm(f:Dn->M Pu.D):Dn->M (List Pu.D):=λδ=>M.bind (f δ) λd=>M.ret [d]
theorem M.bind_inv{α c:Type}{m:M α}{k:α->M c}{β b:Bg}{r:c}(h:M.bind m k β=some (.ok r,b)):∃a β1,m β=some (.ok a,β1)/\k a β1=some (.ok r,b):=by
 unfold M.bind at h
 split at h
 ·cases h
 ·cases h
 ·rename_i a β1 e
  exact⟨a,β1,e,h⟩
theorem E0.run{α d:Type}{R:Hp->α->d->Prop}{F:Fx}{f:St}{m:M α}{H:Hp}{Q:d->Hp->Prop}{β b:Bg}{a:α}(e:m β=some (.ok a,b))(h:∀v c,To F H c b->R c a v->Q v c):run R F E0 f m H Q β:=⟨.ok a,b,e,h⟩
theorem aZ{D:Addr}{f:Dn->M Pu.D}:mj K D (xv D (tV K f E0)) (cEm f):=λF H δ β c r as os Q fr s g j u e w k=>by
 obtain⟨acc,x,hd⟩:=u
 obtain⟨d,β1,y,A⟩:=M.bind_inv e
 cases A
 refine⟨F,δ,β,fr,j,E0.run y λv m t B=>?_⟩
 have i:=t.kp D _ x g
 have C:=DenL.tr (t.tr fr) _ _ hd
 refine⟨acc,i,by rw[←hd.length];have:=(show(as++[d]).length<=sizeLine from w);simp at this;omega,?_⟩
 have p:ToD F D m (upd m D (.lst (acc++[v]))) c:=by
  refine⟨λa o h n _=>by rw[upd_ne n];exact h,λa h q=>?_,fr.bgA,λb l q=>?_⟩
  ·by_cases z:a=D
   ·subst z;rw[ai]at q;cases q
   ·rw[upd_ne z]at q;exact t.fr.occ a h q
  ·rw[upd_ne (g b l q).1.symm,upd_ne (g b l q).2.symm]
   exact t.fr.bag b l q
 have tt:=p.tr t.fr s
 exact k r _ ((t.toD D).trans p) (j.tr ((t.tr fr).trans tt)) ⟨_,ai,DenL.append (DenL.tr tt _ _ C) ⟨v,[],rfl,Den.tr tt _ _ B,rfl⟩⟩
noncomputable def cLp(tg:TgF)(tt:Dn->M Bool)(b:Dn->M (List Pu.D)):List Pu.D->Dn->M (List Pu.D)
 |[],_=>M.ret []
 |d::ds,δ=>match tg d δ with
  |none=>M.fail
  |some δ1=>M.bind (tt δ1) λc=>M.bind (if c=true then b δ1 else M.ret []) λo=>M.bind (cLp tg tt b ds δ) λos=>M.ret (o++os)
theorem pC{R:AR}{D:Addr}{J:It}{g:TG}{tg:TgF}{tt:Dn->M Bool}{tb:TB}{b:Dn->M (List Pu.D)}(hg:cy K g tg)(sg:dZ tg)(hb:d4 K R D tb b){F:Fx}{H:Hp}{δ:Dn}{β p:Bg}{σ:St}{as os ds:List Pu.D}{Q:St->Hp->Prop}(fr:Fr F H β)(hA:F.A D)(hn:∀b l,F.bg=some (b,l)->D≠b/\D≠l)(vk:VOk K F H δ σ)(hR:R.R F H D as)
  (it:ItD K J F H ds) (e:cLp tg tt b ds δ β=some (.ok os,p)) (hz:R.Z (as++os)) (k:∀a j,ToD F D H j p->VOk K F j δ a->R.R F j D (as++os)->Q a j):cx J g (tVT K tt E0) tb σ H Q:=by
 refine⟨λi m a j=>m+i=ds.length/\∃β1 f r,ToD F D H j β1/\VOk K F j δ a/\R.R F j D f/\cLp tg tt b (ds.drop i) δ β1=some (.ok r,p)/\f++r=as++os,
  ⟨ds.length,by omega,β,as,os,⟨λ_ _ h _ _=>h,fr⟩,vk,hR,e,rfl⟩,?_⟩
 rintro i m a j ⟨hm,β1,f,r,u,v,w,n,T⟩
 have U:=u.tr fr hA
 obtain⟨iy,is⟩:=it F j β1 U u.fr i
 cases I:ds[i]? with
 |none=>
  have L:ds.length<=i:=QU.mp I
  rw[OT L]at n
  cases n
  refine .inl ⟨is (by omega),k a j u v ?_⟩
  rw[←T,M2]
  exact w
 |some d=>
  have L:i<ds.length:=(MF.mp I).1
  obtain⟨go,yl⟩:=iy d I
  have ed:ds.drop i=d::ds.drop (i+1):=by
   rw[N7 L]
   congr 1
   exact MQ ((Mn L).symm.trans I)
  rw[ed]at n
  unfold cLp at n
  cases q:tg d δ with
  |none=>rw[q]at n;cases n
  |some δ1=>
   rw[q]at n
   obtain⟨c,β2,e2,e3⟩:=M.bind_inv n
   obtain⟨o,β3,N,e5⟩:=M.bind_inv e3
   obtain⟨V,β4,e6,e7⟩:=M.bind_inv e5
   cases e7
   obtain⟨s1,s2⟩:=sg _ _ _ q
   refine .inr ⟨go,λy O=>ToD F D H O β3/\VOk K F O δ y/\R.R F O D (f++o),?_,λx W hy=>?_⟩
   ·rintro y O ⟨t9,Y,hR9⟩
    exact⟨m-1,by omega,by omega,β3,f++o,V,t9,Y,hR9,e6,by rw[NF];exact T⟩
   ·obtain⟨sm,dx⟩:=yl x W hy
    have P:To F j W β1:=u.fr.same sm
    have B:=P.tr u.fr
    refine hg F W δ δ1 a d x _ (v.tr B) dx q λσ2 s=>⟨F,δ1,β1,P.fr,s,E0.run e2 λc' H3 S ec=>?_⟩
    subst ec
    have t:=S.tr P.fr
    have C:=R.tr w (λo z=>S.kp D o (sm _ _ z) hn) (B.trans t)
    have G:ToD F D H H3 β2:=u.trans ((P.trans S).toD D)
    have hle:R.Z (f++o):=by
     rw[←T,←NF]at hz
     exact R.zp hz
    cases c' with
    |true=>
     rw[Mu rfl]at N⊢
     refine hb F H3 δ1 β2 β3 σ2 f o _ S.fr hA hn (s.tr t) C N hle λσ4 H4 t4 vk4 hR4=>?_
     exact⟨G.trans t4,vk4.sub s1 s2,hR4⟩
    |false=>
     rw[Mr Ms]at N⊢
     cases N
     exact⟨G,(s.tr t).sub s1 s2,by rw[M2];exact C⟩
noncomputable def cNx(it:Dn->M (List Pu.D))(tg:TgF)(tt:Dn->M Bool)(b:Dn->M (List Pu.D)):Dn->M (List Pu.D):=λδ=>M.bind (it δ) λds=>cLp tg tt b ds δ
theorem mU{R:AR}{D:Addr}{it:Dn->M (List Pu.D)}{g:TG}{tg:TgF}{tt:Dn->M Bool}{c:TB}{b:Dn->M (List Pu.D)}(h:cy K g tg)(i:dZ tg)(j:d4 K R D c b):d4 K R D (xu (iV K it E0) λJ=>cx J g (tVT K tt E0) c) (cNx it tg tt b):=λF H δ β l v as os Q fr m hn d n e p k=>by
 obtain⟨ds,β1,q,r⟩:=M.bind_inv e
 refine⟨F,δ,β,fr,d,E0.run q λJ f t s=>?_⟩
 exact pC h i j t.fr m hn (d.tr (t.tr fr)) (R.tr n (λo z=>t.kp D o z hn) (t.tr fr)) s r p λa f u=>k a f ((t.toD D).trans u)
theorem GP{D:Addr}{it:Dn->M (List Pu.D)}{g:TG}{tg:TgF}{tt:Dn->M Bool}{a:TB}{b:Dn->M (List Pu.D)}(c:cy K g tg)(d:dZ tg)(e:mj K D a b):mj K D (xu (iV K it E0) λJ=>cx J g (tVT K tt E0) a) (cNx it tg tt b):=mU c d e
noncomputable def cSt(nv:Nat)(caps:List Nat)(δ:Dn):Dn:=MC nv none++caps.map λj=>δ.getD j none
noncomputable def aI(nv:Nat)(caps:List Nat)(it:Dn->M (List Pu.D))(tg:TgF)(tt:Dn->M Bool)(b:Dn->M (List Pu.D)):Dn->M Pu.D:=λδ β=>match it δ β with
 |none=>none
 |some (.error C,β1)=>some (.error C,β1)
 |some (.ok ds,β1)=>match cLp tg tt b ds (cSt nv caps δ) β1 with
  |some (.ok os,β2)=>if os.length<=sizeLine then some (.ok (.lst os),β2)else none
  |_=>none
theorem um{F:Fx}{H:Hp}{δ:Dn}{b:St}{vars:List Str}{caps:List Nat}(c:VOk K F H δ b):VOk K F H (cSt vars.length caps δ) (jG vars caps b):=by
 refine⟨by simp[cSt,jG],λi d e=>?_⟩
 unfold cSt at e
 unfold jG
 rw[RJ]at e⊢
 rw[NO]at e⊢
 by_cases a:i<vars.length
 ·rw[Mu a,N1,Mu a]at e
  cases e
 ·rw[Mr a,Mt]at e⊢
  cases q:caps[i-vars.length]? with
  |none=>rw[q]at e;cases e
  |some j=>
   rw[q]at e
   simp only[Nu,TH]at e⊢
   rw[Mp]at e
   cases z:δ[j]? with
   |none=>rw[z]at e;cases e
   |some w=>
    rw[z]at e
    have f:w=some d:=e
    subst f
    obtain⟨v,g,h⟩:=c.tell j d z
    exact⟨v,by rw[Mp,g];rfl,h⟩
theorem sy{vars:List Str}{caps:List Nat}{it:Dn->M (List Pu.D)}{g:TG}{tg:TgF}{tt:Dn->M Bool}{B:Addr->TB}{b:Dn->M (List Pu.D)}(O:cy K g tg)(P:dZ tg)(S:∀D,mj K D (B D) b){G:St}{H:Hp}{Q:VK}(h:tV K (aI vars.length caps it tg tt b) E G H Q):
  rq vars caps (iV K it E) (λD J=>cx J g (tVT K tt E0) (B D)) G H Q:=by
 obtain⟨F,δ,β,fr,I,r,k,e,h⟩:=h
 unfold aI at e
 refine⟨F,δ,β,fr,I,?_⟩
 split at e
 ·cases e
 ·rename_i C β1 q
  cases e
  exact⟨.error C,_,q,h⟩
 ·rename_i ds β1 q
  split at e
  ·rename_i os β2 q2
   split at e
   ·rename_i T
    cases e
    refine⟨.ok ds,β1,q,λJ j t U D d=>?_⟩
    have c:¬F.A D:=t.fr.fresh d
    have V:∀b l,F.bg=some (b,l)->D≠b/\D≠l:=λb l z=>⟨λw=>c (w▸(fr.bgA b l z).1),λw=>c (w▸(fr.bgA b l z).2.1)⟩
    have L:=t.fr.upd (.lst []) d
    have m:Fr ⟨λa=>F.A a\/a=D,F.bg⟩ (upd j D (.lst [])) β1:=by
     refine⟨λa ha z=>?_,λb l z=>let ⟨x,y,w⟩:=fr.bgA b l z;⟨.inl x,.inl y,w⟩,L.fr.bag⟩
     rcases ha with ha|ha
     ·exact L.fr.occ a ha z
     ·subst ha;rw[ai]at z;cases z
    have f:Tr F j ⟨λa=>F.A a\/a=D,F.bg⟩ (upd j D (.lst [])):=⟨λa ha hs z=>by
     rcases z with z|z
     ·exact ha z
     ·subst z;exact hs d,λa o ha z=>by rw[upd_ne (ne_of_none z d)];exact z,rfl⟩
    refine pC (R:=RL K) (D:=D) (as:=[]) (os:=os) O P (S D) m (.inr rfl) V (um (I.tr ((t.tr fr).trans f))) ⟨[],ai,rfl⟩ (U.tr f) q2 (show os.length<=sizeLine from T) λW N p Y s=>?_
    obtain⟨i,u,v⟩:=s
    have Z:To F j N k:=by
     refine⟨λa o z n=>p.kp a o (by rw[upd_ne (ne_of_none z d)];exact z) (ne_of_none z d) n,λa ha z=>p.fr.occ a (Os ha) z,fr.bgA,p.fr.bag⟩
    refine h _ N (t.trans Z) ⟨D,i,rfl,⟨c,.inl u⟩,DenL.tr (F:=⟨λa=>F.A a\/a=D,F.bg⟩) ⟨λa ha _ z=>ha (Os z),λa o _ z=>z,rfl⟩ _ _ v⟩
   ·cases e
  ·cases e
end
inductive Sl where
 |sh (d:D)|own (ds:List D)|grd (rows:List (List D))
noncomputable abbrev Ds:=List (Option Sl)
inductive Out where
 |nx (δ:Ds)|rt (d:D)|bk (δ:Ds)|ct (δ:Ds)|ex (C:Addr) (δ:Ds)|rg (rows:List (List D))
noncomputable abbrev G:=Ds->Bg->Option (Out×Bg)
noncomputable abbrev Ow:=Addr->Option Nat
noncomputable def FxB(B:Ow)(bg:Option (Addr×Addr)):Fx:=⟨λa=>B a≠none,bg⟩
noncomputable def FxA(B:Ow)(bg:Option (Addr×Addr)):Fx:=⟨λa=>B a=some 0\/B a=some 1,bg⟩
noncomputable def RowL(K:Frag)(F:Fx)(H:Hp)(P:Addr->Prop):List (List D)->List Addr->Prop
 |[],[]=>True
 |ds::rows,r::rs=>P r/\(∃xs,H r=some (.lst xs)/\DenL K F H ds xs)/\RowL K F H P rows rs
 |_,_=>False
theorem RowL.tr{K:Frag}{F c:Fx}{H a:Hp}{P d:Addr->Prop}(t:Tr F H c a):∀{rows:List (List D)} {rs:List Addr},RowL K F H P rows rs->(∀r xs,r∈rs->P r->H r=some (.lst xs)->d r/\a r=some (.lst xs))->RowL K c a d rows rs
 |[],[],_,_=>trivial
 |ds::rows,r::rs,h,f=>by
  obtain⟨e,⟨xs,g,i⟩,j⟩:=h
  obtain⟨p,q⟩:=f r xs Mq e g
  exact⟨p,⟨xs,q,DenL.tr t _ _ i⟩,RowL.tr t j λk b l=>f k b (Mo _ l)⟩
 |[],_::_,h,_=>h.elim
 |_::_,[],h,_=>h.elim
theorem RowL.all{K:Frag}{F:Fx}{H:Hp}{P:Addr->Prop}:∀{rows:List (List D)} {rs:List Addr},RowL K F H P rows rs->∀r∈rs,P r/\∃xs,H r=some (.lst xs)
 |[],[],_,r,a=>by cases a
 |ds::rows,r0::rs,h,r,a=>by
  obtain⟨b,⟨xs,c,e⟩,d⟩:=h
  rcases MH.mp a with rfl|a
  ·exact⟨b,xs,c⟩
  ·exact RowL.all d r a
 |[],_::_,h,_,_=>h.elim
 |_::_,[],h,_,_=>h.elim
theorem RowL.den{K:Frag}{F a:Fx}{H:Hp}{P:Addr->Prop}(t:Tr F H a H):∀{rows:List (List D)} {rs:List Addr},RowL K F H P rows rs->(∀r,r∈rs->P r->¬a.A r)->DenL K a H (rows.map D.lst) (rs.map V.ref)
 |[],[],_,_=>rfl
 |ds::rows,r::rs,h,f=>by
  obtain⟨b,⟨xs,c,d⟩,e⟩:=h
  exact DenL.cons ⟨r,xs,rfl,⟨f r Mq b,.inl c⟩,DenL.tr t _ _ d⟩ (RowL.den t e λg i=>f g (Mo _ i))
 |[],_::_,h,_=>h.elim
 |_::_,[],h,_=>h.elim
theorem RowL.len{K:Frag}{F:Fx}{H:Hp}{P:Addr->Prop}:∀{rows:List (List D)} {rs:List Addr},RowL K F H P rows rs->rows.length=rs.length
 |[],[],_=>rfl
 |ds::rows,r::rs,h=>by simp[RowL.len h.2.2]
 |[],_::_,h=>h.elim
 |_::_,[],h=>h.elim
noncomputable def uu(K:Frag)(F:Fx)(H0 H:Hp)(rows:List (List D))(v:V):Prop:=∃a rs,v= .ref a/\H0 a=none/\H a=some (.lst (rs.map V.ref))/\(a::rs).Nodup/\RowL K F H (λr=>H0 r=none) rows rs
noncomputable def DenS(K:Frag)(B:Ow)(bg:Option (Addr×Addr))(H:Hp)(i:Nat):Sl->V->Prop
 | .sh d,v=>Den K (FxB B bg) H d v
 | .own ds,v=>∃a xs,v= .ref a/\B a=some (i+2)/\H a=some (.lst xs)/\DenL K (FxB B bg) H ds xs
 | .grd rows,v=>∃a rs,v= .ref a/\B a=some (i+2)/\H a=some (.lst (rs.map V.ref))/\(a::rs).Nodup/\RowL K (FxB B bg) H (λr=>B r=some (i+2)) rows rs
structure SOk (K:Frag) (H₀:Hp) (B:Ow) (bg:Option (Addr×Addr)) (H:Hp) (δ:Ds) (β:Bg) (σ:St):Prop where
 fr:Fr (FxB B bg) H β
 bgt:∀b l,bg=some (b,l)->B b=some 1/\B l=some 1
 len:δ.length=σ.length
 cov:∀a,H₀ a≠none->H a≠none
 new:∀a k,B a=some (k+2)->H₀ a=none
 lst:∀a k,B a=some (k+2)->∃xs,H a=some (.lst xs)
 tell:∀(i:Nat) (s:Sl),δ[i]?=some (some s)->∃v,σ[i]?=some (some v)/\DenS K B bg H i s v
structure Stp (B:Ow) (H:Hp) (B':Ow) (H':Hp):Prop where
 kp:∀a o,H a=some o->(B a=none\/B a=some 0)->H' a=some o
 tg:∀a,B a=some 0\/B a=some 1->B' a=B a
 nn:∀a o,H a=some o->B a=none->B' a=none
 al:∀a,H a≠none->H' a≠none
theorem Stp.refl(B:Ow)(H:Hp):Stp B H B H:=⟨λ_ _ h _=>h,λ_ _=>rfl,λ_ _ _ h=>h,λ_ h=>h⟩
theorem Stp.trans{B c d:Ow}{H f g:Hp}(a:Stp B H c f)(b:Stp c f d g):Stp B H d g:=by
 refine⟨λx o h n=>b.kp x o (a.kp x o h n) ?_,λx h=>?_,λx o h n=>b.nn x o (a.kp x o h (.inl n)) (a.nn x o h n),λx h=>b.al x (a.al x h)⟩
 ·rcases n with n|n
  ·exact .inl (a.nn x o h n)
  ·exact .inr ((a.tg x (.inl n)).trans n)
 ·have e:=a.tg x h
  rw[←e]at h
  exact(b.tg x h).trans e
noncomputable def i5(K:Frag)(H₀:Hp)(bg:Option (Addr×Addr))(E:St->XK)(Dn:Ends)(B:Ow)(H:Hp)(o:Out)(e:Bg):Prop:=match o with
 | .nx δ'=>∀b c a,Stp B H c a->SOk K H₀ c bg a δ' e b->Dn.nx b a
 | .bk δ'=>∀b c a,Stp B H c a->SOk K H₀ c bg a δ' e b->Dn.bk b a
 | .ct δ'=>∀b c a,Stp B H c a->SOk K H₀ c bg a δ' e b->Dn.ct b a
 | .rt d=>∀v c a,Stp B H c a->Fr (FxB c bg) a e->Den K (FxB c bg) a d v->Dn.rt v a
 | .rg rows=>∀v c a,Stp B H c a->Fr (FxB c bg) a e->uu K (FxB c bg) H₀ a rows v->Dn.rt v a
 | .ex C δ'=>∀b c a,Stp B H c a->SOk K H₀ c bg a δ' e b->E b (.ref C) none a
theorem i5.pre{K:Frag}{H₀:Hp}{bg:Option (Addr×Addr)}{E:St->XK}{Dn:Ends}{B f:Ow}{H g:Hp}{o:Out}{e:Bg}(s:Stp B H f g)(h:i5 K H₀ bg E Dn B H o e):i5 K H₀ bg E Dn f g o e:=by
 cases o with
 |nx δ=>exact λa b c t=>h a b c (s.trans t)
 |bk δ=>exact λa b c t=>h a b c (s.trans t)
 |ct δ=>exact λa b c t=>h a b c (s.trans t)
 |rt d=>exact λv b c t=>h v b c (s.trans t)
 |rg d=>exact λv b c t=>h v b c (s.trans t)
 |ex C δ=>exact λa b c t=>h a b c (s.trans t)
noncomputable def tG(K:Frag)(H₀:Hp)(g:G)(E:St->XK):TS:=λDn b H=>∃B bg δ β o a,SOk K H₀ B bg H δ β b/\g δ β=some (o,a)/\i5 K H₀ bg E Dn B H o a
theorem _root_.L2.PS.imp{X:Cx}{e:Stmt}{t t':TS}(h:PS X e t)(f:∀D a H,t' D a H->t D a H):PS X e t':=λb s a H D I q=>h b s a H D I (f D a H q)
theorem _root_.L2.PSs.imp{X:Cx}{e:List Stmt}{t t':TS}(h:PSs X e t)(f:∀D a H,t' D a H->t D a H):PSs X e t':=λb s a H D I q=>h b s a H D I (f D a H q)
noncomputable def vw(δ:Ds):Dn:=δ.map λs=>match s with
 |some (.sh d)=>some d
 |_=>none
noncomputable def vwA(δ:Ds):Dn:=δ.map λs=>match s with
 |some (.sh d)=>some d
 |some (.own ds)=>some (.lst ds)
 |some (.grd rows)=>some (.lst (rows.map D.lst))
 |none=>none
section
variable{K:Frag}{H₀:Hp}{B:Ow}{bg:Option (Addr×Addr)}{H H':Hp}{δ:Ds}{β β':Bg}{σ:St}
theorem Lf{i:Nat}{d:D}(e:(vw δ)[i]?=some (some d)):δ[i]?=some (some (.sh d)):=by
 unfold vw at e
 rw[Mt]at e
 cases q:δ[i]? with
 |none=>rw[q]at e;cases e
 |some z=>
  rw[q]at e
  cases z with
  |none=>cases e
  |some s=>
   cases s with
   |sh c=>cases e;rfl
   |own ds=>cases e
   |grd rows=>cases e
theorem SOk.view(h:SOk K H₀ B bg H δ β σ):VOk K (FxB B bg) H (vw δ) σ:=⟨by unfold vw;rw[Mj,h.len],λi d e=>h.tell i _ (Lf e)⟩
theorem trA:Tr (FxB B bg) H (FxA B bg) H:=⟨λa h _ z=>by
 have h':¬(B a≠none):=h
 rcases z with z|z
 ·exact h' (by rw[z];simp)
 ·exact h' (by rw[z];simp),λ_ _ _ h=>h,rfl⟩
theorem SOk.frA(h:SOk K H₀ B bg H δ β σ):Fr (FxA B bg) H β:=⟨λa ha=>h.fr.occ a (by
 show B a≠none
 rcases ha with z|z<;>rw[z]<;>simp),λb l e=>⟨.inr (h.bgt b l e).1,.inr (h.bgt b l e).2,(h.fr.bgA b l e).2.2⟩,h.fr.bag⟩
theorem SOk.viewA(h:SOk K H₀ B bg H δ β σ):VOk K (FxA B bg) H (vwA δ) σ:=by
 refine⟨by unfold vwA;rw[Mj,h.len],λi d e=>?_⟩
 unfold vwA at e
 rw[Mt]at e
 cases q:δ[i]? with
 |none=>rw[q]at e;cases e
 |some z=>
  rw[q]at e
  cases z with
  |none=>cases e
  |some s=>
   obtain⟨v,f,g⟩:=h.tell i s q
   cases s with
   |sh c=>cases e;exact⟨v,f,Den.tr trA _ _ g⟩
   |own ds=>
    cases e
    obtain⟨a,xs,j,k,l,m⟩:=g
    refine⟨v,f,a,xs,j,⟨λz=>?_,.inl l⟩,DenL.tr trA _ _ m⟩
    have b:B a=some 0\/B a=some 1:=z
    rw[k]at b
    rcases b with b|b<;>cases b
   |grd rows=>
    cases e
    obtain⟨a,rs,j,k,l,m,o⟩:=g
    have n:∀c,B c=some (i+2)->¬(FxA B bg).A c:=λc p z=>by
     have b:B c=some 0\/B c=some 1:=z
     rw[p]at b
     rcases b with b|b<;>cases b
    exact⟨v,f,a,_,j,⟨n a k,.inl l⟩,RowL.den trA o λr _ t=>n r t⟩
theorem SOk.to{F:Fx}(h:SOk K H₀ B bg H δ β σ)(hF:F.bg=bg)(t:To F H H' β'):SOk K H₀ B bg H' δ β' σ/\Stp B H B H':=by
 have C:∀a,B a≠some 1->∀b l,F.bg=some (b,l)->a≠b/\a≠l:=λa ha b l e=>by
  rw[hF]at e
  exact⟨λz=>ha (z▸(h.bgt b l e).1),λz=>ha (z▸(h.bgt b l e).2)⟩
 have kp:∀a o,H a=some o->B a≠some 1->H' a=some o:=λa o e n=>t.kp a o e (C a n)
 have fr:Fr (FxB B bg) H' β':=⟨λa ha z=>(by
  by_cases D:B a=some 1
  ·by_cases d:∃b l,bg=some (b,l)/\(a=b\/a=l)
   ·obtain⟨b,l,e,q⟩:=d
    obtain⟨g,j⟩:=t.fr.bag b l (hF.trans e)
    rcases q with rfl|rfl
    ·rw[g]at z;cases z
    ·rw[j]at z;cases z
   ·cases q:H a with
    |none=>exact h.fr.occ a ha q
    |some o=>
     rw[t.kp a o q λb l e=>⟨λw=>d ⟨b,l,hF.symm.trans e,.inl w⟩,λw=>d ⟨b,l,hF.symm.trans e,.inr w⟩⟩]at z
     cases z
  ·cases q:H a with
   |none=>exact h.fr.occ a ha q
   |some o=>rw[kp a o q D]at z;cases z),h.fr.bgA,λb l e=>t.fr.bag b l (hF.trans e)⟩
 have tr:Tr (FxB B bg) H (FxB B bg) H':=⟨λ_ n _=>n,λa o n e=>kp a o e (λz=>n (by show B a≠none;rw[z];simp)),rfl⟩
 have al:∀a,H a≠none->H' a≠none:=λa ha z=>by
  by_cases d:∃b l,bg=some (b,l)/\(a=b\/a=l)
  ·obtain⟨b,l,e,q⟩:=d
   obtain⟨g,j⟩:=t.fr.bag b l (hF.trans e)
   rcases q with rfl|rfl
   ·rw[g]at z;cases z
   ·rw[j]at z;cases z
  ·cases q:H a with
   |none=>exact ha q
   |some o=>
    rw[t.kp a o q λb l e=>⟨λw=>d ⟨b,l,hF.symm.trans e,.inl w⟩,λw=>d ⟨b,l,hF.symm.trans e,.inr w⟩⟩]at z
    cases z
 refine⟨⟨fr,h.bgt,h.len,λa ha=>al a (h.cov a ha),h.new,λc k A=>(let ⟨xs,z⟩:=h.lst c k A;⟨xs,kp c _ z (by rw[A];intro z;cases z)⟩),λi s e=>?_⟩,λa o e n=>kp a o e (by rcases n with n|n<;>rw[n]<;>simp),λ_ _=>rfl,λ_ _ _ n=>n,al⟩
 obtain⟨v,E,m⟩:=h.tell i s e
 refine⟨v,E,?_⟩
 cases s with
 |sh c=>exact Den.tr tr _ _ m
 |own ds=>
  obtain⟨a,xs,u,f,x,y⟩:=m
  exact⟨a,xs,u,f,kp a _ x (by rw[f];intro z;cases z),DenL.tr tr _ _ y⟩
 |grd rows=>
  obtain⟨a,rs,u,f,x,y,G⟩:=m
  exact⟨a,rs,u,f,kp a _ x (by rw[f];intro z;cases z),y,RowL.tr tr G λr xs _ p q=>⟨p,kp r _ q (by rw[p];intro z;cases z)⟩⟩
theorem SOk.set{i:Nat}{d:D}{v:V}(h:SOk K H₀ B bg H δ β σ)(hd:Den K (FxB B bg) H d v):SOk K H₀ B bg H (δ.set i (some (.sh d))) β (σ.set i (some v)):=by
 refine⟨h.fr,h.bgt,by rw[Nm,Nm,h.len],h.cov,h.new,h.lst,λj c e=>?_⟩
 rw[NP]at e
 rw[NP]
 by_cases q:i=j
 ·subst q
  rw[Mu rfl]at e⊢
  split at e
  ·rename_i a
   cases e
   rw[Mu (by rw[←h.len];exact a)]
   exact⟨v,rfl,hd⟩
  ·cases e
 ·rw[Mr q]at e⊢
  exact h.tell j c e
end
noncomputable def gNil:G:=λδ β=>some (.nx δ,β)
noncomputable def ag(g h:G):G:=λδ β=>match g δ β with
 |some (.nx δ1,β1)=>h δ1 β1
 |r=>r
noncomputable def aG(i:Nat)(f:FD):G:=λδ β=>match f (vw δ) β with
 |some (.ok d,β1)=>some (.nx (δ.set i (some (.sh d))),β1)
 |some (.error C,β1)=>some (.ex C δ,β1)
 |none=>none
noncomputable def lX(i:Nat)(f:FD):G:=λδ β=>match f (vwA δ) β with
 |some (.ok d,β1)=>if de d=true then some (.nx (δ.set i (some (.sh d))),β1)else none
 |some (.error C,β1)=>some (.ex C δ,β1)
 |none=>none
noncomputable def dO(f:FD):G:=λδ β=>match f (vwA δ) β with
 |some (.ok _,β1)=>some (.nx δ,β1)
 |some (.error C,β1)=>some (.ex C δ,β1)
 |none=>none
noncomputable def aF(f:FD):G:=λδ β=>match f (vwA δ) β with
 |some (.ok d,β1)=>some (.rt d,β1)
 |some (.error C,β1)=>some (.ex C δ,β1)
 |none=>none
noncomputable def gIf(t:Dn->M Bool)(g h:G):G:=λδ β=>match t (vwA δ) β with
 |some (.ok true,β1)=>g δ β1
 |some (.ok false,β1)=>h δ β1
 |some (.error C,β1)=>some (.ex C δ,β1)
 |none=>none
section
variable{X:Cx}{E:St->XK}{e:Expr}{st:Stmt}{sts:List Stmt}{pos:Pos}
theorem bM:PSs X [] (tG X.K X.H₀ gNil E):=ph.imp λD a H b=>by
 obtain⟨B,bg,δ,β,o,c,ok,e,h⟩:=b
 cases e
 exact h a B H (Stp.refl B H) ok
theorem aj{g h:G}(c:PS X st (tG X.K X.H₀ g E))(d:PSs X sts (tG X.K X.H₀ h E)):PSs X (st::sts) (tG X.K X.H₀ (ag g h) E):=(bO c d).imp λD m H f=>by
 obtain⟨B,bg,δ,β,o,a,ok,e,q⟩:=f
 unfold ag at e
 split at e
 ·rename_i δ1 β1 i
  refine⟨B,bg,δ,β,.nx δ1,β1,ok,i,λj k n s b=>⟨k,bg,δ1,β1,o,a,b,e,i5.pre s ?_⟩⟩
  exact q
 ·rename_i r l
  refine⟨B,bg,δ,β,o,a,ok,e,?_⟩
  cases o with
  |nx δ1=>exact MM e (l δ1 a)
  |_=>exact q
theorem ao{g:G}(a:PS X st (tG X.K X.H₀ g E)):PSs X [st] (tG X.K X.H₀ g E):=fD a
theorem aM{i:Nat}{x:Str}{a:Pos}{f:FD}(h:PS X (.Assign [.Name x a] e pos) (i6 (tV X.K f E) (ef i))):PS X (.Assign [.Name x a] e pos) (tG X.K X.H₀ (aG i f) E):=h.imp λD m H k=>by
 obtain⟨B,bg,δ,β,o,l,ok,e,q⟩:=k
 refine⟨FxB B bg,vw δ,β,ok.fr,ok.view,?_⟩
 unfold aG at e
 split at e
 ·rename_i d β1 c
  cases e
  refine⟨.ok d,_,c,λv g t hd=>?_⟩
  obtain⟨b,j⟩:=ok.to rfl t
  exact q _ B g j (b.set hd)
 ·rename_i C β1 c
  cases e
  refine⟨.error C,_,c,λg t=>?_⟩
  obtain⟨b,j⟩:=ok.to rfl t
  exact q _ B g j b
 ·cases e
theorem nR{f:FD}(h:PS X (.Expr e pos) (wb (tV X.K f E))):PS X (.Expr e pos) (tG X.K X.H₀ (dO f) E):=h.imp λD k H i=>by
 obtain⟨B,bg,δ,β,o,j,ok,e,q⟩:=i
 refine⟨FxA B bg,vwA δ,β,ok.frA,ok.viewA,?_⟩
 unfold dO at e
 split at e
 ·rename_i d β1 b
  cases e
  refine⟨.ok d,_,b,λv c t hd=>?_⟩
  obtain⟨a,g⟩:=ok.to rfl t
  exact q _ B c g a
 ·rename_i C β1 b
  cases e
  refine⟨.error C,_,b,λc t=>?_⟩
  obtain⟨a,g⟩:=ok.to rfl t
  exact q _ B c g a
 ·cases e
noncomputable def f6(B:Ow):Ow:=λa=>if B a=some 0\/B a=some 1 then B a else none
theorem I9{B:Ow}{bg:Option (Addr×Addr)}{H:Hp}:Tr (FxA B bg) H (FxB (f6 B) bg) H:=⟨λa h _ z=>by
 have b:f6 B a≠none:=z
 unfold f6 at b
 split at b
 ·rename_i q;exact h q
 ·exact b rfl,λ_ _ _ h=>h,rfl⟩
theorem BB{B:Ow}{H:Hp}:Stp B H (f6 B) H:=⟨λ_ _ h _=>h,λa h=>by unfold f6;rw[Mu h],λa o h n=>by unfold f6;rw[n];simp,λ_ h=>h⟩
theorem aL{f:FD}(h:PS X (.Return (some e) pos) (HN (tV X.K f E))):PS X (.Return (some e) pos) (tG X.K X.H₀ (aF f) E):=h.imp λD p H m=>by
 obtain⟨B,bg,δ,β,o,n,ok,e,q⟩:=m
 refine⟨FxA B bg,vwA δ,β,ok.frA,ok.viewA,?_⟩
 unfold aF at e
 split at e
 ·rename_i d β1 i
  cases e
  refine⟨.ok d,_,i,λv j t hd=>?_⟩
  obtain⟨c,k⟩:=ok.to rfl t
  refine q _ (f6 B) j (k.trans BB) ⟨λa ha=>c.fr.occ a ?_,λb l e=>?_,c.fr.bag⟩ (Den.tr I9 _ _ hd)
  ·have g:f6 B a≠none:=ha
   show B a≠none
   unfold f6 at g
   split at g
   ·exact g
   ·exact MM rfl g
  ·refine⟨?_,?_,(c.fr.bgA b l e).2.2⟩
   ·show f6 B b≠none
    unfold f6
    rw[Mu (.inr (ok.bgt b l e).1),(ok.bgt b l e).1];simp
   ·show f6 B l≠none
    unfold f6
    rw[Mu (.inr (ok.bgt b l e).2),(ok.bgt b l e).2];simp
 ·rename_i C β1 i
  cases e
  refine⟨.error C,_,i,λj t=>?_⟩
  obtain⟨c,k⟩:=ok.to rfl t
  exact q _ B j k c
 ·cases e
theorem cQ{c:Expr}{a b:List Stmt}{t:Dn->M Bool}{g h:G}(l:PT X c (tVT X.K t E))(ha:PSs X a (tG X.K X.H₀ g E))(m:PSs X b (tG X.K X.H₀ h E)):PS X (.If c a b pos) (tG X.K X.H₀ (gIf t g h) E):=(DI l ha m).imp λD p H n=>by
 obtain⟨B,bg,δ,β,o,f,ok,e,q⟩:=n
 refine⟨FxA B bg,vwA δ,β,ok.frA,ok.viewA,?_⟩
 unfold gIf at e
 split at e
 ·rename_i β1 i
  refine⟨.ok true,_,i,λv k t hd=>?_⟩
  subst hd
  obtain⟨d,j⟩:=ok.to rfl t
  rw[Mu rfl]
  exact⟨B,bg,δ,β1,o,f,d,e,i5.pre j q⟩
 ·rename_i β1 i
  refine⟨.ok false,_,i,λv k t hd=>?_⟩
  subst hd
  obtain⟨d,j⟩:=ok.to rfl t
  rw[Mr Ms]
  exact⟨B,bg,δ,β1,o,f,d,e,i5.pre j q⟩
 ·rename_i C β1 i
  cases e
  refine⟨.error C,_,i,λk t=>?_⟩
  obtain⟨d,j⟩:=ok.to rfl t
  exact q _ B k j d
 ·cases e
noncomputable abbrev TgS:=D->Ds->Option Ds
noncomputable abbrev lz:=List D->Ds->Option Ds
noncomputable def oY(K:Frag)(g:TG)(tg:TgS):Prop:=∀(H₀:Hp) (B:Ow) (bg:Option (Addr×Addr)) (H:Hp) (δ δ1:Ds) (β:Bg) (b:St) (d:D) (v:V) (Q:St->Hp->Prop),SOk K H₀ B bg H δ β b->Den K (FxB B bg) H d v->tg d δ=some δ1->(∀a,SOk K H₀ B bg H δ1 β a->Q a H)->g v b H Q
noncomputable def oX(K:Frag)(g:TGs)(tg:lz):Prop:=∀(H₀:Hp) (B:Ow) (bg:Option (Addr×Addr)) (H:Hp) (δ δ1:Ds) (β:Bg) (b:St) (ds:List D) (vs:List V) (Q:St->Hp->Prop),SOk K H₀ B bg H δ β b->DenL K (FxB B bg) H ds vs->tg ds δ=some δ1->(∀a,SOk K H₀ B bg H δ1 β a->Q a H)->g vs b H Q
noncomputable def sgN(i:Nat):TgS:=λd δ=>some (δ.set i (some (.sh d)))
noncomputable def i7:lz:=λds δ=>match ds with
 |[]=>some δ
 |_=>none
noncomputable def gE(t:TgS)(u:lz):lz:=λds δ=>match ds with
 |[]=>none
 |d::r=>(t d δ).bind λδ1=>u r δ1
noncomputable def sgT(t:lz):TgS:=λd δ=>match d with
 | .tup ds=>t ds δ
 |_=>none
variable{K:Frag}
theorem bi{i:Nat}:oY K (ef i) (sgN i):=λH₀ B bg H δ δ1 β a d v Q ok hd e k=>by
 cases e
 exact k _ (ok.set hd)
theorem vd:oX K L2.gNil i7:=λH₀ B bg H δ δ1 β a ds vs Q ok hd e k=>by
 cases ds with
 |nil=>cases e;exact⟨hd,k _ ok⟩
 |cons _ _=>cases e
theorem jZ{t:TG}{u:TGs}{b:TgS}{f:lz}(j:oY K t b)(l:oX K u f):oX K (w9 t u) (gE b f):=λH₀ B bg H δ δ1 β m ds vs Q ok hd e k=>by
 cases ds with
 |nil=>cases e
 |cons d r=>
  obtain⟨x,i,rfl,n,o⟩:=hd
  have c:(b d δ).bind (λδ1=>f r δ1)=some δ1:=e
  cases q:b d δ with
  |none=>rw[q]at c;cases c
  |some a=>
   rw[q]at c
   exact⟨x,i,rfl,j H₀ B bg H δ a β m d x _ ok n q λg h=>l H₀ B bg H a δ1 β g r i Q h o c k⟩
theorem sE:∀ds δ δ1,i7 ds δ=some δ1->ds.length=0:=λds δ δ1 h=>by
 cases ds with
 |nil=>rfl
 |cons _ _=>cases h
theorem jN{t:TgS}{u:lz}{n:Nat}(h:∀ds δ δ1,u ds δ=some δ1->ds.length=n):∀ds δ δ1,gE t u ds δ=some δ1->ds.length=n+1:=λds δ δ1 e=>by
 cases ds with
 |nil=>cases e
 |cons d r=>
  have a:(t d δ).bind (λδ1=>u r δ1)=some δ1:=e
  cases q:t d δ with
  |none=>rw[q]at a;cases a
  |some b=>rw[q]at a;rw[MA,h _ _ _ a]
theorem yN{n:Nat}{t:TGs}{b:lz}(h:oX K t b)(hn:∀ds δ δ1,b ds δ=some δ1->ds.length=n):oY K (BT K n t) (sgT b):=λH₀ B bg H δ δ1 β f d v Q ok hd e k=>by
 cases d<;>first
  |(obtain⟨a,xs,rfl,sq,c⟩:=Den.sqT hd;exact⟨a,xs,rfl,sq,by rw[←c.length];exact hn _ _ _ e,h H₀ B bg H δ δ1 β f _ xs Q ok c e k⟩)
  |cases e
noncomputable def gN(f:FD)(tg:TgS):G:=λδ β=>match f (vw δ) β with
 |some (.ok d,β1)=>(tg d δ).map λδ1=>(.nx δ1,β1)
 |some (.error C,β1)=>some (.ex C δ,β1)
 |none=>none
theorem DC{b:Expr}{f:FD}{g:TG}{tg:TgS}(l:oY X.K g tg)(h:PS X (.Assign [b] e pos) (i6 (tV X.K f E) g)):PS X (.Assign [b] e pos) (tG X.K X.H₀ (gN f tg) E):=h.imp λD n H p=>by
 obtain⟨B,bg,δ,β,o,r,ok,e,q⟩:=p
 refine⟨FxB B bg,vw δ,β,ok.fr,ok.view,?_⟩
 unfold gN at e
 split at e
 ·rename_i d β1 i
  cases q1:tg d δ with
  |none=>rw[q1]at e;cases e
  |some δ1=>
   rw[q1]at e
   cases e
   refine⟨.ok d,_,i,λv c t hd=>?_⟩
   obtain⟨a,j⟩:=ok.to rfl t
   exact l X.H₀ B bg c δ δ1 _ n d v _ a hd q1 λk m=>q k B c j m
 ·rename_i C β1 i
  cases e
  refine⟨.error C,_,i,λc t=>?_⟩
  obtain⟨a,j⟩:=ok.to rfl t
  exact q _ B c j a
 ·cases e
noncomputable def pK(i j:Nat)(f:FL):G:=λδ β=>match f (vw δ) β with
 |some (.ok [c,d],β1)=>some (.nx ((δ.set i (some (.sh c))).set j (some (.sh d))),β1)
 |some (.error C,β1)=>some (.ex C δ,β1)
 |_=>none
noncomputable def fq(i:Nat)(op:D->D->Option D)(f:FD):G:=λδ β=>match(vw δ).getD i none with
 |none=>none
 |some c=>match f (vw δ) β with
  |some (.ok d,β1)=>(op c d).map λz=>(.nx (δ.set i (some (.sh z))),β1)
  |some (.error C,β1)=>some (.ex C δ,β1)
  |none=>none
theorem nS{i:Nat}{r:TIp}{op:D->D->Option D}{f:FD}(l:aR X.K r op)(h:PS X st (HW i (tV X.K f E) r)):PS X st (tG X.K X.H₀ (fq i op f) E):=h.imp λD J H s=>by
 obtain⟨B,bg,δ,β,o,g,ok,e,q⟩:=s
 unfold fq at e
 split at e
 ·cases e
 ·rename_i c b
  have j:(vw δ)[i]?=some (some c):=by
   rw[Mp]at b
   cases z:(vw δ)[i]? with
   |none=>rw[z]at b;cases b
   |some w=>rw[z]at b;simp at b;rw[b]
  obtain⟨v,x,y⟩:=ok.view.tell i c j
  refine⟨v,x,FxB B bg,vw δ,β,ok.fr,ok.view,?_⟩
  split at e
  ·rename_i d β1 k
   cases q1:op c d with
   |none=>rw[q1]at e;cases e
   |some z=>
    rw[q1]at e
    cases e
    refine⟨.ok d,_,k,λw m t hd=>?_⟩
    obtain⟨a,n⟩:=ok.to rfl t
    refine l (FxB B bg) m g _ c d z v w t.fr (Den.tr (t.tr ok.fr) _ _ y) hd q1 λu A F G=>?_
    obtain⟨p,I⟩:=a.to rfl F
    exact q _ B A (n.trans I) (p.set G)
  ·rename_i C β1 k
   cases e
   refine⟨.error C,_,k,λm t=>?_⟩
   obtain⟨a,n⟩:=ok.to rfl t
   exact q _ B m n a
  ·cases e
end
theorem Stp.tr{B b:Ow}{H c:Hp}{bg:Option (Addr×Addr)}(s:Stp B H b c):Tr (FxB B bg) H (FxB b bg) c:=
 ⟨λa h hs z=>by
  have hn:B a=none:=by
   cases q:B a with
   |none=>rfl
   |some t=>exact MM (show B a≠none by rw[q];simp) h
  cases q:H a with
  |none=>exact hs q
  |some o=>exact z (s.nn a o q hn),λa o h e=>s.kp a o e (.inl (by
  cases q:B a with
  |none=>rfl
  |some t=>exact MM (show B a≠none by rw[q];simp) h)),rfl⟩
section
variable{X:Cx}{E:St->XK}{e:Expr}{st:Stmt}{sts:List Stmt}{pos:Pos}{K:Frag}
noncomputable def gLp(tg:TgS)(g:G):List D->G
 |[],δ,β=>some (.nx δ,β)
 |d::ds,δ,β=>match tg d δ with
  |none=>none
  |some δ1=>match g δ1 β with
   |some (.nx δ2,β2)=>gLp tg g ds δ2 β2
   |some (.ct δ2,β2)=>gLp tg g ds δ2 β2
   |some (.bk δ2,β2)=>some (.nx δ2,β2)
   |r=>r
noncomputable def cW(it:FL)(tg:TgS)(g:G):G:=λδ β=>match it (vw δ) β with
 |some (.ok ds,β1)=>gLp tg g ds δ β1
 |some (.error C,β1)=>some (.ex C δ,β1)
 |none=>none
theorem cK{F y:Expr}{body:List Stmt}{it:FL}{tgg:TG}{tg:TgS}{g:G}(l:oY X.K tgg tg)(h:PS X (.For F y body [] pos) (HU (iV X.K it E) tgg (tG X.K X.H₀ g E))):PS X (.For F y body [] pos) (tG X.K X.H₀ (cW it tg g) E):=h.imp λD σ H h_=>by
 obtain⟨B,bg,δ,β,o,z,ok,e,q⟩:=h_
 refine⟨FxB B bg,vw δ,β,ok.fr,ok.view,?_⟩
 unfold cW at e
 split at e
 ·rename_i ds β1 T
  refine⟨.ok ds,_,T,λJ U t hJ=>?_⟩
  obtain⟨V,W⟩:=ok.to rfl t
  refine⟨λi m p I=>m+i=ds.length/\∃n r β2,Stp B U n I/\SOk X.K X.H₀ n bg I r β2 p/\gLp tg g (ds.drop i) r β2=some (o,z),⟨ds.length,by omega,B,δ,β1,Stp.refl B U,V,e⟩,?_⟩
  rintro i m p I ⟨hm,n,r,β2,L,c,b⟩
  obtain⟨iy,is⟩:=hJ (FxB n bg) I β2 L.tr c.fr i
  cases Q:ds[i]? with
  |none=>
   have R:ds.length<=i:=QU.mp Q
   rw[OT R]at b
   cases b
   exact .inl ⟨is (by omega),q p n I (W.trans L) c⟩
  |some d=>
   have R:i<ds.length:=(MF.mp Q).1
   obtain⟨go,yl⟩:=iy d Q
   have ed:ds.drop i=d::ds.drop (i+1):=by
    rw[N7 R]
    congr 1
    exact MQ ((Mn R).symm.trans Q)
   rw[ed]at b
   unfold gLp at b
   split at b
   ·cases b
   ·rename_i j e3
    refine .inr ⟨go,λM Y=>∃S s u,Stp B U S Y/\SOk X.K X.H₀ S bg Y s u M/\gLp tg g (ds.drop (i+1)) s u=some (o,z),λM Y ⟨S,s,u,z1,z2,z3⟩=>⟨m-1,by omega,by omega,S,s,u,z1,z2,z3⟩,λx H3 hy=>?_⟩
    obtain⟨sm,dx⟩:=yl x H3 hy
    obtain⟨Z,s3⟩:=c.to rfl (c.fr.same sm)
    refine l X.H₀ n bg H3 r j β2 p d x _ Z dx e3 λσ4 v=>?_
    have w:=L.trans s3
    split at b
    ·rename_i a f N
     exact⟨n,bg,j,β2,.nx a,f,v,N,λA O H6 P k=>⟨O,a,f,w.trans P,k,b⟩⟩
    ·rename_i a f N
     exact⟨n,bg,j,β2,.ct a,f,v,N,λA O H6 P k=>⟨O,a,f,w.trans P,k,b⟩⟩
    ·rename_i a f N
     cases b
     exact⟨n,bg,j,β2,.bk a,_,v,N,λA O H6 P k=>q A O H6 (W.trans (w.trans P)) k⟩
    ·rename_i x h1 h2 h3
     refine⟨n,bg,j,β2,o,z,v,b,?_⟩
     have q2:=i5.pre (W.trans w) q
     cases o with
     |nx a=>exact MM b (h1 _ _)
     |ct a=>exact MM b (h2 _ _)
     |bk a=>exact MM b (h3 _ _)
     |rt d=>exact q2
     |rg d=>exact q2
     |ex C a=>exact q2
 ·rename_i C β1 T
  cases e
  refine⟨.error C,_,T,λH' t=>?_⟩
  obtain⟨c,L⟩:=ok.to rfl t
  exact q _ B H' L c
 ·cases e
theorem SOk.newOwn{H₀:Hp}{B:Ow}{bg:Option (Addr×Addr)}{H:Hp}{δ:Ds}{β:Bg}{N:St}{i:Nat}{p:Addr}{ds:List D}{xs:List V}(ok:SOk K H₀ B bg H δ β N)(g:H p=none)(hd:DenL K (FxB B bg) H ds xs):
  SOk K H₀ (λa=>if a=p then some (i+2)else B a) bg (upd H p (.lst xs)) (δ.set i (some (.own ds))) β (N.set i (some (.ref p)))/\Stp B H (λa=>if a=p then some (i+2)else B a) (upd H p (.lst xs)):=by
 have hB:B p=none:=by
  cases q:B p with
  |none=>rfl
  |some t=>exact MM g (ok.fr.occ p (by show B p≠none;rw[q];simp))
 have m:Stp B H (λa=>if a=p then some (i+2)else B a) (upd H p (.lst xs)):=by
  refine⟨λa o h _=>by rw[upd_ne (ne_of_none h g)];exact h,λa h=>?_,λa o h n=>?_,?_⟩
  ·have:a≠p:=λz=>by subst z;rw[hB]at h;rcases h with h|h<;>cases h
   simp only[Mr this]
  ·simp only[Mr (ne_of_none h g)];exact n
  ·exact λa ha=>by
    by_cases z:a=p
    ·subst z;rw[ai];simp
    ·rw[upd_ne z];exact ha
 have tr:Tr (FxB B bg) H (FxB (λa=>if a=p then some (i+2)else B a) bg) (upd H p (.lst xs)):=m.tr
 have F:∀b l,bg=some (b,l)->b≠p/\l≠p:=λb l e=>by
  obtain⟨b1,b2⟩:=ok.bgt b l e
  exact⟨λz=>(by subst z;rw[hB]at b1;cases b1),λz=>(by subst z;rw[hB]at b2;cases b2)⟩
 refine⟨⟨⟨λa ha z=>?_,λb l e=>?_,λb l e=>?_⟩,λb l e=>?_,by rw[Nm,Nm,ok.len],λa ha=>m.al a (ok.cov a ha),λc k G=>(by
  have f:(if c=p then some (i+2)else B c)=some (k+2):=G
  by_cases z:c=p
  ·cases w:H₀ c with
   |none=>rfl
   |some o=>exact MM (z▸g) (ok.cov c (by rw[w];simp))
  ·rw[Mr z]at f;exact ok.new c k f),λc k G=>(by
  have f:(if c=p then some (i+2)else B c)=some (k+2):=G
  by_cases z:c=p
  ·subst z;exact⟨xs,ai⟩
  ·rw[Mr z]at f;rw[upd_ne z];exact ok.lst c k f),λj s e=>?_⟩,m⟩
 ·by_cases q:a=p
  ·subst q;rw[ai]at z;cases z
  ·rw[upd_ne q]at z
   have u:(if a=p then some (i+2)else B a)≠none:=ha
   rw[Mr q]at u
   exact ok.fr.occ a u z
 ·obtain⟨x,y⟩:=F b l e
  obtain⟨b1,b2⟩:=ok.bgt b l e
  refine⟨?_,?_,(ok.fr.bgA b l e).2.2⟩
  ·show(if b=p then some (i+2)else B b)≠none
   rw[Mr x,b1];simp
  ·show(if l=p then some (i+2)else B l)≠none
   rw[Mr y,b2];simp
 ·obtain⟨x,y⟩:=F b l e
  rw[upd_ne x,upd_ne y]
  exact ok.fr.bag b l e
 ·obtain⟨x,y⟩:=F b l e
  simp only[Mr x,Mr y]
  exact ok.bgt b l e
 ·rw[NP]at e
  rw[NP]
  by_cases q:i=j
  ·subst q
   rw[Mu rfl]at e⊢
   split at e
   ·rename_i O
    cases e
    rw[Mu (by rw[←ok.len];exact O)]
    exact⟨_,rfl,p,xs,rfl,Mu rfl,ai,DenL.tr tr _ _ hd⟩
   ·cases e
  ·rw[Mr q]at e⊢
   obtain⟨v,P,I⟩:=ok.tell j s e
   refine⟨v,P,?_⟩
   cases s with
   |sh d=>exact Den.tr tr _ _ I
   |own cs=>
    obtain⟨a,ys,J,L,A,M⟩:=I
    have C:=ne_of_none A g
    exact⟨a,ys,J,by simp only[Mr C];exact L,by rw[upd_ne C];exact A,DenL.tr tr _ _ M⟩
   |grd rows=>
    obtain⟨a,rs,J,L,A,M,Q⟩:=I
    have C:=ne_of_none A g
    exact⟨a,rs,J,by simp only[Mr C];exact L,by rw[upd_ne C];exact A,M,RowL.tr tr Q λr R _ p q=>⟨by simp only[Mr (ne_of_none q g)];exact p,by rw[upd_ne (ne_of_none q g)];exact q⟩⟩
theorem SOk.writeOwn{H₀:Hp}{B:Ow}{bg:Option (Addr×Addr)}{H:Hp}{δ:Ds}{β:Bg}{u:St}{i:Nat}{a:Addr}{ds:List D}{xs ys:List V}(ok:SOk K H₀ B bg H δ β u)(hs:u[i]?=some (some (.ref a)))(hB:B a=some (i+2))(ha:H a=some (.lst ys))(hd:DenL K (FxB B bg) H ds xs):
  SOk K H₀ B bg (upd H a (.lst xs)) (δ.set i (some (.own ds))) β u/\Stp B H B (upd H a (.lst xs)):=by
 have g:Stp B H B (upd H a (.lst xs)):=by
  refine⟨λc o h n=>?_,λ_ _=>rfl,λ_ _ _ n=>n,λc m=>?_⟩
  ·rw[upd_ne]
   ·exact h
   ·intro z;subst z;rw[hB]at n;rcases n with n|n<;>cases n
  ·by_cases z:c=a
   ·subst z;rw[ai];simp
   ·rw[upd_ne z];exact m
 have tr:Tr (FxB B bg) H (FxB B bg) (upd H a (.lst xs)):=g.tr
 refine⟨⟨⟨λc m z=>?_,ok.fr.bgA,λb l e=>?_⟩,ok.bgt,by rw[Nm,ok.len],λa ha=>g.al a (ok.cov a ha),ok.new,λc k m=>(by
  by_cases z:c=a
  ·subst z;exact⟨xs,ai⟩
  ·rw[upd_ne z];exact ok.lst c k m),λj s e=>?_⟩,g⟩
 ·by_cases q:c=a
  ·subst q;rw[ai]at z;cases z
  ·rw[upd_ne q]at z;exact ok.fr.occ c m z
 ·obtain⟨b1,b2⟩:=ok.bgt b l e
  rw[upd_ne (λz=>by subst z;rw[hB]at b1;cases b1),upd_ne (λz=>by subst z;rw[hB]at b2;cases b2)]
  exact ok.fr.bag b l e
 ·rw[NP]at e
  by_cases q:i=j
  ·subst q
   rw[Mu rfl]at e
   split at e
   ·cases e
    exact⟨_,hs,a,xs,rfl,hB,ai,DenL.tr tr _ _ hd⟩
   ·cases e
  ·rw[Mr q]at e
   obtain⟨v,F,w⟩:=ok.tell j s e
   refine⟨v,F,?_⟩
   cases s with
   |sh d=>exact Den.tr tr _ _ w
   |own cs=>
    obtain⟨c,C,x,f,y,A⟩:=w
    have t:c≠a:=λz=>by subst z;rw[hB]at f;cases f;exact q rfl
    exact⟨c,C,x,f,by rw[upd_ne t];exact y,DenL.tr tr _ _ A⟩
   |grd rows=>
    obtain⟨c,rs,x,f,y,A,G⟩:=w
    have t:∀c,B c=some (j+2)->c≠a:=λc f z=>by subst z;rw[hB]at f;cases f;exact q rfl
    exact⟨c,rs,x,f,by rw[upd_ne (t c f)];exact y,A,RowL.tr tr G λr C _ p q=>⟨p,by rw[upd_ne (t r p)];exact q⟩⟩
noncomputable def m7(i:Nat)(f:FL):G:=λδ β=>match f (vw δ) β with
 |some (.ok ds,β1)=>if ds.length<=sizeLine then some (.nx (δ.set i (some (.own ds))),β1)else none
 |some (.error C,β1)=>some (.ex C δ,β1)
 |none=>none
theorem wo{i:Nat}{f:FL}(h:PS X st (i6 (HR (tVA X.K f E)) (ef i))):PS X st (tG X.K X.H₀ (m7 i f) E):=h.imp λD r H j=>by
 obtain⟨B,bg,δ,β,o,k,ok,e,q⟩:=j
 refine⟨FxB B bg,vw δ,β,ok.fr,ok.view,?_⟩
 unfold m7 at e
 split at e
 ·rename_i ds β1 b
  split at e
  ·rename_i l
   cases e
   refine⟨.ok ds,_,b,λvs g t hd=>⟨by rw[←hd.length];exact l,λp m=>?_⟩⟩
   obtain⟨a,c⟩:=ok.to rfl t
   obtain⟨d,n⟩:=a.newOwn (i:=i) m hd
   exact q _ _ _ (c.trans n) d
  ·cases e
 ·rename_i C β1 b
  cases e
  refine⟨.error C,_,b,λg t=>?_⟩
  obtain⟨a,c⟩:=ok.to rfl t
  exact q _ B g c a
 ·cases e
noncomputable def m8(i:Nat)(f:FL):G:=λδ β=>match δ.getD i none with
 |some (.own cs)=>match f (vw δ) β with
  |some (.ok [d],β1)=>if cs.length<sizeLine then some (.nx (δ.set i (some (.own (cs++[d])))),β1)else none
  |some (.error C,β1)=>some (.ex C δ,β1)
  |_=>none
 |_=>none
theorem getD_some{α:Type}{δ:List (Option α)}{i:Nat}{s:α}(h:δ.getD i none=some s):δ[i]?=some (some s):=by
 rw[Mp]at h
 cases z:δ[i]? with
 |none=>rw[z]at h;cases h
 |some w=>rw[z]at h;simp at h;rw[h]
theorem wq{i:Nat}{f:FL}(h:PS X st (wb (tBM X.K "list" uV (o6 i) (tVA X.K f E)))):PS X st (tG X.K X.H₀ (m8 i f) E):=h.imp λD J H w=>by
 obtain⟨B,bg,δ,β,o,x,ok,e,q⟩:=w
 unfold m8 at e
 split at e
 ·rename_i cs s
  obtain⟨v,l,a,ys,rfl,y,z,L⟩:=ok.tell i _ (getD_some s)
  refine⟨_,l,.inl ⟨rfl,ys,SqL.of z⟩,FxB B bg,vw δ,β,ok.fr,ok.view,?_⟩
  split at e
  ·rename_i d β1 m
   split at e
   ·rename_i A
    cases e
    refine⟨.ok [d],_,m,λvs u t hd=>?_⟩
    obtain⟨b,n⟩:=ok.to rfl t
    obtain⟨v,rfl,F⟩:=DenL.one hd
    obtain⟨M,c,N,g,p,G,j,k⟩:=b.tell i _ (getD_some s)
    rw[l]at c
    cases c
    cases p
    refine⟨a,g,v,rfl,rfl,j,by rw[←k.length];exact A,?_⟩
    obtain⟨r,I⟩:=b.writeOwn (ds:=cs++[d]) (xs:=g++[v]) l y j (DenL.append k (DenL.cons F DenL.nil))
    exact q _ _ _ (n.trans I) r
   ·cases e
  ·rename_i C β1 m
   cases e
   refine⟨.error C,_,m,λu t=>?_⟩
   obtain⟨b,n⟩:=ok.to rfl t
   exact q _ B u n b
  ·cases e
 ·cases e
noncomputable def stD(n:Nat)(ds:List D):Ds:=ds.map (λd=>some (Sl.sh d))++MC (n-ds.length) none
noncomputable def aD(n:Nat)(g:G):List D->M D:=λds β=>match g (stD n ds) β with
 |some (.rt d,β')=>some (.ok d,β')
 |some (.nx _,β')=>some (.ok .non,β')
 |some (.ex C _,β')=>some (.error C,β')
 |_=>none
theorem xV{F:Fx}{H:Hp}{β:Bg}{ds:List D}{vs:List V}{N:List Str}(fr:Fr F H β)(hd:DenL K F H ds vs):∃B,SOk K H B F.bg H (stD N.length ds) β (eW N vs)/\(∀a,F.A a->B a=some 0\/B a=some 1)/\(∀a,B a=some 1->∃b l,F.bg=some (b,l)/\(a=b\/a=l))/\(∀a,B a≠none->F.A a):=by
 classical
 refine⟨λa=>if F.A a then(if ∃b l,F.bg=some (b,l)/\(a=b\/a=l)then some 1 else some 0)else none,⟨⟨λa ha=>fr.occ a ?_,λb l e=>?_,fr.bag⟩,λb l e=>?_,?_,λ_ h=>h,λc k m=>(by
  have f:(if F.A c then(if ∃b l,F.bg=some (b,l)/\(c=b\/c=l)then some 1 else some 0)else none)=some (k+2):=m
  split at f
  ·split at f<;>cases f
  ·cases f),λc k m=>(by
  have f:(if F.A c then(if ∃b l,F.bg=some (b,l)/\(c=b\/c=l)then some 1 else some 0)else none)=some (k+2):=m
  split at f
  ·split at f<;>cases f
  ·cases f),λi s e=>?_⟩,λa ha=>?_,λa ha=>?_,λa ha=>?_⟩
 ·have g:(if F.A a then(if ∃b l,F.bg=some (b,l)/\(a=b\/a=l)then some 1 else some 0)else none)≠(none:Option Nat):=ha
  split at g
  ·assumption
  ·exact MM rfl g
 ·obtain⟨a1,a2,a3⟩:=fr.bgA b l e
  refine⟨?_,?_,a3⟩
  ·show(if F.A b then(if ∃j l,F.bg=some (j,l)/\(b=j\/b=l)then some 1 else some 0)else none)≠(none:Option Nat)
   rw[Mu a1];split<;>simp
  ·show(if F.A l then(if ∃j p,F.bg=some (j,p)/\(l=j\/l=p)then some 1 else some 0)else none)≠(none:Option Nat)
   rw[Mu a2];split<;>simp
 ·obtain⟨a1,a2,a3⟩:=fr.bgA b l e
  exact⟨by rw[Mu a1,Mu ⟨b,l,e,.inl rfl⟩],by rw[Mu a2,Mu ⟨b,l,e,.inr rfl⟩]⟩
 ·unfold stD eW
  rw[MJ,MJ,Mj,Mj,NO,NO,hd.length]
 ·unfold stD at e
  unfold eW
  rw[RJ,Mj]at e
  rw[RJ,Mj,←hd.length]
  by_cases n:i<ds.length
  ·rw[Mu n,Mt]at e
   rw[Mu n,Mt]
   cases z:ds[i]? with
   |none=>rw[z]at e;cases e
   |some d=>
    rw[z]at e
    cases e
    obtain⟨v,r,t⟩:=hd.get z
    refine⟨v,by rw[r];rfl,?_⟩
    have o:Tr F H (FxB (λa=>if F.A a then(if ∃b l,F.bg=some (b,l)/\(a=b\/a=l)then some 1 else some 0)else none) F.bg) H:=by
     refine⟨λa ha _ u=>?_,λ_ _ _ h=>h,rfl⟩
     have q:(if F.A a then(if ∃b l,F.bg=some (b,l)/\(a=b\/a=l)then some 1 else some 0)else none)≠(none:Option Nat):=u
     rw[Mr ha]at q
     exact q rfl
    exact Den.tr o _ _ t
  ·rw[Mr n,N1]at e
   split at e<;>cases e
 ·simp only[Mu ha]
  split
  ·exact .inr rfl
  ·exact .inl rfl
 ·simp only at ha
  split at ha
  ·split at ha
   ·assumption
   ·cases ha
  ·cases ha
 ·simp only at ha
  split at ha
  ·assumption
  ·exact MM rfl ha
end
section
variable{P:Program}{w:MY}{K:Frag}{mg:Str->Option Mh}{base:Heap}
theorem Hy{x i:Str}{st:Stmt}{f:Addr}{W:FuncData}{N R:List Str}{k:Nat}{g:G}(F:FunD K x i st f W)(S:FnScope N R (af st))
  (D:∀(m:Mh) (A:M8) (outer:List Env) (s:Ml) (H:Hp) (E:XK),Room k (A.deeper (Qu i (af st) s.heap.objs.size f m))->
   PSs (cX (CXE P w) P w K mg base N i (af st) f m A outer s H E) (cb st) (tG K H g (λ_=>E))):FnOk P w K mg base (CXE P w) (k+1) f W R (spF K R.length (aD N.length g)):=by
 refine F.okE S (λvs H Q E h=>h.1) λm A outer s H vs Q E X h=>?_
 obtain⟨hl,u,ds,β,fr,hd,r,j,e,h⟩:=h
 refine⟨_,D m A outer s H E X,?_⟩
 obtain⟨B,ok,T,Y,hn⟩:=xV (N:=N) fr hd
 have I:∀{y:Ow} {c:Hp},Stp B H y c->Fr (FxB y u.bg) c j->To u H c j/\Tr (FxB y u.bg) c u c:=λ{y c} s p=>by
  have hs:∀a,u.A a->y a≠none:=λa ha=>by
   rw[s.tg a (T a ha)]
   rcases T a ha with z|z<;>rw[z]<;>simp
  refine⟨⟨λa o ha n=>s.kp a o ha ?_,λa ha=>p.occ a (hs a ha),λb l e=>fr.bgA b l e,p.bag⟩,λa ha _ z=>ha (hs a z),λ_ _ _ h=>h,rfl⟩
  cases q:B a with
  |none=>exact .inl rfl
  |some t=>
   have:=T a (hn a (by rw[q];simp))
   rcases this with z|z
   ·rw[q]at z;exact .inr z
   ·obtain⟨b,l,e,w⟩:=Y a z
    obtain⟨Z,n2⟩:=n b l e
    rcases w with w|w
    ·exact MM w Z
    ·exact MM w n2
 unfold aD at e
 split at e
 ·rename_i d β1 M
  cases e
  refine⟨B,u.bg,stD N.length ds,β,.rt d,j,ok,M,λv y c s p hv=>?_⟩
  obtain⟨O,U⟩:=I s p
  exact h v c O (Den.tr U _ _ hv)
 ·rename_i J β1 M
  cases e
  refine⟨B,u.bg,stD N.length ds,β,.nx J,j,ok,M,λV y c s L=>?_⟩
  obtain⟨O,U⟩:=I s L.fr
  exact h _ c O rfl
 ·rename_i C J β1 M
  cases e
  refine⟨B,u.bg,stD N.length ds,β,.ex C J,j,ok,M,λV y c s L=>?_⟩
  obtain⟨O,U⟩:=I s L.fr
  exact h c O
 ·cases e
end
section
variable{prog:Program}{w:MY}{A:M8}
theorem Mb(l:A.handled=none)(it t:Addr)(ne:t≠it)(b:Array Mh):Tz prog w A it [it,t] b.size (λi v=>b[i]?=some v) (λi h=>h.IsTupleIter it t i/\h.IsTuple t b) where
 live:=λ_ _ st=>let ⟨o,e,_⟩:=st.1;⟨o,e⟩
 frame:=λ_ _ _ st k=>⟨st.1.at λo e=>k it (by simp) o e,by
  obtain⟨o,e,r⟩:=st.2
  exact⟨o,k t (by simp) o e,r⟩⟩
 item:=λi s Q E q st u=>by
  obtain⟨o,d,co,c⟩:=id st.1
  obtain⟨n,f,_,p,g⟩:=st.2
  have j:b[i]?=some b[i]:=by simp[q]
  unfold NY;refine on (wpAny_callSpecial?_slot (name:=M1 "__next__") st.1.typeIs Pp (Ng Pp st.1.typeIs TC ?_ (Tl _)))
  show Mz _ _ (Vn (.ref it) 0>>=_) _ _ _;refine on (ND d c (x:= .ref t) rfl ?_)
  show Mz _ _ (if(My t==Nl)=true then _ else _) _ _ _;rw[Mr (show ¬((My t==Nl)=true)from Ms)]
  show Mz _ _ (Vn (.ref it) 1>>=_) _ _ _;refine on (ND d c (x:= .int i 0) rfl ?_)
  show Mz _ _ (seqItems? (.ref t)>>=_) _ _ _;refine on (N0 f g ?_)
  simp only[NG,j];refine on (PD d c (by simp) (Mg ⟨b[i],rfl,Mg (u _ _ s.toks j ⟨?_,?_⟩ (NH ..))⟩))
  ·exact⟨_,N8 _ d (RG (Oh c _)),(Sy ..).trans co,by rw[Oh c];simp[Qi]⟩
  ·exact⟨n,(NH ..).extBut _ _ ne f,by assumption,p,g⟩
 done:=λs Q E st y=>by
  obtain⟨o,d,co,c⟩:=id st.1
  obtain⟨n,f,_,p,g⟩:=st.2
  have j:b[b.size]?=none:=by simp
  unfold NY;refine on (wpAny_callSpecial?_slot (name:=M1 "__next__") st.1.typeIs Pp (Ng Pp st.1.typeIs TC ?_ (Tl _)))
  show Mz _ _ (Vn (.ref it) 0>>=_) _ _ _;refine on (ND d c (x:= .ref t) rfl ?_)
  show Mz _ _ (if(My t==Nl)=true then _ else _) _ _ _;rw[Mr (show ¬((My t==Nl)=true)from Ms)]
  show Mz _ _ (Vn (.ref it) 1>>=_) _ _ _;refine on (ND d c (x:= .int b.size 0) rfl ?_)
  show Mz _ _ (seqItems? (.ref t)>>=_) _ _ _;refine on (N0 f g ?_)
  simp only[NG,j];refine on (Pz (on (PD d c (by simp) ?_)))
  show Mz _ _ (VA (.type "StopIteration") []>>=_) _ _ _;refine on ?_
  simp only[VA,newTuple];refine on (Nx ?_ (by size_fits))
  refine on (m:=Qe _ _) (Py (a:=Nl) (by first|rfl|(simp only[Qe];rfl)) ?_);refine Nx ?_ (by size_fits)
  simp only[raiseNew];refine on (U4 ?_)
  first|rw[show A.in1.handled=none from l]|rw[l];skip
  refine on (Mg (wpAny_throw ?_));exact y _ _ (((NH ..).extBut.push _).push _) ⟨_,MB _ rfl,rfl⟩
end
structure Ap (z TI TO i1 i2:Addr) (f1 f2:List Addr):Prop where
 a1:TI≠z
 a2:TO≠z
 a3:i1≠z
 a4:i2≠z
 a5:TI≠TO
 a6:TI≠i1
 a7:TI≠i2
 a8:TO≠i1
 a9:TO≠i2
 b1:i1≠i2
 c1:z∉f1
 c2:TO∉f1
 c3:i2∉f1
 d1:z∉f2
 d2:TO∉f2
 d3:i1∉f2
 m1:i1∈f1
 m2:i2∈f2
section
variable{prog:Program}{w:MY}{A:M8}{E:Mh->Ml->Prop}{s:Ml}
theorem bJ{it:Addr}{f:List Addr}{h h':Heap}(a:MT it h h')(n:it∉f):∀b∈f,∀o,h.get? b=some o->h'.get? b=some o:=λb c o e=>a.extBut b o (λq=>n (q▸c)) e
theorem xA{z TI TO r t:Addr}{f1 f2:List Addr}{u B k:Nat}{P1 P2:Nat->Mh->Prop}{P R:Nat->Heap->Prop}{a b:Mh}{Q:Mh->Ml->Prop}(I:Tz prog w A r f1 u P1 P)(J:Tz prog w A t f2 B P2 R)(d:Ap z TI TO r t f1 f2)
  (L:Rr s.heap z TI TO .none) (eI:OY s.heap TI (.ref r) (.ref t)) (eO:OY s.heap TO a b) (s1:P k s.heap) (s2:R k s.heap) (k1:k<u) (k2:k<B)
  (hQ:∀h' tk x y,P1 k x->P2 k y->Rr h' z TI TO (Qi s.heap.objs.size)->OY h' TO x y->P (k+1) h'->R (k+1) h'->OY h' s.heap.objs.size x y->h'.objs.size=s.heap.objs.size+1->(∀c o,c≠z->c≠TO->c≠r->c≠t->s.heap.get? c=some o->h'.get? c=some o)->Q (.ref s.heap.objs.size) {s with heap:=h',toks:=tk}):
  Mz (ML prog w) A (Builtin.«zip.__next__» ⟨[.ref z],[]⟩) (λT s'=>∃v,T= .done (.ret v)/\Q v s') E s:=by
 obtain⟨U,gg,dd,tk0,os⟩:=s
 show Mz _ _ (Vn (.ref z) 2>>=_) _ _ _;refine on (ND L rfl (x:= .bool false) rfl ?_)
 show Mz _ _ (Vn (.ref z) 3>>=_) _ _ _;refine on (ND L rfl (x:= .ref TI) rfl ?_)
 refine on (N0 eI rfl ?_)
 show Mz _ _ (N9 (.ref z)>>=_) _ _ _;refine on ?_
 unfold N9;refine on (ND L rfl (x:= .none) rfl (Mg ?_))
 simp only[Na];refine on (Pz ?_)
 refine on (ND L rfl (x:= .ref TO) rfl ?_)
 refine on (NM L (by simp) λV C g=>?_)
 replace C:Rr V z TI TO .ellipsis:=C
 replace g:MT z U V:=g
 refine on ?_
 simp only[List.zipIdx_cons,List.zipIdx_nil,O3,Pg];refine on (on (RC ?_))
 show Mz _ _ (NY (.ref r)>>=_) _ _ _;refine on (I.item k _ _ _ k1 (I.frame _ _ _ s1 (bJ g d.c1)) λx W tk2 px X h=>Mg ?_)
 replace h:MT r V W:=h
 have M:OY W TO a b:=h.extBut _ _ d.a8 (g.extBut _ _ d.a2 eO)
 refine on (N0 M rfl ?_);refine on (Sf M λY D i=>?_)
 replace D:OY Y TO x b:=D
 replace i:MT TO W Y:=i
 refine on (Sd (Mg ?_));refine on (on (RC ?_))
 show Mz _ _ (NY (.ref t)>>=_) _ _ _;refine on (J.item k _ _ _ k2 (J.frame _ _ _ (J.frame _ _ _ (J.frame _ _ _ s2 (bJ g d.d1)) (bJ h d.d3)) (bJ i d.d2)) λy Z tk4 py st4 j=>Mg ?_)
 replace j:MT t Y Z:=j
 have N:OY Z TO x b:=j.extBut _ _ d.a9 D
 refine on (N0 N rfl ?_);refine on (Sf N λf m l=>?_)
 replace m:OY f TO x y:=m
 replace l:MT TO Z f:=l
 refine on (Sd (Mg (Mg ?_)));refine on (N0 m rfl ?_)
 refine on (Se ?_)
 have zs:f.objs.size=U.objs.size:=by rw[l.1,j.1,i.1,h.1,g.1]
 have O:Rr f z TI TO .ellipsis:=l.extBut _ _ d.a2.symm (j.extBut _ _ d.a4.symm (i.extBut _ _ d.a2.symm (h.extBut _ _ d.a3.symm C)))
 have kp5:∀c o,c≠z->c≠TO->c≠r->c≠t->U.get? c=some o->f.get? c=some o:=λc o u B n3 n4 e=>l.extBut _ _ B (j.extBut _ _ n4 (i.extBut _ _ B (h.extBut _ _ n3 (g.extBut _ _ u e))))
 have st1:P (k+1) f:=I.frame _ _ _ (I.frame _ _ _ (I.frame _ _ _ X (bJ i d.c2)) (bJ j d.c3)) (bJ l d.c2)
 have st5:R (k+1) f:=J.frame _ _ _ st4 (bJ l d.d2)
 have zl:z<f.objs.size:=MI O
 show Mz _ _ (QC (.ref z) (.ref f.objs.size)>>=_) _ _ _;refine on ?_
 unfold QC;have ez6:Rr (f.push {cls:= .type "tuple",data:= .seq #[x,y]}) z TI TO .ellipsis:=Mi _ O
 refine on (NM ez6 (by simp) λg7 F G=>?_)
 replace F:Rr g7 z TI TO (Qi f.objs.size):=F
 refine NM F (by simp) λK p H=>?_
 replace p:Rr K z TI TO (Qi f.objs.size):=p
 have S:∀c o,c≠z->f.get? c=some o->K.get? c=some o:=λc o n e=>H.extBut _ _ n (G.extBut _ _ n (Mi _ e))
 have eT:OY K f.objs.size x y:=H.extBut _ _ (Ou zl) (G.extBut _ _ (Ou zl) (MB _ rfl))
 have z8:K.objs.size=f.objs.size+1:=by rw[H.1,G.1,Nv]
 rw[zs]at p eT z8;refine Mg ⟨_,rfl,?_⟩
 show Q (.ref f.objs.size) ⟨K,gg,dd,_,os⟩
 rw[zs];exact hQ K _ x y px py p (S _ _ d.a2 m) (I.frame _ _ _ st1 λb hb o e=>S b o (λq=>d.c1 (q▸hb)) e) (J.frame _ _ _ st5 λb hb o e=>S b o (λq=>d.d1 (q▸hb)) e) eT z8 λc o u B n3 n4 e=>S c o u (kp5 c o u B n3 n4 e)
theorem zL{z TI TO n r:Addr}{f1 f2:List Addr}{j F k:Nat}{T U:Nat->Mh->Prop}{N O:Nat->Heap->Prop}{a b:Mh}{Q:Fin->Ml->Prop}(G:Tz prog w A n f1 j T N)(H:Tz prog w A r f2 F U O)(i:Ap z TI TO n r f1 f2)
  (u:Rr s.heap z TI TO .none) (V:OY s.heap TI (.ref n) (.ref r)) (W:OY s.heap TO a b) (P:N k s.heap) (X:O k s.heap) (k1:k=j\/(k<j/\k=F))
  (R:∀h' e Y,(∀c o,c≠z->c≠TO->c≠n->c≠r->s.heap.get? c=some o->h'.get? c=some o)->(∃o,h'.get? e=some o/\o.cls= .type "StopIteration")->E (.ref e) {s with heap:=h',toks:=Y}):
  Mz (ML prog w) A (Builtin.«zip.__next__» ⟨[.ref z],[]⟩) Q E s:=by
 obtain⟨Z,gg,dd,tk0,os⟩:=s
 show Mz _ _ (Vn (.ref z) 2>>=_) _ _ _;refine on (ND u rfl (x:= .bool false) rfl ?_)
 show Mz _ _ (Vn (.ref z) 3>>=_) _ _ _;refine on (ND u rfl (x:= .ref TI) rfl ?_)
 refine on (N0 V rfl ?_)
 show Mz _ _ (N9 (.ref z)>>=_) _ _ _;refine on ?_
 unfold N9;refine on (ND u rfl (x:= .none) rfl (Mg ?_))
 simp only[Na];refine on (Pz ?_)
 refine on (ND u rfl (x:= .ref TO) rfl ?_)
 refine on (NM u (by simp) λI l f=>?_)
 replace l:Rr I z TI TO .ellipsis:=l
 replace f:MT z Z I:=f
 refine on ?_
 simp only[List.zipIdx_cons,List.zipIdx_nil,O3,Pg];refine on (on (RC ?_))
 show Mz _ _ (NY (.ref n)>>=_) _ _ _
 rcases k1 with rfl|⟨k1,rfl⟩
 ·refine on (G.done _ _ _ (G.frame _ _ _ P (bJ f i.c1)) λt e d K=>?_)
  replace d:SH n I t:=d
  obtain⟨L,h,v⟩:=K
  have y:Rr t z TI TO .ellipsis:=d _ _ i.a3.symm l
  have p:e≠z:=λq=>by subst q;rw[y]at h;cases h;simp at v
  exact NM y (by simp) λJ _ g=>R J e _ (λc o j _ M _ q=>g.extBut _ _ j (d _ _ M (f.extBut _ _ j q))) ⟨L,g.extBut _ _ p h,v⟩
 ·refine on (G.item k _ _ _ k1 (G.frame _ _ _ P (bJ f i.c1)) λx t tk2 px st2 d=>Mg ?_)
  replace d:MT n I t:=d
  have B:OY t TO a b:=d.extBut _ _ i.a8 (f.extBut _ _ i.a2 W)
  refine on (N0 B rfl ?_);refine on (Sf B λJ eO3 g=>?_)
  replace g:MT TO t J:=g
  refine on (Sd (Mg ?_));refine on (on (RC ?_))
  show Mz _ _ (NY (.ref r)>>=_) _ _ _;refine on (H.done _ _ _ (H.frame _ _ _ (H.frame _ _ _ (H.frame _ _ _ X (bJ f i.d1)) (bJ d i.d3)) (bJ g i.d2)) λS e m K=>?_)
  replace m:SH r J S:=m
  obtain⟨L,h,v⟩:=K
  have C:Rr S z TI TO .ellipsis:=m _ _ i.a4.symm (g.extBut _ _ i.a2.symm (d.extBut _ _ i.a3.symm l))
  have p:e≠z:=λq=>by subst q;rw[C]at h;cases h;simp at v
  exact NM C (by simp) λg5 _ D=>R g5 e _ (λc o j F M n4 q=>D.extBut _ _ j (m _ _ n4 (g.extBut _ _ F (d.extBut _ _ M (f.extBut _ _ j q))))) ⟨L,D.extBut _ _ p h,v⟩
theorem xz{z TI TO e f:Addr}{f1 f2:List Addr}{j l k:Nat}{m n:Nat->Mh->Prop}{g h:Nat->Heap->Prop}{a b:Mh}{Q:Option Mh->Ml->Prop}(q:∀d:M8,d.handled=A.handled->Tz prog w d e f1 j m g)(r:∀d:M8,d.handled=A.handled->Tz prog w d f f2 l n h)(t:Ap z TI TO e f f1 f2)
  (p:Rr s.heap z TI TO .none) (u:OY s.heap TI (.ref e) (.ref f)) (v:OY s.heap TO a b) (B:g k s.heap) (C:h k s.heap) (k1:k<j) (k2:k<l)
  (D:∀h' i x y,m k x->n k y->Rr h' z TI TO (Qi s.heap.objs.size)->OY h' TO x y->g (k+1) h'->h (k+1) h'->OY h' s.heap.objs.size x y->h'.objs.size=s.heap.objs.size+1->(∀c o,c≠z->c≠TO->c≠e->c≠f->s.heap.get? c=some o->h'.get? c=some o)->Q (some (.ref s.heap.objs.size)) {s with heap:=h',toks:=i}):
  Mz (ML prog w) A (Qh (.ref z)) Q E s:=by
 have ty:s.TypeIs (.ref z) "zip":=⟨_,p,rfl⟩
 unfold Qh;exact on (Qz (wpAny_callSpecial?_slot (name:=M1 "__next__") ty RI (Ng RI ty F.entry_zip_next (xA (q _ rfl) (r _ rfl) t p u v B C k1 k2 λh' i x y a1 a2 a3 a4 a5 a6 a7 a8 a9=>Mg (D h' i x y a1 a2 a3 a4 a5 a6 a7 a8 a9)) (F.args_zip_next_1 _))))
theorem zK{z TI TO f g:Addr}{f1 f2:List Addr}{h i k:Nat}{p q:Nat->Mh->Prop}{j l:Nat->Heap->Prop}{a b:Mh}{Q:Option Mh->Ml->Prop}(r:∀d:M8,d.handled=A.handled->Tz prog w d f f1 h p j)(t:∀d:M8,d.handled=A.handled->Tz prog w d g f2 i q l)(u:Ap z TI TO f g f1 f2)
  (m:Rr s.heap z TI TO .none) (v:OY s.heap TI (.ref f) (.ref g)) (x:OY s.heap TO a b) (y:j k s.heap) (B:l k s.heap) (k1:k=h\/(k<h/\k=i))
  (C:∀h' n,(∀c o,c≠z->c≠TO->c≠f->c≠g->s.heap.get? c=some o->h'.get? c=some o)->Q none {s with heap:=h',toks:=n}):Mz (ML prog w) A (Qh (.ref z)) Q E s:=by
 have ty:s.TypeIs (.ref z) "zip":=⟨_,m,rfl⟩
 unfold Qh;refine on (Qz (wpAny_callSpecial?_slot (name:=M1 "__next__") ty RI (Ng RI ty F.entry_zip_next (zL (r _ rfl) (t _ rfl) u m v x y B k1 λh' e n D G=>?_) (F.args_zip_next_1 _))))
 obtain⟨o,H,I⟩:=G
 refine on (Oz (T:="StopIteration") (b:=true) ⟨o,H,I⟩ Us ?_);exact Mg (C _ _ D)
end
noncomputable def Src(b:Bool)(h:Heap)(a:Addr)(its:Array Mh):Prop:=if b=true then h.IsList a its else h.IsTuple a its
noncomputable def DQ(b:Bool):String:=if b=true then "list_iterator"else "tuple_iterator"
noncomputable abbrev oB(b:Bool)(a:Addr):Obj:={cls:= .type (DQ b),data:= .fields #[.ref a,.int 0 0]}
noncomputable def fW(b:Bool)(h:Heap)(it a:Addr)(k:Nat):Prop:=if b=true then h.IsListIter it a k else h.IsTupleIter it a k
section
variable{prog:Program}{w:MY}{A:M8}{E:Mh->Ml->Prop}{s:Ml}
theorem Src.keep{b:Bool}{h h':Heap}{a:Addr}{its:Array Mh}(x:Src b h a its)(k:∀o,h.get? a=some o->h'.get? a=some o):Src b h' a its:=by
 unfold Src at x⊢
 split at x
 ·rename_i q;rw[Mu q];exact x.at λo e=>k o e
 ·rename_i q;rw[Mr q]
  obtain⟨o,e,r⟩:=x
  exact⟨o,k o e,r⟩
theorem nW{b:Bool}{a:Addr}{its:Array Mh}{Q:Mh->Ml->Prop}(x:Src b s.heap a its)(h:Q (.ref s.heap.objs.size) {s with heap:=s.heap.push (oB b a)}):Mz (ML prog w) A (Sb (.ref a)) Q E s:=by
 cases b with
 |true=>exact Rv (show s.heap.IsList a its from x) h
 |false=>exact SJ (show s.heap.IsTuple a its from x) h
theorem rO(b:Bool)(c:A.handled=none)(it a:Addr)(ne:a≠it)(its:Array Mh):Tz prog w A it [it,a] its.size (λi v=>its[i]?=some v) (λi h=>fW b h it a i/\Src b h a its):=by
 cases b with
 |true=>exact UN c it a ne its
 |false=>exact Mb c it a ne its
noncomputable abbrev zH1(b1:Bool)(h:Heap)(a:Addr):Heap:=h.push (oB b1 a)
noncomputable abbrev zH2(b1 b2:Bool)(h:Heap)(a b:Addr):Heap:=(zH1 b1 h a).push (oB b2 b)
noncomputable abbrev zH3(b1 b2:Bool)(h:Heap)(a b:Addr):Heap:=(zH2 b1 b2 h a b).push {cls:= .type "tuple",data:= .seq #[.ref h.objs.size,.ref (zH1 b1 h a).objs.size]}
noncomputable abbrev zH4(b1 b2:Bool)(h:Heap)(a b:Addr):Heap:=(zH3 b1 b2 h a b).push {cls:= .type "tuple",data:= .seq #[.none,.none]}
noncomputable abbrev zH5(b1 b2:Bool)(h:Heap)(a b:Addr):Heap:=(zH4 b1 b2 h a b).push {cls:= .type "zip",data:= .fields #[.none,.bool false,.bool false,.ref (zH2 b1 b2 h a b).objs.size,.ref (zH3 b1 b2 h a b).objs.size]}
theorem wJ(b1 b2:Bool)(a b:Addr)(xs ys:Array Mh):
  Meets (Builtin.«zip.__new__» ⟨[.type "zip",.ref a,.ref b],[]⟩) (λ_ R s=>Src b1 s.heap a xs/\Src b2 s.heap b ys/\R (.ok (.ret (.ref (zH4 b1 b2 s.heap a b).objs.size))) {s with heap:=zH5 b1 b2 s.heap a b}):=
 .of_wp λprog w A R s h=>by
  obtain⟨c,g,d,f,os⟩:=s;obtain⟨j,k,q⟩:=h
  have i:=sub_zip
  have l:Src b1 (Shared.heap ⟨c,g,d,f,os⟩) a xs:=j
  have m:Src b2 (Shared.heap ⟨c.push (oB b1 a),g,d,f,os⟩) b ys:=k.keep λo e=>Mi _ e
  wp_walk using nW l,nW m
  exact⟨_,rfl,q⟩
theorem zt{b1 b2:Bool}{d f:Addr}{xs ys:Array Mh}{Q:Mh->Ml->Prop}(t:Src b1 s.heap d xs)(u:Src b2 s.heap f ys)
  (h:∀h',Rr h' (s.heap.objs.size+4) (s.heap.objs.size+2) (s.heap.objs.size+3) .none->OY h' (s.heap.objs.size+2) (.ref s.heap.objs.size) (.ref (s.heap.objs.size+1))->OY h' (s.heap.objs.size+3) .none .none->fW b1 h' s.heap.objs.size d 0->fW b2 h' (s.heap.objs.size+1) f 0->h'.objs.size=s.heap.objs.size+5->(∀c o,s.heap.get? c=some o->h'.get? c=some o)->Q (.ref (s.heap.objs.size+4)) {s with heap:=h'}):
  Mz (ML prog w) A (call (.type "zip") [.ref d,.ref f]) Q E s:=by
 refine callType_new F.called_zip (by decide) (F.typeCall_zip_2 _ _) (F.newCall_zip_2 _ _) (λobj=>F.args_object_init_3 obj _ _) F.entry_zip_new (wJ b1 b2 d f xs ys) ⟨t,u,?_⟩
 have i:(zH1 b1 s.heap d).objs.size=s.heap.objs.size+1:=Nv ..
 have j:(zH2 b1 b2 s.heap d f).objs.size=s.heap.objs.size+2:=by rw[Nv,i]
 have k:(zH3 b1 b2 s.heap d f).objs.size=s.heap.objs.size+3:=by rw[Nv,j]
 have l:(zH4 b1 b2 s.heap d f).objs.size=s.heap.objs.size+4:=by rw[Nv,k]
 have v:(zH5 b1 b2 s.heap d f).objs.size=s.heap.objs.size+5:=by rw[Nv,l]
 have m:(zH5 b1 b2 s.heap d f).get? (zH4 b1 b2 s.heap d f).objs.size=some _:=MB _ rfl
 have n:(zH5 b1 b2 s.heap d f).get? (zH3 b1 b2 s.heap d f).objs.size=some _:=Mi _ (MB _ rfl)
 have q:(zH5 b1 b2 s.heap d f).get? (zH2 b1 b2 s.heap d f).objs.size=some _:=Mi _ (Mi _ (MB _ rfl))
 have r:(zH5 b1 b2 s.heap d f).get? (zH1 b1 s.heap d).objs.size=some _:=Mi _ (Mi _ (Mi _ (MB _ rfl)))
 have y:(zH5 b1 b2 s.heap d f).get? s.heap.objs.size=some _:=Mi _ (Mi _ (Mi _ (Mi _ (MB _ rfl))))
 show _/\_
 rw[j,k,l]at m;rw[i,j]at q;rw[k]at n;rw[i]at r;rw[l]
 have g:∀(b:Bool) (h':Heap) (p a:Addr),h'.get? p=some (oB b a)->fW b h' p a 0:=λb h' p a e=>by
  cases b with
  |true=>exact⟨_,e,rfl,rfl⟩
  |false=>exact⟨_,e,rfl,rfl⟩
 exact⟨⟨_,m,rfl⟩,h _ m q n (g _ _ _ _ y) (g _ _ _ _ r) v λc o x=>Mi _ (Mi _ (Mi _ (Mi _ (Mi _ x))))⟩
end
noncomputable def SqS(b:Bool)(K:Frag)(H:Hp)(a:Addr)(xs:List V):Prop:=if b=true then SqL K H a xs else SqT K H a xs
noncomputable def Itz(b1 b2:Bool)(K:Frag)(a b:Addr):It:=
 ⟨λi H=>∃xs ys x y,SqS b1 K H a xs/\SqS b2 K H b ys/\xs[i]?=some x/\ys[i]?=some y,
  λi H v c=>∃p x y,H p=none/\v= .ref p/\c=upd H p (.tup [x,y])/\∀xs ys,SqS b1 K H a xs->SqS b2 K H b ys->xs[i]?=some x/\ys[i]?=some y,
  λi H=>∃xs ys,SqS b1 K H a xs/\SqS b2 K H b ys/\(xs.length=i\/(i<xs.length/\ys.length=i))⟩
section
variable{X:Cx}{pins:List (Addr×Obj)}{σ:St}{H:Hp}{s:Ml}
theorem Inv.src{b:Bool}{a:Addr}{xs:List V}(I:Inv X pins σ H s)(h:SqS b X.K H a xs):∃its:List Mh,ak xs its/\Src b s.heap a its.toArray:=by
 cases b with
 |true=>
  obtain⟨its,r,p,_⟩:=I.list (show SqL X.K H a xs from h)
  exact⟨its,r,p.isList⟩
 |false=>
  obtain⟨its,r,p,_⟩:=I.tuple (show SqT X.K H a xs from h)
  exact⟨its,r,p⟩
theorem Inv.src_inj{b:Bool}{a:Addr}{xs ys:List V}(I:Inv X pins σ H s)(h:SqS b X.K H a xs)(h':SqS b X.K H a ys):xs=ys:=by
 cases b with
 |true=>exact I.list_inj (show SqL X.K H a xs from h) h'
 |false=>exact I.tuple_inj (show SqT X.K H a xs from h) h'
theorem fW.get{b:Bool}{h:Heap}{it a:Addr}{k:Nat}(x:fW b h it a k):∃o,h.get? it=some o/\o.cls= .type (DQ b)/\∃fs,o.data= .fields fs:=by
 cases b with
 |true=>obtain⟨o,e,c,d⟩:=(show h.IsListIter it a k from x);exact⟨o,e,c,_,d⟩
 |false=>obtain⟨o,e,c,d⟩:=(show h.IsTupleIter it a k from x);exact⟨o,e,c,_,d⟩
theorem fW.keep{b:Bool}{h h':Heap}{it a:Addr}{k:Nat}(x:fW b h it a k)(q:∀o,h.get? it=some o->h'.get? it=some o):fW b h' it a k:=by
 cases b with
 |true=>exact(show h.IsListIter it a k from x).at λo e=>q o e
 |false=>exact(show h.IsTupleIter it a k from x).at λo e=>q o e
end
section
variable{X:Cx}{pins:List (Addr×Obj)}{σ:St}{H:Hp}{s:Ml}
theorem Inv.turnNew{h':Heap}{t':Nat}{ch:List Addr}{p:Addr}{o:HO}(I:Inv X pins σ H s)(d:∀b∈ch,eL X pins H b)(k:∀b u,b∉ch->s.heap.get? b=some u->h'.get? b=some u)(f:s.heap.objs.size<=p)(new:bd X.prog X.w (upd H p o) h' p o):Inv X pins σ (upd H p o) {s with heap:=h',toks:=t'}:=by
 have hn:H p=none:=I.hok.fresh f
 have g:∀b u,H b=some u->b∉ch:=λb u e z=>by rw[(d b z).1]at e;cases e
 refine I.call' (s':={s with heap:=h',toks:=t'}) (ch:=ch) rfl ⟨λb u e _ _ a=>k b u a e,λb u e _ _ a=>⟨u.slots,k b u a e⟩,λb u e z a=>?_,λb u e a=>⟨u,k b u a e⟩,λb ys e=>?_,λb u ys e=>?_,λb ys e=>⟨#[],?_⟩⟩ (λb u e=>?_) I.bare λb h=>?_
 ·rw[upd_ne (M6 (MP (MI e) f))];exact z
 ·rw[upd_ne (ne_of_none e hn)];exact e
 ·rw[upd_ne (ne_of_none e hn)];exact e
 ·rw[upd_ne (ne_of_none e hn),e];simp
 ·by_cases z:b=p
  ·subst z;rw[ai]at e;cases e;exact new
  ·rw[upd_ne z]at e
   refine(I.hok b u e).stay (λc v a q=>k c v ?_ q) (λc q=>by rw[upd_ne (ne_of_none q hn)];exact q) λc xs q=>by rw[upd_ne (ne_of_none q hn)];exact q
   rcases a with rfl|a
   ·exact g _ _ e
   ·exact g _ _ a
 ·obtain⟨m,f1,f2,i,j,l⟩:=d b h
  exact⟨i,f1,j,l⟩
theorem Inv.turnL{h':Heap}{t':Nat}{ch:List Addr}(I:Inv X pins σ H s)(d:∀b∈ch,eL X pins H b)(k:∀b u,b∉ch->s.heap.get? b=some u->h'.get? b=some u):Inv X pins σ H {s with heap:=h',toks:=t'}:=by
 have f:∀b u,H b=some u->b∉ch:=λb u e z=>by rw[(d b z).1]at e;cases e
 refine I.call' (s':={s with heap:=h',toks:=t'}) (ch:=ch) rfl ⟨λb u e _ _ a=>k b u a e,λb u e _ _ a=>⟨u.slots,k b u a e⟩,λb u e z a=>z,λb u e a=>⟨u,k b u a e⟩,λb ys e=>e,λb u ys e=>e,λb ys e=>⟨#[],by rw[e];simp⟩⟩ (λb u e=>?_) I.bare λb g=>?_
 ·refine(I.hok b u e).stay (λc v a q=>k c v ?_ q) (λc q=>q) λc xs q=>q
  rcases a with rfl|a
  ·exact f _ _ e
  ·exact f _ _ a
 ·obtain⟨l,f1,f2,h,i,j⟩:=d b g
  exact⟨h,f1,i,j⟩
theorem Inv.src_ne{b:Bool}{a c:Addr}{xs:List V}(I:Inv X pins σ H s)(h:SqS b X.K H a xs)(f:eL X pins H c):a≠c:=by
 obtain⟨j,f1,f2,d,k,l⟩:=f
 have g:∀o,X.K.lookup a=some o->a≠c:=λo e z=>by
  have i:=I.ok.mod.kin a o e
  subst z
  rcases d with d|d
  ·exact I.ok.noex a o i d
  ·exact MM (MP (MI (I.ok.bs a o i).1) d) (Nf _)
 have rd:∀u,Rd H a u->a≠c:=λu r z=>by
  subst z
  rcases r with r|⟨_,r⟩<;>rw[j]at r<;>cases r
 cases b with
 |true=>
  rcases(show SqL X.K H a xs from h)with h|⟨o,_,_,e,_⟩
  ·exact rd _ h
  ·exact g o e
 |false=>
  rcases(show SqT X.K H a xs from h)with h|⟨o,_,_,e,_⟩
  ·exact rd _ h
  ·exact g o e
end
theorem zQ{P:Program}{w:MY}{K:Frag}{S:List Expr}{x1}{pos:Pos}(b1 b2:Bool)(B C z TI TO f g:Addr)(nd:[z,TI,TO,f,g].Nodup):
  Turn P w K (.Tuple S x1 pos) (Itz b1 b2 K B C) [z,TI,TO,f,g] z (λi h=>Rr h z TI TO .none/\OY h TI (.ref f) (.ref g)/\(∃a b,OY h TO a b)/\fW b1 h f B i/\fW b2 h g C i) where
 mem:=by simp
 obj:=λi h st b j=>by
  obtain⟨p,r,⟨a,W,D⟩,F,G⟩:=st
  simp only[MH,NC,P4]at j
  rcases j with rfl|rfl|rfl|rfl|rfl
  ·exact⟨_,p,λv q=>by cases q⟩
  ·exact⟨_,r,λv q=>by cases q⟩
  ·exact⟨_,D,λv q=>by cases q⟩
  ·obtain⟨o,e,_,fs,d⟩:=F.get
   exact⟨o,e,λv q=>by rw[d]at q;cases q⟩
  ·obtain⟨o,e,_,fs,d⟩:=G.get
   exact⟨o,e,λv q=>by rw[d]at q;cases q⟩
 keep:=λi h h' st k=>by
  obtain⟨p,r,⟨a,W,D⟩,F,G⟩:=st
  exact⟨k z (by simp) _ p,k TI (by simp) _ r,⟨a,W,k TO (by simp) _ D⟩,F.keep λo e=>k f (by simp) o e,G.keep λo e=>k g (by simp) o e⟩
 item:=by
  intro X hP hw hK n i J s σ H E I L st hg
  subst hP hw hK
  obtain⟨xs,ys,x,y,q1,q2,hx,hy⟩:=hg
  obtain⟨p,r,⟨a,W,D⟩,F,G⟩:=st
  obtain⟨l,r1,p1⟩:=Inv.src I q1
  obtain⟨m,Y,p2⟩:=Inv.src I q2
  have hd:=I.ok.hd n
  simp only[Nd,MH,NC,P4,not_or]at nd
  obtain⟨⟨T,Z,Q,R⟩,⟨t1,t2,t3⟩,⟨U,o2⟩,N,_⟩:=nd
  have t:∀c∈[z,TI,TO,f,g],B≠c:=λc n=>Inv.src_ne I q1 (L c n)
  have A:∀c∈[z,TI,TO,f,g],C≠c:=λc n=>Inv.src_ne I q2 (L c n)
  have ap:Ap z TI TO f g [f,B] [g,C]:=⟨Ne.symm T,Ne.symm Z,Ne.symm Q,Ne.symm R,t1,t2,t3,U,o2,N,by simp[Q,(t z (by simp)).symm],by simp[U,(t TO (by simp)).symm],by simp[Ne.symm N,(t g (by simp)).symm],by simp[R,(A z (by simp)).symm],by simp[o2,(A TO (by simp)).symm],by simp[N,(A f (by simp)).symm],by simp,by simp⟩
  have k1:i<l.toArray.size:=by
   rw[MG,←r1.length];exact(MF.mp hx).1
  have k2:i<m.toArray.size:=by
   rw[MG,←Y.length];exact(MF.mp hy).1
  refine xz (λA' h'=>rO b1 (h'.trans hd) f B (t f (by simp)) l.toArray) (λA' h'=>rO b2 (h'.trans hd) g C (A g (by simp)) m.toArray) ap p r D ⟨F,p1⟩ ⟨G,p2⟩ k1 k2 λh' tk u v pu pv fz fO f1 f2 fT sz kp=>?_
  refine⟨_,rfl,wpAny_letOwnedTupleGo_zip (s:={s with heap:=h',toks:=tk}) fz λO V M=>?_⟩
  replace M:MT z h' O:=M
  have zT:s.heap.objs.size≠z:=Ou (MI p)
  obtain⟨u',hu,ru⟩:=r1.get hx
  obtain⟨v',hv,rv⟩:=Y.get hy
  have eu:u=u':=by
   have:l[i]?=some u:=by simpa using pu
   rw[this]at hu;exact MQ hu
  have ev:v=v':=by
   have:m[i]?=some v:=by simpa using pv
   rw[this]at hv;exact MQ hv
  subst eu ev
  have kk:∀b o,b∉[z,TI,TO,f,g]->s.heap.get? b=some o->O.get? b=some o:=λb o j e=>by
   simp only[MH,NC,P4,not_or]at j
   exact M.extBut b o j.1 (kp b o j.1 j.2.2.1 j.2.2.2.1 j.2.2.2.2 e)
  have I2:Inv X J σ (upd H s.heap.objs.size (.tup [x,y])) {s with heap:=O,toks:=tk}:=by
   refine Inv.turnNew I L kk (Mw _) ⟨by show 2<=sizeLine;decide,[u,v],.cons ru (.cons rv .nil),_,M.extBut _ _ zT fT,rfl,_,rfl⟩
  refine⟨.ref s.heap.objs.size,_,I2,rfl,⟨s.heap.objs.size,x,y,I.hok.fresh (Mw _),rfl,rfl,λas bs h1 h2=>⟨by rw[Inv.src_inj I h1 q1];exact hx,by rw[Inv.src_inj I h2 q2];exact hy⟩⟩,⟨V,?_,⟨u,v,?_⟩,?_,?_⟩,λb j=>?_⟩
  ·exact M.extBut _ _ (Ne.symm T) (kp TI _ (Ne.symm T) t1 t2 t3 r)
  ·exact M.extBut _ _ (Ne.symm Z) fO
  ·exact f1.1.keep λo e=>M.extBut _ _ (Ne.symm Q) e
  ·exact f2.1.keep λo e=>M.extBut _ _ (Ne.symm R) e
  ·rw[upd_ne]
   ·exact(L b j).1
   ·intro q
    have ol:∃o,s.heap.get? b=some o:=by
     simp only[MH,NC,P4]at j
     rcases j with rfl|rfl|rfl|rfl|rfl
     ·exact⟨_,p⟩
     ·exact⟨_,r⟩
     ·exact⟨_,D⟩
     ·obtain⟨o,e,_⟩:=F.get;exact⟨o,e⟩
     ·obtain⟨o,e,_⟩:=G.get;exact⟨o,e⟩
    obtain⟨o,e⟩:=ol
    exact MM (MI e) (by rw[q];exact Nf _)
 done:=by
  intro X hP hw hK n i J s σ H E I L st hg
  subst hP hw hK
  obtain⟨xs,ys,q1,q2,hl⟩:=hg
  obtain⟨p,r,⟨a,W,D⟩,F,G⟩:=st
  obtain⟨l,r1,p1⟩:=Inv.src I q1
  obtain⟨m,Y,p2⟩:=Inv.src I q2
  have hd:=I.ok.hd n
  simp only[Nd,MH,NC,P4,not_or]at nd
  obtain⟨⟨T,Z,Q,R⟩,⟨t1,t2,t3⟩,⟨U,o2⟩,N,_⟩:=nd
  have t:∀c∈[z,TI,TO,f,g],B≠c:=λc n=>Inv.src_ne I q1 (L c n)
  have A:∀c∈[z,TI,TO,f,g],C≠c:=λc n=>Inv.src_ne I q2 (L c n)
  have ap:Ap z TI TO f g [f,B] [g,C]:=⟨Ne.symm T,Ne.symm Z,Ne.symm Q,Ne.symm R,t1,t2,t3,U,o2,N,by simp[Q,(t z (by simp)).symm],by simp[U,(t TO (by simp)).symm],by simp[Ne.symm N,(t g (by simp)).symm],by simp[R,(A z (by simp)).symm],by simp[o2,(A TO (by simp)).symm],by simp[N,(A f (by simp)).symm],by simp,by simp⟩
  have g1:l.toArray.size=xs.length:=by rw[MG,←r1.length]
  have g2:m.toArray.size=ys.length:=by rw[MG,←Y.length]
  refine zK (λA' h'=>rO b1 (h'.trans hd) f B (t f (by simp)) l.toArray) (λA' h'=>rO b2 (h'.trans hd) g C (A g (by simp)) m.toArray) ap p r D ⟨F,p1⟩ ⟨G,p2⟩ ?_ λh' tk kp=>⟨rfl,Inv.turnL I L λb o j e=>?_⟩
  ·rw[g1,g2]
   rcases hl with hl|⟨h1,h2⟩
   ·exact .inl hl.symm
   ·exact .inr ⟨h1,h2.symm⟩
  ·simp only[MH,NC,P4,not_or]at j
   exact kp b o j.1 j.2.2.1 j.2.2.2.1 j.2.2.2.2 e
 self:=λ_ _ _ _ _ st h=>wpAny_pyIter_zip st.1 h
section
variable{X:Cx}{E:St->XK}{K:Frag}
noncomputable def iZp(K:Frag)(d:TA):TI:=λe H R=>d e H λvs a=>∃b1 b2 b c xs ys,vs=[.ref b,.ref c]/\SqS b1 K a b xs/\SqS b2 K a c ys/\R (Itz b1 b2 K b c) a
theorem IB{a b:Expr}{t:TA}{p pos:Pos}{g:List Expr}{x1}{i:Pos}(A:Gl X "zip")(hm:X.mg "zip"=none)(ha:PA X [a,b] t)(hs:Mx [a,b] X.env=[(false,eval a X.env),(false,eval b X.env)]:=by rfl)(j:Mx [b] X.env=[(false,eval b X.env)]:=by rfl):
  PI X (.Tuple g x1 i) (.Call (.Name "zip" p) [a,b] [] pos) (iZp X.K t):=by
 intro f s u H R I h
 refine Call_ (eV I A hm PyProof.Rows.Boot.«zip» (NK (thn (ha pos f s u H _ I h) λus d ⟨vs,v,k,r1,q1⟩=>?_) (by rw[hs,j]) (by rw[j];rfl)))
 obtain⟨b1,b2,w,x,xs,ys,e,q1,q2,q⟩:=q1
 subst e
 cases r1 with
 |cons r m=>
  cases m with
  |cons B m=>
   cases m
   cases r
   cases B
   obtain⟨C,N,D⟩:=Inv.src k q1
   obtain⟨F,O,G⟩:=Inv.src k q2
   refine zt D G λh' y J L n o sz kp=>?_
   refine wpAny_pyIter_zip (s:={d with heap:=h'}) y ?_
   have M:Inv X f u v {d with heap:=h'}:=k.kept (t':=d.toks) kp
   refine⟨_,[d.heap.objs.size+4,d.heap.objs.size+2,d.heap.objs.size+3,d.heap.objs.size,d.heap.objs.size+1],_,Itz b1 b2 X.K w x,v,rfl,M,zQ b1 b2 w x (d.heap.objs.size+4) (d.heap.objs.size+2) (d.heap.objs.size+3) d.heap.objs.size (d.heap.objs.size+1) (by simp),⟨y,J,⟨_,_,L⟩,n,o⟩,λc z=>?_,q⟩
   have l:d.heap.objs.size<=c:=by
    simp only[MH,NC,P4]at z
    rcases z with rfl|rfl|rfl|rfl|rfl
    ·exact Qd _ _
    ·exact Qd _ _
    ·exact Qd _ _
    ·exact Mw _
    ·exact Qd _ _
   exact k.fpOk l (k.hok.fresh l)
noncomputable def cA:List D->List D->List D
 |x::xs,y::ys=> .tup [x,y]::cA xs ys
 |_,_=>[]
theorem rX:∀(xs ys:List D),(cA xs ys).length=min xs.length ys.length
 |[],ys=>by simp[cA]
 |x::xs,[]=>by simp[cA]
 |x::xs,y::ys=>by
  show(cA xs ys).length+1=_
  rw[rX xs ys,MA,MA]
  omega
theorem rY:∀{xs ys:List D} {i:Nat} {d:D},(cA xs ys)[i]?=some d->∃x y,xs[i]?=some x/\ys[i]?=some y/\d= .tup [x,y]
 |[],ys,i,d,h=>by simp[cA]at h
 |x::xs,[],i,d,h=>by simp[cA]at h
 |x::xs,y::ys,0,d,h=>by
  simp[cA]at h
  exact⟨x,y,rfl,rfl,h.symm⟩
 |x::xs,y::ys,i+1,d,h=>by
  have h':(cA xs ys)[i]?=some d:=by simpa[cA]using h
  obtain⟨a,b,c,e,f⟩:=rY h'
  exact⟨a,b,by simpa using c,by simpa using e,f⟩
noncomputable def rZ:List D->Option (List D)
 |[a,b]=>(dJ a).bind λxs=>(dJ b).map λys=>cA xs ys
 |_=>none
theorem Den.sqS{F:Fx}{H:Hp}{d:D}{v:V}{ds:List D}(h:Den K F H d v)(e:dJ d=some ds):∃b a,v= .ref a/\∀f c,Tr F H f c->∃xs,SqS b K c a xs/\DenL K f c ds xs:=by
 cases d<;>first
  |(cases e;obtain⟨a,xs,rfl,_⟩:=Den.sqL h;refine⟨true,a,rfl,λf c t=>?_⟩;obtain⟨j,ys,g,sq,i⟩:=Den.sqL (Den.tr t _ _ h);cases g;exact⟨ys,sq,i⟩)
  |(cases e;obtain⟨a,xs,rfl,_⟩:=Den.sqT h;refine⟨false,a,rfl,λf c t=>?_⟩;obtain⟨j,ys,g,sq,i⟩:=Den.sqT (Den.tr t _ _ h);cases g;exact⟨ys,sq,i⟩)
  |cases e
theorem GT{F:Fx}{H:Hp}{b1 b2:Bool}{h j:Addr}{ds es:List D}(q:∀b a,Tr F H b a->∃xs,SqS b1 K a h xs/\DenL K b a ds xs)(r:∀b a,Tr F H b a->∃xs,SqS b2 K a j xs/\DenL K b a es xs):ItD K (Itz b1 b2 K h j) F H (cA ds es):=λb a β2 t fr i=>by
 obtain⟨xs,c,d1⟩:=q b a t
 obtain⟨ys,e,d2⟩:=r b a t
 refine⟨λd hd=>?_,λs=>?_⟩
 ·obtain⟨x,y,f,g,rfl⟩:=rY hd
  obtain⟨u,k,du⟩:=d1.get f
  obtain⟨v,l,w⟩:=d2.get g
  refine⟨⟨xs,ys,u,v,c,e,k,l⟩,λz C A=>?_⟩
  obtain⟨p,G,I,m,rfl,rfl,B⟩:=A
  obtain⟨n,o⟩:=B xs ys c e
  rw[k]at n
  rw[l]at o
  cases n
  cases o
  exact⟨bv.upd m,Den.newT fr m (DenL.cons du (DenL.cons w DenL.nil))⟩
 ·rw[rX]at s
  have f:=d1.length
  have g:=d2.length
  refine⟨xs,ys,c,e,?_⟩
  rw[←f,←g]
  omega
noncomputable def fZ(g:FL):FL:=aT rZ g
theorem w6{a b:Expr}{g:FL}{p pos:Pos}{f:List Expr}{x1}{i:Pos}(r:Gl X "zip")(hm:X.mg "zip"=none)(ha:PA X [a,b] (tVA X.K g E))(hs:Mx [a,b] X.env=[(false,eval a X.env),(false,eval b X.env)]:=by rfl)(m:Mx [b] X.env=[(false,eval b X.env)]:=by rfl):
  PI X (.Tuple f x1 i) (.Call (.Name "zip" p) [a,b] [] pos) (iV X.K (fZ g) E):=
 (IB r hm ha hs m).imp λC H R n=>ex6 n λF δ β fr s h=>⟨F,δ,β,fr,s,(run.bind (R:=DenL X.K F) h).mono λvs j n=>by
  obtain⟨ds,β1,t,hd,r1⟩:=n
  obtain⟨l,e,k⟩:=run.ofO r1
  unfold rZ at e
  split at e
  ·rename_i c d
   obtain⟨v,D,rfl,u,w⟩:=DenL.two hd
   cases q1:dJ c with
   |none=>rw[q1]at e;cases e
   |some xs=>
    cases q2:dJ d with
    |none=>rw[q1,q2]at e;cases e
    |some ys=>
     rw[q1,q2]at e
     cases e
     obtain⟨b1,x,rfl,o⟩:=Den.sqS u q1
     obtain⟨b2,y,rfl,q⟩:=Den.sqS w q2
     obtain⟨us,z,_⟩:=o F j (Tr.refl F j)
     obtain⟨A,B,_⟩:=q F j (Tr.refl F j)
     exact⟨b1,b2,x,y,us,A,rfl,z,B,k _ j (To.refl t.fr) (GT o q)⟩
  ·cases e⟩
end
noncomputable def jV(K:Frag)(f:Dn->M Unit)(c:Nat)(E:St->XK):TJ:=λa H n Q=>n+c<=sizeLine/\∃F δ β,Fr F H β/\VOk K F H δ a/\run (λ_ (_:Unit) (m:Nat)=>m<=n+c) F E a (f δ) H Q β
theorem _root_.L2.PJ.imp{X:Cx}{es:List Expr}{t t':TJ}(h:PJ X es t)(f:∀a H n Q,t' a H n Q->t a H n Q):PJ X es t':=λb s a H acc Q I c d=>h b s a H acc Q I c (f a H _ _ d)
noncomputable def dN:Dn->M Unit:=λ_=>M.ret ()
noncomputable def bW(f:FD)(g:Dn->M Unit):Dn->M Unit:=λδ=>M.bind (f δ) λd=>match d with
 | .int i=>if i.natAbs.log2<1920 then g δ else M.fail
 |_=>M.fail
section
variable{X:Cx}{E:St->XK}{es:List Expr}{K:Frag}
theorem j5:PJ X [] (jV X.K dN 0 E):=Iz.imp λb H n Q a=>by obtain⟨_,F,δ,β,fr,c,r⟩:=a;exact run.ret fr r (Mw _)
theorem db{x:Str}{j:Nat}{p:Pos}{g:Dn->M Unit}{c:Nat}(h:PJ X es (jV X.K g c E))(b:Rg (.Constant (.str x) j p::es) X.env=eval (.Constant (.str x) j p) X.env::Rg es X.env:=by rfl):PJ X (.Constant (.str x) j p::es) (jV X.K g (x.length+c) E):=
 (Iy h b).imp λl H n Q d=>by
  obtain⟨o,F,δ,β,fr,f,r,a,e,k⟩:=d
  exact⟨by omega,by omega,F,δ,β,fr,f,r,a,e,by
   cases r with
   |ok u=>exact λm i t hm=>k m i t (by omega)
   |error C=>exact k⟩
theorem e9{v:Expr}{p:Pos}{f:FD}{g:Dn->M Unit}{c:Nat}(l:PE X v (tV X.K f E))(h:PJ X es (jV X.K g c E))(o:Rg (.FormattedValue v (-1) none p::es) X.env=eval (.FormattedValue v (-1) none p) X.env::Rg es X.env:=by rfl):PJ X (.FormattedValue v (-1) none p::es) (jV X.K (bW f g) (1921+c) E):=
 (IA l h o).imp λz H n Q ⟨A,F,δ,β,fr,j,r⟩=>⟨F,δ,β,fr,j,(run.bind (R:=Den X.K F) r).mono λv B s=>by
  obtain⟨d,β1,t,hd,r1⟩:=s
  cases d with
  |int i=>
   by_cases q:i.natAbs.log2<1920
   ·simp only[Mu q]at r1
    refine⟨i,hd,q,by omega,λm hm=>⟨by omega,F,δ,β1,t.fr,j.tr (t.tr fr),?_⟩⟩
    obtain⟨b,a,e,k⟩:=r1
    refine⟨b,a,e,?_⟩
    cases b with
    |ok u=>exact λw x t' y=>k w x t' (by omega)
    |error C=>exact k
   ·simp only[Mr q]at r1
    obtain⟨b,a,e,k⟩:=r1
    cases e
  |_=>obtain⟨b,a,e,k⟩:=r1;cases e⟩
noncomputable def dP(f:Dn->M Unit):FD:=λδ=>M.bind (f δ) λ_=>M.ret .txt
theorem ie{b e:Expr}{rest:List Expr}{pos:Pos}{f:Dn->M Unit}{c:Nat}(h:PJ X (b::e::rest) (jV X.K f c E))(i:c<=sizeLine):PE X (.JoinedStr (b::e::rest) pos) (tV X.K (dP f) E):=
 (FU h).imp λj H Q a=>ex6 a λF δ β fr g r=>⟨by omega,F,δ,β,fr,g,(run.bind (R:=λ_ (_:Unit) (m:Nat)=>m<=0+c) r).mono λm k a=>ex5 a λd β1 t hd r1=>⟨by omega,λz l=>run.ret t.fr r1 ⟨z,rfl⟩⟩⟩
noncomputable def rA(C:Addr)(n:Nat):Sp:=λvs H Q _=>∃(x:Addr) (rest:List V),vs= .ref x::rest/\rest.length=n/\H x=some (dg C x none)/\
 ∀(dx:Option Addr) (a:Hp),a x=some (dg C x dx)->(∀b o,H b=some o->b≠x->a b=some o)->Q .non a
noncomputable def bU(C:Addr)(f:FL):G:=λδ β=>match f (vwA δ) β with
 |some (.ok _,β1)=>some (.ex C δ,β1)
 |some (.error C',β1)=>some (.ex C' δ,β1)
 |none=>none
end
section
variable{P:Program}{w:MY}{K:Frag}{mg:Str->Option Mh}{base:Heap}{N:List Str}{qual:Str}{scope:Scope}{f:Addr}{cd:Mh}{A:M8}{outer:List Env}{s:Ml}{H:Hp}{E:XK}
theorem fA{e:Expr}{pos:Pos}{C:Addr}{n:Nat}{g:FL}{v:St->XK}(xc:XC K C)(hn:∀δ β r c,g δ β=some (.ok r,c)->r.length=n)(y:n<=sizeLine)
  (h:PS (cX (CXE P w) P w K mg base N qual scope f cd A outer s H E) (.Raise (some e) none pos) (xN H K E (HV C (rA C n) [] v (tVA K g (λ_=>E))))):
  PS (cX (CXE P w) P w K mg base N qual scope f cd A outer s H E) (.Raise (some e) none pos) (tG K H (bU C g) (λ_=>E)):=h.imp λD z Q F=>by
 obtain⟨B,bg,δ,β,o,c,ok,e,q⟩:=F
 refine⟨FxA B bg,vwA δ,β,ok.frA,ok.viewA,?_⟩
 unfold bU at e
 split at e
 ·rename_i ds β1 d
  cases e
  refine⟨.ok ds,_,d,λvs G t hd=>?_⟩
  obtain⟨a,i⟩:=ok.to rfl t
  have m:vs.length=n:=by rw[←hd.length];exact hn _ _ _ _ d
  refine⟨by rw[m];exact y,λx p=>⟨x,vs++[],rfl,by rw[M2];exact m,ai,λdx j I J=>⟨rfl,x,C,dx,rfl,I,?_,xc,?_⟩⟩⟩
  ·cases L:H x with
   |none=>rfl
   |some o=>exact MM p (a.cov x (by rw[L];simp))
  ·have sm:∀b o,G b=some o->ft j x b=some o:=λb o u=>by
    have k:b≠x:=ne_of_none u p
    rw[ia k]
    exact J b o (by rw[upd_ne k];exact u) k
   obtain⟨l,M⟩:=a.to rfl (a.fr.same sm)
   exact q z B _ (i.trans M) l
 ·rename_i O β1 d
  cases e
  refine⟨.error O,_,d,λj t=>?_⟩
  obtain⟨a,i⟩:=ok.to rfl t
  exact q _ B j i a
 ·cases e
end
section
variable{X:Cx}{E:St->XK}{K:Frag}
noncomputable abbrev Gh:=Addr->G
noncomputable def hNo:Gh:=λ_ _ _=>none
noncomputable def pG(K:Frag)(a:Addr)(g:G)(r:Gh):Gh:=λC δ β=>match PySem.W.exmOne K (.ref C) (.ref a)with
 |some true=>g δ β
 |some false=>r C δ β
 |none=>none
noncomputable def pJ(g:G)(h:Gh):G:=λδ β=>match g δ β with
 |some (.ex C δ1,β1)=>h C δ1 β1
 |r=>r
end
section
variable{X:Cx}{E:St->XK}{K:Frag}{elt target iter:Expr}{ifs:List Expr}{rest:List No}{scope:Scope}{pos:Pos}{Nc vars:List Str}{caps:List Nat}{g:TG}{tb:Addr->TB}
theorem aU:dH X [] (tVT X.K (λ_=>M.ret true) E0):=λa s b H Q I c=>by obtain⟨F,δ,β,fr,d,r⟩:=c;exact sR a s b H Q I (run.ret fr r rfl)
theorem xh{c:Expr}{t:Dn->M Bool}(a:PT X c (tVT X.K t E0)):dH X [c] (tVT X.K t E0):=AD a
theorem bu{it:FL}{tg:TgF}{tt:Dn->M Bool}{b:FL}(c:X.calm=true)(S:CmpScope X scope Nc vars caps)(d:PI X target iter (iV X.K it E))
  (e:∀(cl:List (Str×Addr)) (C:Addr) (a:List Addr) (s:Ml) (H:Hp),PG (aE X Nc scope cl C a s H) target g/\dH (aE X Nc scope cl C a s H) ifs (tVT X.K tt E0)/\∀D,PB (aE X Nc scope cl C a s H) elt (⟨target,iter,ifs,0⟩::rest) scope pos 0 D (tb D))
  (f:cy X.K g tg) (i:dZ tg) (j:∀D,mj X.K D (tb D) b) (hs:∀x,Nj iter X.env x=pure x:=by intro _;rfl):PE X (.ListComp elt (⟨target,iter,ifs,0⟩::rest) scope pos) (tV X.K (aI vars.length caps it tg tt b) E):=
 (u7 c S d e hs).imp λk H Q h=>sy f i j h
theorem x8{it:FL}{tg:TgF}{tt:Dn->M Bool}{b:FL}{i:Nat}{x:Str}{a c:Pos}(j:X.N.Nodup)(d:X.N[i]?=some x)(k:Loc X.env.scope x)(l:X.calm=true)(S:CmpScope X scope Nc vars caps)(m:PI X target iter (iV X.K it E))
  (n:∀(cl:List (Str×Addr)) (C:Addr) (f:List Addr) (s:Ml) (H:Hp),PG (aE X Nc scope cl C f s H) target g/\dH (aE X Nc scope cl C f s H) ifs (tVT X.K tt E0)/\∀D,PB (aE X Nc scope cl C f s H) elt (⟨target,iter,ifs,0⟩::rest) scope pos 0 D (tb D))
  (o:cy X.K g tg) (p:dZ tg) (q:∀D,mj X.K D (tb D) b)
  (e:P5 (.ListComp elt (⟨target,iter,ifs,0⟩::rest) scope pos) (some (.Name x a)) c.line X.env=pure true:=by rfl)
  (hs:∀x,Nj iter X.env x=pure x:=by intro _;rfl) (r:X.fn x=true\/X.env.scope.names.lookup x=some .local:=by first|exact .inl rfl|exact .inr rfl|assumption):
  PS X (.Assign [.Name x a] (.ListComp elt (⟨target,iter,ifs,0⟩::rest) scope pos) c) (tG X.K X.H₀ (aG i (aI vars.length caps it tg tt b)) E):=
 aM ((uY j d k l S m n e hs r).imp λD t H h=>sy o p q h)
noncomputable def jX:D->Option D
 | .int i=>some (.int (-i))
 |_=>none
theorem DL:EA K (rU λi=> .int (-i)) jX:=λF H β Q d1 d b fr a e k=>by
 cases d1<;>first|(cases e;exact⟨_,a,k _ H (To.refl fr) rfl⟩)|cases e
noncomputable def zF:D->Option Int
 | .int i=>some i
 |_=>none
noncomputable def nc(xs:List D)(lo a:Option Int):List D:=(xs.drop (HT.sIx xs.length 0 lo)).take (HT.sIx xs.length xs.length a-HT.sIx xs.length 0 lo)
noncomputable def slD:D->Option Int->Option Int->Option D
 | .lst xs,lo,hi=>some (.lst (nc xs lo hi))
 | .scr ns,lo,hi=>some (.lst (nc (ns.map D.int) lo hi))
 |_,_,_=>none
noncomputable def rM(f:Option (FD)):Dn->M (Option Int):=λδ=>match f with
 |none=>M.ret none
 |some g=>M.bind (g δ) λd=>M.bind (M.ofO (zF d)) λi=>M.ret (some i)
noncomputable def fSl(f:FD)(lo a:Option (FD)):FD:=λδ=>M.bind (f δ) λd=>M.bind (rM lo δ) λl=>M.bind (rM a δ) λh=>M.ofO (slD d l h)
noncomputable def xx(X:Cx)(e:Option Expr)(f:Option (FD))(E:St->XK):Prop:=PO X e (λc H Q=>∃F δ β,Fr F H β/\VOk X.K F H δ c/\run (λ_ (a b:Option Int)=>b=a) F E c (rM f δ) H Q β)
theorem yC:xx X none none E:=λa s b H Q I c=>by obtain⟨F,δ,β,fr,d,r⟩:=c;exact u4 a s b H Q I (run.ret fr r rfl)
theorem yB{e:Expr}{f:FD}(h:PE X e (tV X.K f E)):xx X (some e) (some f) E:=λa s c H Q I b=>ex6 b λF δ β fr j r=>u3 h a s c H Q I ⟨F,δ,β,fr,j,(run.bind (R:=Den X.K F) r).mono λv l b=>by
  obtain⟨d,β1,t,hd,r1⟩:=b
  obtain⟨i,e,k⟩:=run.ofO_bind r1
  cases d<;>first|(cases e;exact⟨_,hd,run.ret t.fr k rfl⟩)|cases e⟩
theorem DenL.cut{F:Fx}{H:Hp}{ds:List D}{vs:List V}(h:DenL K F H ds vs)(lo a:Option Int):DenL K F H (nc ds lo a) (lq vs lo a):=by
 unfold nc lq
 rw[h.length]
 exact(h.drop _).take _
theorem uG{e:Expr}{f:FD}{lo w:Option Expr}{fl x:Option (FD)}{y:Pos}(z:PE X e (tV X.K f E))(A:xx X lo fl E)(B:xx X w x E):PE X (.Subscript e (.Slice lo w none y) pos) (tV X.K (fSl f fl x) E):=
 (sS uP z A B).imp λI H Q o=>ex6 o λF δ β fr q r=>⟨F,δ,β,fr,q,(run.bind (R:=Den X.K F) r).mono λv J ⟨d,β1,t,hd,r1⟩=>
  ⟨F,δ,β1,t.fr,q.tr (t.tr fr),(run.bind (R:=λ_ (a b:Option Int)=>b=a) r1).mono λl L ⟨M,β2,n,s,C⟩=>
   ⟨F,δ,β2,n.fr,q.tr ((t.tr fr).trans (n.tr t.fr)),(run.bind (R:=λ_ (a b:Option Int)=>b=a) C).mono λh N o=>by
    obtain⟨h',β3,i,u,D⟩:=o
    subst s u
    obtain⟨c,e,k⟩:=run.ofO D
    have j:=Den.tr ((n.tr t.fr).trans (i.tr n.fr)) _ _ hd
    cases d<;>first
     |(cases e;obtain⟨a,xs,rfl,sq,G⟩:=Den.sqL j;exact⟨a,xs,rfl,sq,λp m=>k _ _ (i.fr.upd _ m) (Den.newL i.fr m (G.cut l h))⟩)
     |(cases e;obtain⟨a,rfl,sq⟩:=Den.scr j;exact⟨a,_,rfl,sq,λp m=>k _ _ (i.fr.upd _ m) (Den.newL i.fr m ((DenL.ofInts _).cut l h))⟩)
     |cases e⟩⟩⟩
end
noncomputable def Bg.ok(β:Bg):Prop:=β.cells≠[]/\β.cells.length<=64/\(∀c∈β.cells,0<=c)/\0<=β.j
noncomputable def Bg.pos(β:Bg):Nat:=(β.i % (β.cells.length:Int)).toNat
noncomputable def Bg.cell(β:Bg):Int:=β.cells.getD β.pos 0
noncomputable def Bg.nxt(β:Bg):Int:=(β.j+β.cell % 2147483629+77)*48271 % 2147483629
noncomputable def iM(β:Bg)(lot:Int):Int:=if 10^18<=β.cell then β.cell % lot else β.nxt/64 % lot
noncomputable def jP(β:Bg)(lot:Int):Bg:=if 10^18<=β.cell then⟨β.cells.set β.pos (β.cell/lot),β.i,β.j⟩else⟨β.cells,β.i+1,β.nxt⟩
open Classical in
noncomputable def bN:List D->M D:=λds β=>match ds with
 |[.bag,.int lot]=>if β.ok/\0<lot/\lot<1073741824 then some (Ol (D.int (iM β lot)),jP β lot)else none
 |_=>none
theorem AV{β:Bg}{lot:Int}(h:β.ok)(a:0<lot)(b:lot<1073741824):bN [.bag,.int lot] β=some (.ok (.int (iM β lot)),jP β lot):=by
 unfold bN
 exact Mu ⟨h,a,b⟩
theorem yL{ds:List D}{β:Bg}{r:Except Addr D}{a:Bg}(h:bN ds β=some (r,a)):∃lot,ds=[.bag,.int lot]/\β.ok/\0<lot/\lot<1073741824/\r= .ok (.int (iM β lot))/\a=jP β lot:=by
 unfold bN at h
 split at h
 ·split at h
  ·rename_i lot q
   cases h
   exact⟨lot,rfl,q.1,q.2.1,q.2.2,rfl,rfl⟩
  ·cases h
 ·cases h
theorem Bg.ok.at{β:Bg}(h:β.ok):β.pos<β.cells.length/\β.cells[β.pos]?=some β.cell/\0<=β.cell/\β.i % (β.cells.length:Int)=(β.pos:Int):=by
 obtain⟨c1,c2,c3,b⟩:=id h
 have c:0<β.cells.length:=List.length_pos_iff.mpr c1
 have a1:0<=β.i % (β.cells.length:Int):=Qp _ (by omega)
 have a2:β.i % (β.cells.length:Int)<β.cells.length:=QJ _ (by omega)
 have a:β.pos<β.cells.length:=by unfold Bg.pos;omega
 have e:β.cell=β.cells[β.pos]:=by
  unfold Bg.cell
  rw[Mp,Mn a];rfl
 refine⟨a,by rw[e];exact Mn a,by rw[e];exact c3 _ (NB a),?_⟩
 unfold Bg.pos;omega
theorem uW{β:Bg}{lot:Int}(h:β.ok)(b:0<lot):0<=iM β lot/\iM β lot<lot/\(jP β lot).ok:=by
 obtain⟨f,_,d,_⟩:=h.at
 obtain⟨c1,c2,c3,e⟩:=id h
 unfold iM jP
 split
 ·refine⟨Qp _ (by omega),QJ _ b,?_,by rw[Nm];exact c2,λc a=>?_,e⟩
  ·intro z
   have:=Nq RK z
   rw[Nm]at this
   exact c1 (Rk.mp this)
  ·rcases Ps a with a|rfl
   ·exact c3 c a
   ·exact Int.ediv_nonneg d (by omega)
 ·exact⟨Qp _ (by omega),QJ _ b,c1,c2,c3,Qp _ (by decide)⟩
end L2.Pu
namespace L2
open PySem PySem.Spec PyProof.Rows
end L2
namespace L2.Pu
open PySem PySem.Spec PyProof.Rows
section
variable{X:Cx}{E:St->XK}{K:Frag}
noncomputable def ml(K:Frag)(mg:Str->Option Mh)(x:Str)(d:D):Prop:=∃u v,mg x=some u/\aC v u/\∀F H,Den K F H d v
theorem gl{x:Str}{d:D}{pos:Pos}(c:ml X.K X.mg x d)(a:Gl X x:=by rfl)(hd:(x==("__debug__":Str))=false:=by decide):PE X (.Name x pos) (tV X.K (fC d) E):=by
 obtain⟨u,v,b,e,f⟩:=c
 exact v_c (FT a b e hd) f
mutual
noncomputable def toP:D->Option PyData
 | .non=>some .none
 | .bl b=>some (.bool b)
 | .int i=>some (.int i)
 | .str x=>some (.str x)
 | .lst xs=>(toPs xs).map PyData.list
 | .tup xs=>(toPs xs).map PyData.tuple
 |_=>none
noncomputable def toPs:List D->Option (List PyData)
 |[]=>some []
 |x::xs=>match toP x,toPs xs with
  |some p,some ps=>some (p::ps)
  |_,_=>none
end
mutual
theorem jq{F:Fx}{c:List (Addr×Obj)}{w:St}{H:Hp}{s:Ml}(I:Inv X c w H s):∀(d:D) (v:V) (u:Mh) (p:PyData),Den X.K F H d v->toP d=some p->aC v u->∃as,Reads s.heap u p as
 | .non,v,u,p,h,e,r=>by cases e;cases h.non;cases r;exact⟨_,.none⟩
 | .bl b,v,u,p,h,e,r=>by cases e;cases h.bl;cases r;exact⟨_,.bool b⟩
 | .int i,v,u,p,h,e,r=>by cases e;cases h.int;obtain⟨t,rfl⟩:=r;exact⟨_,.int i t⟩
 | .str x,v,u,p,h,e,r=>by cases e;cases h.str;obtain⟨t,rfl⟩:=r;exact⟨_,.str x t⟩
 | .lst xs,v,u,p,h,e,r=>by
  unfold toP at e
  cases q:toPs xs with
  |none=>rw[q]at e;cases e
  |some f=>
   rw[q]at e;cases e
   obtain⟨a,ys,rfl,sq,g⟩:=Den.sqL h
   cases r
   obtain⟨its,j,pl,_⟩:=I.list sq
   obtain⟨as,k⟩:=reads_L I xs ys its f g q j
   obtain⟨o,l,m,n,hd⟩:=pl.isList
   exact⟨_,.list l m hd (by simpa using k)⟩
 | .tup xs,v,u,p,h,e,r=>by
  unfold toP at e
  cases q:toPs xs with
  |none=>rw[q]at e;cases e
  |some f=>
   rw[q]at e;cases e
   obtain⟨a,ys,rfl,sq,g⟩:=Den.sqT h
   cases r
   obtain⟨its,j,pl,_⟩:=I.tuple sq
   obtain⟨as,k⟩:=reads_L I xs ys its f g q j
   obtain⟨o,l,m,n,hd⟩:=pl
   exact⟨_,.tuple l m hd (by simpa using k)⟩
 | .ty _,_,_,_,_,e,_=>by cases e
 | .txt,_,_,_,_,e,_=>by cases e
 | .scr _,_,_,_,_,e,_=>by cases e
 | .obj _ _ _,_,_,_,_,e,_=>by cases e
 | .bag,_,_,_,_,e,_=>by cases e
 | .adr _,_,_,_,_,e,_=>by cases e
 | .dct _ _ _,_,_,_,_,e,_=>by cases e
theorem reads_L{F:Fx}{a:List (Addr×Obj)}{c:St}{H:Hp}{s:Ml}(I:Inv X a c H s):∀(ds:List D) (vs:List V) (us:List Mh) (b:List PyData),DenL X.K F H ds vs->toPs ds=some b->ak vs us->∃as,ReadsAll s.heap us b as
 |[],vs,us,b,h,e,r=>by
  have q:vs=[]:=h
  subst q
  cases e
  cases r
  exact⟨_,.nil⟩
 |d::ds,vs,us,b,h,e,r=>by
  obtain⟨x,f,rfl,g,i⟩:=h
  unfold toPs at e
  split at e
  ·rename_i p pr j k
   cases e
   cases r with
   |cons r1 l=>
    obtain⟨as,m⟩:=jq I d x _ p g j r1
    obtain⟨bs,n⟩:=reads_L I ds f _ pr i k l
    exact⟨_,.cons m n⟩
  ·cases e
end
noncomputable def nh(a b:D):Option Bool:=match toP a,toP b with
 |some p,some q=>if(Sa p&&Sa q)=true then some (PyData.eqv p q)else none
 |_,_=>none
noncomputable def gb(a b:D):Option D:=match eqS a b with
 |some c=>some (.bl c)
 |none=>(nh a b).map D.bl
noncomputable def c7(a b:D):Option D:=match eqS a b with
 |some c=>some (.bl (!c))
 |none=>(nh a b).map λc=>D.bl (!c)
noncomputable def pf(X:Cx)(g:Bool->Bool):R2:=λx y H Q=>∃(F:Fx) (a b:D) (c:Bool),Den X.K F H a x/\Den X.K F H b y/\nh a b=some c/\Q (.bl (g c)) H
theorem qL{a b:D}{c:Bool}(h:nh a b=some c):∃p q,toP a=some p/\toP b=some q/\Sa p=true/\Sa q=true/\c=PyData.eqv p q:=by
 unfold nh at h
 split at h
 ·rename_i p q d e
  split at h
  ·rename_i hs
   rw[MU]at hs
   cases h
   exact⟨p,q,d,e,hs.1,hs.2,rfl⟩
  ·cases h
 ·cases h
theorem IQ{k:Nat}(f:Room k X.A):OpR X (Nw .Eq) (pf X id):=by
 intro d s t H x y v u Q I g i h
 obtain⟨F,a,b,c,d1,d2,e,q⟩:=h
 obtain⟨p,j,l,m,n,o,rfl⟩:=qL e
 obtain⟨as,r1⟩:=jq I a x v p d1 l g
 obtain⟨bs,r⟩:=jq I b y u j d2 m i
 exact eq_dataH r1 r n o f.units ⟨.bl _,H,I,rfl,q⟩
theorem IN{k:Nat}(f:Room k X.A):OpR X (Nw .NotEq) (pf X not):=by
 intro d s t H x y v u Q I g i h
 obtain⟨F,a,b,c,d1,d2,e,q⟩:=h
 obtain⟨p,j,l,m,n,o,rfl⟩:=qL e
 obtain⟨as,r1⟩:=jq I a x v p d1 l g
 obtain⟨bs,r⟩:=jq I b y u j d2 m i
 exact ne_dataH r1 r n o f.units ⟨.bl _,H,I,rfl,q⟩
theorem kU{k:Nat}(a:Room k X.A):OpR X (Nw .Eq) (λx y H Q=>rEq x y H Q\/pf X id x y H Q):=LE.or (IQ a)
theorem gu{k:Nat}(a:Room k X.A):OpR X (Nw .NotEq) (λx y H Q=>rNe x y H Q\/pf X not x y H Q):=LC.or (IN a)
theorem oA:aR X.K (λx y H Q=>rEq x y H Q\/pf X id x y H Q) gb:=λF H β Q d1 d2 d h i fr a b e k=>by
 unfold gb at e
 split at e
 ·rename_i c q
  cases e
  obtain⟨f,g⟩:=zj q a b
  exact .inl ⟨f,by rw[g];exact k _ H (To.refl fr) rfl⟩
 ·cases q:nh d1 d2 with
  |none=>rw[q]at e;cases e
  |some c=>rw[q]at e;cases e;exact .inr ⟨F,d1,d2,c,a,b,q,k _ H (To.refl fr) rfl⟩
theorem iU:aR X.K (λx y H Q=>rNe x y H Q\/pf X not x y H Q) c7:=λF H β Q d1 d2 d h i fr a b e k=>by
 unfold c7 at e
 split at e
 ·rename_i c q
  cases e
  obtain⟨f,g⟩:=zj q a b
  exact .inl ⟨f,by rw[g];exact k _ H (To.refl fr) rfl⟩
 ·cases q:nh d1 d2 with
  |none=>rw[q]at e;cases e
  |some c=>rw[q]at e;cases e;exact .inr ⟨F,d1,d2,c,a,b,q,k _ H (To.refl fr) rfl⟩
theorem kh(i j:Int):gb (.int i) (.int j)=some (.bl (decide (i=j))):=rfl
theorem kg(i j:Int):c7 (.int i) (.int j)=some (.bl (!decide (i=j))):=rfl
theorem md(i j:Bool):gb (.bl i) (.bl j)=some (.bl (decide (i=j))):=rfl
theorem l7(i j:Bool):c7 (.bl i) (.bl j)=some (.bl (!decide (i=j))):=rfl
theorem ma(i j:Str):gb (.str i) (.str j)=some (.bl (decide (i=j))):=rfl
theorem l6(i j:Str):c7 (.str i) (.str j)=some (.bl (!decide (i=j))):=rfl
theorem DN{C:Int->Int->Prop}{c:Int->Int->Bool}{g:Int->Int->Int}(b:∀i j,c i j=true->C i j):aR K (ipC C g) (opI λi j=>if c i j=true then some (.int (g i j))else none):=λF H β Q d1 d2 d l m fr f h e k=>by
 obtain⟨i,j,rfl,rfl,a⟩:=il e
 split at a
 ·cases a
  exact⟨i,j,f,h,b _ _ (by assumption),k _ H (To.refl fr) rfl⟩
 ·cases a
noncomputable def xw:D->D->Option D:=opI λi j=>some (.int (i+j))
theorem vh:aR K (ipI λi j=>i+j) xw:=λF H β Q d1 d2 d f g fr a b e k=>by
 obtain⟨i,j,rfl,rfl,c⟩:=il e
 cases c
 exact⟨i,j,a,b,k _ H (To.refl fr) rfl⟩
theorem vn:PIp X .Mult (ipC rS λi j=>i*j):=by
 intro a s e H x y v u Q I b d h
 obtain⟨i,j,rfl,rfl,c,q⟩:=h
 obtain⟨t,rfl⟩:=b
 obtain⟨t',rfl⟩:=d
 exact imul_int ⟨.int _,H,I.tok _,⟨_,rfl⟩,q⟩ (UB (iZ c.1) (iZ c.2))
theorem vg:aR K (ipC rS λi j=>i*j) kZ:=DN λi j h=>by
 simp only[MU,gm,Ni]at h
 exact h
theorem BG:aR K (ipC rT λi j=>i/j) oM:=DN λi j h=>by
 simp only[MU,Ni]at h
 exact h
noncomputable abbrev bA:=zX
theorem zw(b:X.calm=true):cz X (.builtin "sum") (λxs H Q=>∃(a:Addr) (ns:List Int),xs=[.ref a]/\SqL X.K H a (ns.map V.int)/\Q (.int ns.sum) H):=qM b
theorem Jc:dQ K (λxs H Q=>∃(a:Addr) (ns:List Int),xs=[.ref a]/\SqL K H a (ns.map V.int)/\Q (.int ns.sum) H) bA:=LN
noncomputable def EB(H:Hp)(b l:Addr):Prop:=∃(cells:List Int) (i j:Int),H b=some (.lst [.ref l,.int i,.int j])/\H l=some (.lst (cells.map V.int))/\cells≠[]/\cells.length<=64/\(∀c∈cells,0<=c)/\0<=j
theorem GS{n k:Nat}(h:k<n):ixN n (k:Int)=some k:=by
 unfold ixN
 rw[Mu (by omega),Mu (by omega)]
 simp
theorem Mc(ns:List Int):∃a:List Int,lq (ns.map V.int) none (some 63)=a.map V.int/\a.length<=63:=by
 refine⟨(ns.drop (HT.sIx ns.length 0 none)).take (HT.sIx ns.length ns.length (some 63)-HT.sIx ns.length 0 none),?_,?_⟩
 ·unfold lq
  rw[Mj,R0,Qc]
 ·rw[OL]
  have:HT.sIx ns.length ns.length (some 63)<=63:=by
   unfold HT.sIx
   simp
   omega
  omega
noncomputable def Lr(K:Frag):Sp:=λvs H Q _=>∃(a:Addr) (ns:List Int),vs=[.ref a]/\SqL K H a (ns.map V.int)/\∀(b l:Addr) (c:Hp),H b=none->H l=none->EB c b l->bv H c->Q (.ref b) c
noncomputable def DA(K:Frag):Sp:=λvs H Q _=>∃(a:Addr) (ns:List Int),vs=[.ref a]/\SqL K H a (ns.map V.int)/\ns.length<=63/\∀b,Q (.bl true) b
theorem HE{H₀ H:Hp}{b l:Addr}{a:Addr}{n:Nat}(sm:bv H₀ H)(y:H₀ b=none)(A:H₀ l=none)(B:EB H b l):∃β,β.ok/\SOk K H₀ (λc=>if c=b\/c=l then some 1 else none) (some (b,l)) H (none::some (.sh .bag)::MC n none) β (some (.ref a)::some (.ref b)::MC n none):=by
 obtain⟨cells,i,j,g,h,p,v,w,x⟩:=B
 have m:b≠l:=LK g h (by
  intro z
  cases cells with
  |nil=>exact p rfl
  |cons c r=>simp at z)
 refine⟨⟨cells,i,j⟩,⟨p,v,w,x⟩,⟨⟨λc f=>?_,λt u e=>?_,λt u e=>?_⟩,λt u e=>?_,by simp,λc f=>?_,λc k f=>(by
  have d:(if c=b\/c=l then some 1 else none)=some (k+2):=f
  split at d<;>cases d),λc k f=>(by
  have d:(if c=b\/c=l then some 1 else none)=some (k+2):=f
  split at d<;>cases d),λk s e=>?_⟩⟩
 ·have d:(if c=b\/c=l then some 1 else none)≠(none:Option Nat):=f
  split at d
  ·rename_i q
   rcases q with rfl|rfl
   ·rw[g];simp
   ·rw[h];simp
  ·exact MM rfl d
 ·cases e
  refine⟨?_,?_,m⟩
  ·show(if b=b\/b=l then some 1 else none)≠(none:Option Nat)
   rw[Mu (.inl rfl)];simp
  ·show(if l=b\/l=l then some 1 else none)≠(none:Option Nat)
   rw[Mu (.inr rfl)];simp
 ·cases e
  exact⟨g,h⟩
 ·cases e
  exact⟨Mu (.inl rfl),Mu (.inr rfl)⟩
 ·cases q:H₀ c with
  |none=>exact MM q f
  |some o=>rw[sm c o q];simp
 ·match k with
  |0=>simp at e
  |1=>
   simp at e
   subst e
   exact⟨.ref b,rfl,b,l,rfl,rfl⟩
  |k+2=>
   simp only[TW,N1]at e
   split at e<;>cases e
end
section
variable{P:Program}{w:MY}{K:Frag}{mg:Str->Option Mh}{base:Heap}
theorem br{x a:Str}{st:Stmt}{f:Addr}{e:FuncData}{N d:List Str}{k:Nat}(n m:Nat)(g:G)(F:FunD K x a st f e)(S:FnScope N d (af st))(hn:d.length=n)(hm:N.length=m)
  (b:∀(c:Mh) (A:M8) (outer:List Env) (s:Ml) (H:Hp) (E:XK),Room k (A.deeper (Qu a (af st) s.heap.objs.size f c))->
   PSs (cX (CXE P w) P w K mg base N a (af st) f c A outer s H E) (cb st) (tG K H g (λ_=>E))):FnOk P w K mg base (CXE P w) (k+1) f e d (spF K n (aD m g)):=by
 subst hn hm
 exact Hy F S b
end
end L2.Pu
namespace L2
open PySem PySem.Spec PyProof.Rows
theorem CmpScope.ofB{X:Cx}{scope:Scope}{a vars:List Str}{caps:List Nat}(k:scope.kind= .function)(nd:(scope.names.map (·.1)).Nodup)
  (fr:(scope.names.all λy=>y.2 != .free||(X.env.scope.names.lookup y.1==some .cell||X.env.scope.names.lookup y.1==some .free))=true) (nm:a=vars++caps.map (λj=>X.N.getD j O9))
  (b:(caps.all λj=>decide (j<X.N.length)&&scope.names.lookup (X.N.getD j O9)==some .free)=true):CmpScope X scope a vars caps:=by
 refine⟨k,nd,λy c e=>?_,nm,λj d=>?_⟩
 ·have:=P8.mp fr y c
  rw[e]at this
  simp only[O8,Bool.false_or,Bool.or_eq_true,OP]at this
  exact this
 ·have:=P8.mp b j d
  simp only[MU,Ni,OP]at this
  exact this
end L2
namespace L2.Pu
theorem me(i j:Int):ck (.int i) (.int j)=some (.int (i+j)):=rfl
theorem jF(i j:Int):xw (.int i) (.int j)=some (.int (i+j)):=rfl
theorem l5(i j:Int):kG (.int i) (.int j)=some (.int (i-j)):=rfl
theorem l8(i j:Int):modD (.int i) (.int j)=if decide (0<j)=true then some (.int (i % j))else none:=rfl
theorem pR(i j:Int):ltD (.int i) (.int j)=some (.bl (decide (i<j))):=rfl
theorem pS(i j:Int):leD (.int i) (.int j)=some (.bl (decide (i<=j))):=rfl
theorem pT(i j:Int):gtD (.int i) (.int j)=some (.bl (decide (j<i))):=rfl
theorem pU(i j:Int):geD (.int i) (.int j)=some (.bl (decide (j<=i))):=rfl
end L2.Pu
namespace L2.Pu
open PySem PySem.Spec
noncomputable def okD:Nat->D->Prop
 |_,.int _=>True
 |_,.bl _=>True
 |_,.str _=>True
 |_,.non=>True
 |n+1,.lst xs=>xs.length<=sizeLine/\∀x∈xs,okD n x
 |n+1,.tup xs=>xs.length<=sizeLine/\∀x∈xs,okD n x
 |_,_=>False
noncomputable def iY(rec:List D->M D):G:=
  ag (gIf (eJ (ae fc (aa (ac 1) (aa (ae bB (aa (fC (.ty "list")) (aa (fC (.ty "tuple")) (ad)))) (ad))))) (ag (gIf (eK (fB (f2 (c7) (ae bR (aa (ac 1) (aa (fC (.ty "list")) (ad)))) (ae bR (aa (ac 0) (aa (fC (.ty "list")) (ad)))))) (fB (f2 (c7) (ae bR (aa (ac 1) (aa (fC (.ty "tuple")) (ad)))) (ae bR (aa (ac 0) (aa (fC (.ty "tuple")) (ad))))))) (aF (fC (.bl false))) (gNil))
  (ag (gIf (fB (f2 (c7) (ae bp (aa (ac 0) (ad))) (ae bp (aa (ac 1) (ad))))) (aF (fC (.bl false))) (gNil))
  (aF (f2 (inD true) (fC (.bl false)) (aI 2 [] (fZ (aa (ac 0) (aa (ac 1) (ad)))) (tgT (bf (tgC 0) (bf (tgC 1) cP))) (λ_=>M.ret true) (cEm (aq rec (aa (ac 0) (aa (ac 1) (ad)))))))))) (gNil))
  (ag (gIf (fB (f2 (f9) (ac 1) (fC .non))) (aF (f2 (f9) (ac 0) (fC .non))) (gNil))
  (ag (gIf (eK (fB (f2 (c7) (ae bR (aa (ac 1) (aa (fC (.ty "str")) (ad)))) (ae bR (aa (ac 0) (aa (fC (.ty "str")) (ad)))))) (fB (f2 (c7) (ae bR (aa (ac 1) (aa (fC (.ty "bool")) (ad)))) (ae bR (aa (ac 0) (aa (fC (.ty "bool")) (ad))))))) (aF (fC (.bl false))) (gNil))
  (aF (gO (ae fc (aa (ac 0) (aa (ae bB (aa (fC (.ty "int")) (aa (fC (.ty "str")) (ad)))) (ad)))) (f2 (gb) (ac 0) (ac 1))))))
noncomputable def e8:Nat->List D->M D
 |0=>λ_=>M.fail
 |n+1=>aD 2 (iY (e8 n))
theorem fX:(0:Nat)+1+1<=sizeLine:=by decide
theorem fw:(2:Nat)<=sizeLine:=by decide
theorem np{rec:List D->M D}{β:Bg}:∀xs:List D,(∀x∈xs,rec [x,x] β=some (.ok (.bl true),β))->
  cLp (tgT (bf (tgC 0) (bf (tgC 1) cP))) (λ_=>M.ret true) (cEm (aq rec (aa (ac 0) (aa (ac 1) (ad))))) (cA xs xs) [none,none] β=some (.ok (MC xs.length (.bl true)),β)
 |[],_=>rfl
 |x::xs,h=>by
  have ih:=np xs λy a=>h y (Mo _ a)
  have b:=h x Mq
  unfold cA cLp
  simp only[tgT,bf,cP,tgC,cEm,Option.isNone_none,Option.isNone_some,Nz,Od,Oc,Oq,Op,Na,aq,aa,ad,ac,M.bind,M.ret,M.ofO,b,ih,reduceIte]
  rfl
theorem ut(n:Nat):(MC n (D.bl true)).all de=true:=by
 induction n with
 |zero=>rfl
 |succ n ih=>rw[M3,Q9,ih];rfl
theorem vp(n:Nat):inB (.bl false) (MC n (D.bl true))=false:=by
 unfold inB
 induction n with
 |zero=>rfl
 |succ n ih=>rw[M3,Qb,ih];rfl
theorem pe:∀(n:Nat) (d:D) (β:Bg),okD n d->e8 (n+1) [d,d] β=some (.ok (.bl true),β)
 |n,.int i,β,_=>by
  unfold e8 aD iY
  simp only[ag,aG,lX,dO,aF,gIf,Pu.gNil,gN,pK,fq,pJ,bU,pG,hNo,ac,fC,f1,f2,ad,aa,ae,aq,fB,eJ,l4,eK,eA,gO,fOr,pN,fIf,dz,aQ,aT,fZ,dP,bW,dN,M.bind,M.ret,M.ofO,M.fail,vw,vwA,stD,ME,Oj,Od,Oc,Oq,Op,MA,On,OJ,M3,M2,NR,NA,O0,Nat.reduceSub,Nat.reduceAdd,Nat.reduceLT,Nat.reduceLeDiff,Int.reduceLT,Int.reduceLE,me,jF,l5,l8,pR,pS,pT,pU,kh,kg,md,l7,ma,l6,Oa,asB,jM,f9,lP,isN,jX,bB,bt,sgT,gE,i7,sgN,Nu,Nz,Pw,bp,p0,bR,fc,tyD,jc,i9,Na,Nh,reduceIte,NE,Ov,Rq,QP,MD,fw,fX]
 |n,.bl i,β,_=>by
  unfold e8 aD iY
  simp only[ag,aG,lX,dO,aF,gIf,Pu.gNil,gN,pK,fq,pJ,bU,pG,hNo,ac,fC,f1,f2,ad,aa,ae,aq,fB,eJ,l4,eK,eA,gO,fOr,pN,fIf,dz,aQ,aT,fZ,dP,bW,dN,M.bind,M.ret,M.ofO,M.fail,vw,vwA,stD,ME,Oj,Od,Oc,Oq,Op,MA,On,OJ,M3,M2,NR,NA,O0,Nat.reduceSub,Nat.reduceAdd,Nat.reduceLT,Nat.reduceLeDiff,Int.reduceLT,Int.reduceLE,me,jF,l5,l8,pR,pS,pT,pU,kh,kg,md,l7,ma,l6,Oa,asB,jM,f9,lP,isN,jX,bB,bt,sgT,gE,i7,sgN,Nu,Nz,Pw,bp,p0,bR,fc,tyD,jc,i9,Na,Nh,reduceIte,NE,Ov,Rq,QP,MD,fw,fX]
 |n,.str i,β,_=>by
  unfold e8 aD iY
  simp only[ag,aG,lX,dO,aF,gIf,Pu.gNil,gN,pK,fq,pJ,bU,pG,hNo,ac,fC,f1,f2,ad,aa,ae,aq,fB,eJ,l4,eK,eA,gO,fOr,pN,fIf,dz,aQ,aT,fZ,dP,bW,dN,M.bind,M.ret,M.ofO,M.fail,vw,vwA,stD,ME,Oj,Od,Oc,Oq,Op,MA,On,OJ,M3,M2,NR,NA,O0,Nat.reduceSub,Nat.reduceAdd,Nat.reduceLT,Nat.reduceLeDiff,Int.reduceLT,Int.reduceLE,me,jF,l5,l8,pR,pS,pT,pU,kh,kg,md,l7,ma,l6,Oa,asB,jM,f9,lP,isN,jX,bB,bt,sgT,gE,i7,sgN,Nu,Nz,Pw,bp,p0,bR,fc,tyD,jc,i9,Na,Nh,reduceIte,NE,Ov,Rq,QP,MD,fw,fX]
 |n,.non,β,_=>by
  unfold e8 aD iY
  simp only[ag,aG,lX,dO,aF,gIf,Pu.gNil,gN,pK,fq,pJ,bU,pG,hNo,ac,fC,f1,f2,ad,aa,ae,aq,fB,eJ,l4,eK,eA,gO,fOr,pN,fIf,dz,aQ,aT,fZ,dP,bW,dN,M.bind,M.ret,M.ofO,M.fail,vw,vwA,stD,ME,Oj,Od,Oc,Oq,Op,MA,On,OJ,M3,M2,NR,NA,O0,Nat.reduceSub,Nat.reduceAdd,Nat.reduceLT,Nat.reduceLeDiff,Int.reduceLT,Int.reduceLE,me,jF,l5,l8,pR,pS,pT,pU,kh,kg,md,l7,ma,l6,Oa,asB,jM,f9,lP,isN,jX,bB,bt,sgT,gE,i7,sgN,Nu,Nz,Pw,bp,p0,bR,fc,tyD,jc,i9,Na,Nh,reduceIte,NE,Ov,Rq,QP,MD,fw,fX]
 |n+1,.lst xs,β,h=>by
  have h':xs.length<=sizeLine/\∀x∈xs,okD n x:=h
  have c:=np (rec:=e8 (n+1)) (β:=β) xs λx a=>pe n x β (h'.2 x a)
  have b:(MC xs.length (D.bl true)).length<=sizeLine:=by rw[NO];exact h'.1
  unfold e8 aD iY
  simp only[ag,aG,lX,dO,aF,gIf,Pu.gNil,gN,pK,fq,pJ,bU,pG,hNo,ac,fC,f1,f2,ad,aa,ae,aq,fB,eJ,l4,eK,eA,gO,fOr,pN,fIf,dz,aQ,aT,fZ,dP,bW,dN,M.bind,M.ret,M.ofO,M.fail,vw,vwA,stD,ME,Oj,Od,Oc,Oq,Op,MA,On,OJ,M3,M2,NR,NA,O0,Nat.reduceSub,Nat.reduceAdd,Nat.reduceLT,Nat.reduceLeDiff,Int.reduceLT,Int.reduceLE,me,jF,l5,l8,pR,pS,pT,pU,kh,kg,md,l7,ma,l6,Oa,asB,jM,f9,lP,isN,jX,bB,bt,sgT,gE,i7,sgN,Nu,Nz,Pw,bp,p0,bR,fc,tyD,jc,i9,Na,Nh,reduceIte,NE,Ov,Rq,QP,MD,fw,fX,aI,rZ,dJ,cSt,c,b,inD,ut,vp,de,Q5]
 |n+1,.tup xs,β,h=>by
  have h':xs.length<=sizeLine/\∀x∈xs,okD n x:=h
  have c:=np (rec:=e8 (n+1)) (β:=β) xs λx a=>pe n x β (h'.2 x a)
  have b:(MC xs.length (D.bl true)).length<=sizeLine:=by rw[NO];exact h'.1
  unfold e8 aD iY
  simp only[ag,aG,lX,dO,aF,gIf,Pu.gNil,gN,pK,fq,pJ,bU,pG,hNo,ac,fC,f1,f2,ad,aa,ae,aq,fB,eJ,l4,eK,eA,gO,fOr,pN,fIf,dz,aQ,aT,fZ,dP,bW,dN,M.bind,M.ret,M.ofO,M.fail,vw,vwA,stD,ME,Oj,Od,Oc,Oq,Op,MA,On,OJ,M3,M2,NR,NA,O0,Nat.reduceSub,Nat.reduceAdd,Nat.reduceLT,Nat.reduceLeDiff,Int.reduceLT,Int.reduceLE,me,jF,l5,l8,pR,pS,pT,pU,kh,kg,md,l7,ma,l6,Oa,asB,jM,f9,lP,isN,jX,bB,bt,sgT,gE,i7,sgN,Nu,Nz,Pw,bp,p0,bR,fc,tyD,jc,i9,Na,Nh,reduceIte,NE,Ov,Rq,QP,MD,fw,fX,aI,rZ,dJ,cSt,c,b,inD,ut,vp,de,Q5]
 |0,.lst _,_,h=>h.elim
 |0,.tup _,_,h=>h.elim
 |_,.ty _,_,h=>by cases ‹Nat›<;>exact h.elim
 |_,.txt,_,h=>by cases ‹Nat›<;>exact h.elim
 |_,.scr _,_,h=>by cases ‹Nat›<;>exact h.elim
 |0,.obj _ _ _,_,h=>h.elim
 |_+1,.obj _ _ _,_,h=>h.elim
 |_,.bag,_,h=>by cases ‹Nat›<;>exact h.elim
 |0,.adr _,_,h=>h.elim
 |_+1,.adr _,_,h=>h.elim
 |0,.dct _ _ _,_,h=>h.elim
 |_+1,.dct _ _ _,_,h=>h.elim
end L2.Pu
namespace L2.Pu
open PySem PySem.Spec
theorem pW{nv:Nat}{caps:List Nat}{it:FL}{tg:TgF}{tt:Dn->M Bool}{b:FL}{δ:Dn}{β β1 β2:Bg}{ds os:List D}(a:it δ β=some (.ok ds,β1))(c:cLp tg tt b ds (cSt nv caps δ) β1=some (.ok os,β2))(d:os.length<=sizeLine):aI nv caps it tg tt b δ β=some (.ok (.lst os),β2):=by
 unfold aI
 simp only[a,c,d,Na]
end L2.Pu
namespace L2.Pu
open PySem PySem.Spec PyProof.Rows
section
variable{X:Cx}{E:St->XK}{K:Frag}{a b:Expr}{es:List Expr}{pos:Pos}
theorem To.none{F:Fx}{H c:Hp}{β1:Bg}{p:Addr}(t:To F H c β1)(h:c p=none):H p=none:=by
 cases q:H p with
 |none=>rfl
 |some o=>
  have:c p=some o:=t.kp p o q λb l e=>by
   obtain⟨d,f⟩:=t.fr.bag b l e
   exact⟨λw=>(by subst w;rw[d]at h;cases h),λw=>(by subst w;rw[f]at h;cases h)⟩
  rw[this]at h;cases h
noncomputable def Fx.but(F:Fx)(a:Addr):Fx:=⟨λc=>F.A c\/c=a,F.bg⟩
theorem Fx.tr_but{F:Fx}{H d:Hp}{β1:Bg}{p:Addr}(fr:Fr F H β1)(e:H p=none)(hs:∀c o,H c=some o->d c=some o):Tr F H (F.but p) d:=⟨λc f g z=>by
 rcases z with z|z
 ·exact f z
 ·subst z;exact g e,λc o _ h=>hs c o h,rfl⟩
theorem Fx.tr_of{F:Fx}{H:Hp}{p:Addr}:Tr (F.but p) H F H:=⟨λc h _ z=>h (Os z),λ_ _ _ h=>h,rfl⟩
noncomputable def lC(K:Frag)(F:Fx)(H0 H:Hp)(ds:List D)(v:V):Prop:=∃a xs,v= .ref a/\H0 a=none/\H a=some (.lst xs)/\DenL K (F.but a) H ds xs
noncomputable def tVO(K:Frag)(f:FL)(E:St->XK):TE:=λc H Q=>∃F δ β,Fr F H β/\VOk K F H δ c/\run (lC K F H) F E c (f δ) H Q β
noncomputable def tVG(K:Frag)(f:Dn->M (List (List D)))(E:St->XK):TE:=λc H Q=>∃F δ β,Fr F H β/\VOk K F H δ c/\run (uu K F H) F E c (f δ) H Q β
noncomputable def szL(ds:List D):Option (List D):=if ds.length<=sizeLine then some ds else none
theorem lC.new{F:Fx}{H d:Hp}{β1:Bg}{p:Addr}{ds:List D}{xs:List V}(t:To F H d β1)(e:d p=none)(hd:DenL K F d ds xs):lC K F H (upd d p (.lst xs)) ds (.ref p):=
 ⟨p,xs,rfl,t.none e,ai,DenL.tr (Fx.tr_but t.fr e λc o h=>by rw[upd_ne (ne_of_none h e)];exact h) _ _ hd⟩
theorem DenL.rep{F:Fx}{H:Hp}{ds:List D}{xs:List V}(h:DenL K F H ds xs):∀n:Nat,DenL K F H (MC n ds).flatten (MC n xs).flatten
 |0=>rfl
 |n+1=>by
  rw[M3,OD,M3,OD]
  exact DenL.append h (DenL.rep h n)
noncomputable def sN(ds:List D)(d:D):Option (List D):=match d with
 | .int k=>if(decide (-(2^63)<=k)&&decide (k<2^63)&&decide (ds.length<=sizeLine)&&decide (ds.length*k.toNat<=sizeLine))=true then some (MC k.toNat ds).flatten else none
 |_=>none
noncomputable def wG(g:FL)(f:FD):FL:=λδ=>M.bind (g δ) λds=>M.bind (M.ofO (szL ds)) λds=>M.bind (f δ) λd=>M.ofO (sN ds d)
theorem LG{g:FL}{f:FD}{j:Pos}(ha:PA X es (tVA X.K g E))(J:PE X b (tV X.K f E)):PE X (.BinOp (.List es j) .Mult b pos) (tVO X.K (wG g f) E):=
 (cZ IL (ik ha) J).imp λL H Q m=>ex6 m λF δ β fr A r=>⟨F,δ,β,fr,A,(run.bind (R:=DenL X.K F) r).mono λvs N m=>by
  obtain⟨ds,β1,t,hd,r1⟩:=m
  obtain⟨O,o,P⟩:=run.ofO_bind r1
  unfold szL at o
  split at o
  ·rename_i S
   cases o
   refine⟨by rw[←hd.length];exact S,λp B=>?_⟩
   have n:=t.fr.upd (.lst vs) B
   have D:=t.fr.fresh B
   refine⟨F,δ,β1,n.fr,(A.tr (t.tr fr)).tr (n.tr t.fr),?_⟩
   obtain⟨G,β2,e,h⟩:=P
   have u:run (lC X.K F H) F E L (M.bind (f δ) λd=>M.ofO (sN ds d)) (upd N p (.lst vs)) Q β1:=by
    refine⟨G,β2,e,?_⟩
    cases G with
    |ok d=>exact λv x c=>h v x (n.trans c)
    |error C=>exact λx c=>h x (n.trans c)
   refine(run.bind (R:=Den X.K F) u).mono λw T m=>ex5 m λd β3 c U V=>?_
   obtain⟨os,i,k⟩:=run.ofO V
   unfold sN at i
   split at i
   ·split at i
    ·rename_i W s
     cases i
     simp only[MU,Ni]at s
     cases U
     have y:T p=some (.lst vs):=c.kp p _ ai λb l q=>⟨λz=>D (z▸(fr.bgA b l q).1),λz=>D (z▸(fr.bgA b l q).2.1)⟩
     have tt:=n.trans c
     exact⟨p,_,vs,rfl,rfl,y,s.1.1.1,s.1.1.2,by rw[←hd.length];exact s.2,λq I=>k _ _ (c.fr.upd _ I) (lC.new (t.trans tt) I ((DenL.tr (tt.tr t.fr) _ _ hd).rep _))⟩
    ·cases i
   ·cases i
  ·cases o⟩
noncomputable def nq(tg:TgF)(tt:Dn->M Bool)(b:Dn->M (List (List Pu.D))):List Pu.D->Dn->M (List (List Pu.D))
 |[],_=>M.ret []
 |d::ds,δ=>match tg d δ with
  |none=>M.fail
  |some δ1=>M.bind (tt δ1) λc=>M.bind (if c=true then b δ1 else M.ret []) λo=>M.bind (nq tg tt b ds δ) λos=>M.ret (o++os)
noncomputable def RwA(K:Frag)(F:Fx)(D:Addr)(H0 H:Hp)(as:List (List Pu.D))(acc:List V):Prop:=(∀c,H0 c≠none->H c≠none)/\∃rs,acc=rs.map V.ref/\(D::rs).Nodup/\RowL K F H (λr=>H0 r=none) as rs
theorem RwA.mono{F:Fx}{D:Addr}{H0 H g:Hp}{β β1:Bg}{as:List (List Pu.D)}{acc:List V}(i:F.A D)(j:∀b l,F.bg=some (b,l)->H0 b≠none/\H0 l≠none)(fr:Fr F H β)(t:ToD F D H g β1)(h:RwA K F D H0 H as acc):RwA K F D H0 g as acc:=by
 obtain⟨cv,rs,e,nd,k⟩:=h
 refine⟨λc m z=>?_,rs,e,nd,RowL.tr (t.tr fr i) k λr xs n p q=>⟨p,t.kp r _ q (λz=>?_) λb l w=>⟨λz=>?_,λz=>?_⟩⟩⟩
 ·cases q:H c with
  |none=>exact cv c m q
  |some o=>
   by_cases hd:c=D
   ·subst hd;exact t.fr.occ _ i z
   ·by_cases d:∃b l,F.bg=some (b,l)/\(c=b\/c=l)
    ·obtain⟨b,l,w,f⟩:=d
     rcases f with rfl|rfl
     ·exact t.fr.occ _ (fr.bgA _ _ w).1 z
     ·exact t.fr.occ _ (fr.bgA _ _ w).2.1 z
    ·rw[t.kp c o q hd λb l w=>⟨λy=>d ⟨b,l,w,.inl y⟩,λy=>d ⟨b,l,w,.inr y⟩⟩]at z
     cases z
 ·subst z;exact(Nd.mp nd).1 n
 ·subst z;exact(j _ _ w).1 p
 ·subst z;exact(j _ _ w).2 p
noncomputable def rR(K:Frag)(D:Addr)(i:TB)(f:Dn->M (List (List Pu.D))):Prop:=∀(F:Fx) (H0 H:Hp) (δ:Dn) (β d:Bg) (h:St) (acc:List V) (as os:List (List Pu.D)) (Q:St->Hp->Prop),Fr F H β->F.A D->(∀b l,F.bg=some (b,l)->D≠b/\D≠l)->(∀b l,F.bg=some (b,l)->H0 b≠none/\H0 l≠none)->VOk K F H δ h->H D=some (.lst acc)->RwA K F D H0 H as acc->
 f δ β=some (.ok os,d)->as.length+os.length<=sizeLine->(∀e g c,ToD F D H g d->VOk K F g δ e->g D=some (.lst c)->RwA K F D H0 g (as++os) c->Q e g)->i h H Q
noncomputable def uq(f:Dn->M (List Pu.D)):Dn->M (List (List Pu.D)):=λδ=>M.bind (f δ) λd=>M.ret [d]
theorem RowL.snoc{F:Fx}{H:Hp}{P:Addr->Prop}{ds:List Pu.D}{r:Addr}{xs:List V}(p:P r)(c:H r=some (.lst xs))(d:DenL K F H ds xs):∀{rows:List (List Pu.D)} {rs:List Addr},RowL K F H P rows rs->RowL K F H P (rows++[ds]) (rs++[r])
 |[],[],_=>⟨p,⟨xs,c,d⟩,trivial⟩
 |_::_,_::_,h=>⟨h.1,h.2.1,RowL.snoc p c d h.2.2⟩
 |[],_::_,h=>h.elim
 |_::_,[],h=>h.elim
theorem GN{D:Addr}{f:Dn->M (List Pu.D)}:rR K D (xv D (tVO K f E0)) (uq f):=λF H0 H δ β j U acc as os Q fr m p O P R hd e W k=>by
 obtain⟨d,β1,Y,Z⟩:=M.bind_inv e
 cases Z
 refine⟨F,δ,β,fr,P,E0.run Y λv S t hv=>?_⟩
 have s:=t.kp D _ R p
 have u:=hd.mono m O fr (t.toD D)
 obtain⟨r,xs,rfl,g,n1,n2⟩:=hv
 obtain⟨cv,rs,w,nd,T⟩:=u
 obtain⟨A,c,B,C,G⟩:=hd
 have i:acc.length=as.length:=by rw[w,Mj,T.len]
 have I:c=rs:=by
  have:c.map V.ref=rs.map V.ref:=B.symm.trans w
  exact R6 (λa b q=>by cases q;rfl)|>.mp this
 subst I
 have nD:r≠D:=λz=>by subst z;rw[R]at g;cases g
 have nr:r∉c:=λz=>by
  obtain⟨_,ys,q⟩:=G.all r z
  rw[q]at g;cases g
 have J:H0 r=none:=by
  cases q:H0 r with
  |none=>rfl
  |some o=>exact MM g (A r (by rw[q];simp))
 refine⟨acc,s,by rw[i];simp at W;omega,?_⟩
 have L:ToD F D S (upd S D (.lst (acc++[.ref r]))) j:=by
  refine⟨λa o h n _=>by rw[upd_ne n];exact h,λa h q=>?_,fr.bgA,λb l q=>?_⟩
  ·by_cases z:a=D
   ·subst z;rw[ai]at q;cases q
   ·rw[upd_ne z]at q;exact t.fr.occ a h q
  ·rw[upd_ne (p b l q).1.symm,upd_ne (p b l q).2.symm]
   exact t.fr.bag b l q
 have tt:=L.tr t.fr m
 refine k U _ _ ((t.toD D).trans L) (P.tr ((t.tr fr).trans tt)) ai (RwA.mono m O t.fr L ⟨cv,c++[r],by rw[w,M7];rfl,?_,RowL.snoc J n1 (DenL.tr Fx.tr_of _ _ n2) T⟩)
 rw[←NR,Sm]
 refine⟨C,by simp,λx N y hy=>?_⟩
 obtain rfl:y=r:=by simpa using hy
 rcases MH.mp N with rfl|N
 ·exact nD.symm
 ·exact λz=>nr (z▸N)
end
section
variable{X:Cx}{E:St->XK}{K:Frag}
theorem GM{D:Addr}{J:It}{g:TG}{tg:TgF}{tt:Dn->M Bool}{tb:TB}{b:Dn->M (List (List Pu.D))}(hg:cy K g tg)(sg:dZ tg)(hb:rR K D tb b){F:Fx}{H0 H:Hp}{δ:Dn}{β s:Bg}{σ:St}{acc:List V}{as os:List (List Pu.D)}{ds:List Pu.D}{Q:St->Hp->Prop}(fr:Fr F H β)(S:F.A D)(hn:∀b l,F.bg=some (b,l)->D≠b/\D≠l)(Y:∀b l,F.bg=some (b,l)->H0 b≠none/\H0 l≠none)(vk:VOk K F H δ σ)(hD:H D=some (.lst acc))(hd:RwA K F D H0 H as acc)
  (it:ItD K J F H ds) (e:nq tg tt b ds δ β=some (.ok os,s)) (hz:as.length+os.length<=sizeLine) (k:∀f n a,ToD F D H n s->VOk K F n δ f->n D=some (.lst a)->RwA K F D H0 n (as++os) a->Q f n):cx J g (tVT K tt E0) tb σ H Q:=by
 refine⟨λi m f n=>m+i=ds.length/\∃β1 a j t,ToD F D H n β1/\VOk K F n δ f/\n D=some (.lst a)/\RwA K F D H0 n j a/\nq tg tt b (ds.drop i) δ β1=some (.ok t,s)/\j++t=as++os,
  ⟨ds.length,by omega,β,acc,as,os,⟨λ_ _ h _ _=>h,fr⟩,vk,hD,hd,e,rfl⟩,?_⟩
 rintro i m f n ⟨hm,β1,a,j,t,u,y,z,B,r,Z⟩
 have tr1:=u.tr fr S
 obtain⟨iy,is⟩:=it F n β1 tr1 u.fr i
 cases T:ds[i]? with
 |none=>
  have U:ds.length<=i:=QU.mp T
  rw[OT U]at r
  cases r
  refine .inl ⟨is (by omega),k f n a u y z ?_⟩
  rw[←Z,M2]
  exact B
 |some d=>
  have U:i<ds.length:=(MF.mp T).1
  obtain⟨go,yl⟩:=iy d T
  have ed:ds.drop i=d::ds.drop (i+1):=by
   rw[N7 U]
   congr 1
   exact MQ ((Mn U).symm.trans T)
  rw[ed]at r
  unfold nq at r
  cases q:tg d δ with
  |none=>rw[q]at r;cases r
  |some δ1=>
   rw[q]at r
   obtain⟨c,β2,e2,e3⟩:=M.bind_inv r
   obtain⟨o,β3,W,e5⟩:=M.bind_inv e3
   obtain⟨C,β4,e6,e7⟩:=M.bind_inv e5
   cases e7
   obtain⟨s1,s2⟩:=sg _ _ _ q
   refine .inr ⟨go,λG I=>∃p,ToD F D H I β3/\VOk K F I δ G/\I D=some (.lst p)/\RwA K F D H0 I (j++o) p,?_,λx H2 hy=>?_⟩
   ·rintro G I ⟨p,t9,vk9,hD9,hd9⟩
    exact⟨m-1,by omega,by omega,β3,p,j++o,C,t9,vk9,hD9,hd9,e6,by rw[NF];exact Z⟩
   ·obtain⟨sm,dx⟩:=yl x H2 hy
    have w:To F n H2 β1:=u.fr.same sm
    have tr2:=w.tr u.fr
    refine hg F H2 δ δ1 f d x _ (y.tr tr2) dx q λσ2 v=>⟨F,δ1,β1,w.fr,v,E0.run e2 λc' H3 L ec=>?_⟩
    subst ec
    have hD2:=sm _ _ z
    have N:=L.kp D _ hD2 hn
    have O:=L.tr w.fr
    have d3:=(B.mono S Y u.fr (w.toD D)).mono S Y w.fr (L.toD D)
    have P:ToD F D H H3 β2:=u.trans ((w.trans L).toD D)
    have hle:j.length+(o++C).length<=sizeLine:=by
     have:=Nq RK Z
     simp only[MJ]at this⊢
     omega
    cases c' with
    |true=>
     rw[Mu rfl]at W⊢
     refine hb F H0 H3 δ1 β2 β3 σ2 a j o _ L.fr S hn Y (v.tr O) N d3 W (by rw[MJ]at hle;omega) λσ4 H4 R t4 vk4 hD4 hd4=>?_
     exact⟨R,P.trans t4,vk4.sub s1 s2,hD4,hd4⟩
    |false=>
     rw[Mr Ms]at W⊢
     cases W
     exact⟨a,P,(v.tr O).sub s1 s2,N,by rw[M2];exact d3⟩
noncomputable def jE(nv:Nat)(caps:List Nat)(it:Dn->M (List Pu.D))(tg:TgF)(tt:Dn->M Bool)(b:Dn->M (List (List Pu.D))):Dn->M (List (List Pu.D)):=λδ β=>match it δ β with
 |none=>none
 |some (.error C,β1)=>some (.error C,β1)
 |some (.ok ds,β1)=>match nq tg tt b ds (cSt nv caps δ) β1 with
  |some (.ok os,β2)=>if os.length<=sizeLine then some (.ok os,β2)else none
  |_=>none
theorem xO{vars:List Str}{caps:List Nat}{it:Dn->M (List Pu.D)}{g:TG}{tg:TgF}{tt:Dn->M Bool}{B:Addr->TB}{b:Dn->M (List (List Pu.D))}(P:cy K g tg)(R:dZ tg)(S:∀D,rR K D (B D) b){G:St}{H:Hp}{Q:VK}(h:tVG K (jE vars.length caps it tg tt b) E G H Q):
  rq vars caps (iV K it E) (λD J=>cx J g (tVT K tt E0) (B D)) G H Q:=by
 obtain⟨F,δ,β,fr,I,r,k,e,h⟩:=h
 unfold jE at e
 refine⟨F,δ,β,fr,I,?_⟩
 split at e
 ·cases e
 ·rename_i C β1 q
  cases e
  exact⟨.error C,_,q,h⟩
 ·rename_i ds β1 q
  split at e
  ·rename_i os β2 q2
   split at e
   ·rename_i T
    cases e
    refine⟨.ok ds,β1,q,λJ f t U D d=>?_⟩
    have i:¬F.A D:=t.fr.fresh d
    have V:∀b l,F.bg=some (b,l)->D≠b/\D≠l:=λb l z=>⟨λw=>i (w▸(fr.bgA b l z).1),λw=>i (w▸(fr.bgA b l z).2.1)⟩
    have L:=t.fr.upd (.lst []) d
    have m:Fr ⟨λa=>F.A a\/a=D,F.bg⟩ (upd f D (.lst [])) β1:=by
     refine⟨λa ha z=>?_,λb l z=>let ⟨x,y,w⟩:=fr.bgA b l z;⟨.inl x,.inl y,w⟩,L.fr.bag⟩
     rcases ha with ha|ha
     ·exact L.fr.occ a ha z
     ·subst ha;rw[ai]at z;cases z
    have j:Tr F f ⟨λa=>F.A a\/a=D,F.bg⟩ (upd f D (.lst [])):=⟨λa ha hs z=>by
     rcases z with z|z
     ·exact ha z
     ·subst z;exact hs d,λa o ha z=>by rw[upd_ne (ne_of_none z d)];exact z,rfl⟩
    have cv:∀c,H c≠none->upd f D (.lst []) c≠none:=λc W z=>by
     by_cases w:c=D
     ·subst w;rw[ai]at z;cases z
     ·rw[upd_ne w]at z;exact W (t.none z)
    refine GM (D:=D) (H0:=H) (as:=[]) (os:=os) P R (S D) m (.inr rfl) V (λb l z=>⟨fr.occ _ (fr.bgA b l z).1,fr.occ _ (fr.bgA b l z).2.1⟩) (um (I.tr ((t.tr fr).trans j))) ai ⟨cv,[],rfl,by simp,trivial⟩ (U.tr j) q2 (by simpa using T) λY N O s Z u v=>?_
    have tf:To F f N k:=by
     refine⟨λa o z n=>s.kp a o (by rw[upd_ne (ne_of_none z d)];exact z) (ne_of_none z d) n,λa ha z=>s.fr.occ a (Os ha) z,fr.bgA,s.fr.bag⟩
    obtain⟨_,rs,ea,nd,rl⟩:=v
    subst ea
    exact h _ N (t.trans tf) ⟨D,rs,rfl,t.none d,u,nd,RowL.tr (F:=⟨λa=>F.A a\/a=D,F.bg⟩) ⟨λa ha _ z=>ha (Os z),λa o _ z=>z,rfl⟩ rl λr xs _ p q=>⟨p,q⟩⟩
   ·cases e
  ·cases e
section
variable{elt target iter:Expr}{ifs:List Expr}{rest:List No}{scope:Scope}{pos:Pos}{Nc vars:List Str}{caps:List Nat}{g:TG}{tb:Addr->TB}
end
mutual
noncomputable def noL:D->Bool
 | .int _=>true
 | .bl _=>true
 | .str _=>true
 | .non=>true
 | .tup ds=>noLs ds
 |_=>false
noncomputable def noLs:List D->Bool
 |[]=>true
 |d::ds=>noL d&&noLs ds
end
mutual
theorem va{F f:Fx}{H:Hp}(hF:∀c,f.A c->F.A c\/∃xs,H c=some (.lst xs)):∀(d:D) (v:V),noL d=true->Den K F H d v->Den K f H d v
 | .int i,v,_,h=>h
 | .bl i,v,_,h=>h
 | .str i,v,_,h=>h
 | .non,v,_,h=>h
 | .tup ds,v,n,h=>by
  obtain⟨a,xs,e,b,g⟩:=h
  refine⟨a,xs,e,?_,noLs_den hF ds xs (by simpa[noL]using n) g⟩
  rcases b with⟨b,r⟩|b
  ·refine .inl ⟨λz=>?_,r⟩
   rcases hF a z with z|⟨ys,z⟩
   ·exact b z
   ·rcases r with r|⟨o,r⟩<;>rw[z]at r<;>cases r
  ·exact .inr b
 | .lst _,_,n,_=>by simp[noL]at n
 | .scr _,_,n,_=>by simp[noL]at n
 | .ty _,_,n,_=>by simp[noL]at n
 | .txt,_,n,_=>by simp[noL]at n
 | .obj _ _ _,_,n,_=>by simp[noL]at n
 | .bag,_,n,_=>by simp[noL]at n
 | .adr _,_,n,_=>by simp[noL]at n
 | .dct _ _ _,_,n,_=>by simp[noL]at n
theorem noLs_den{F a:Fx}{H:Hp}(hF:∀c,a.A c->F.A c\/∃xs,H c=some (.lst xs)):∀(ds:List D) (xs:List V),noLs ds=true->DenL K F H ds xs->DenL K a H ds xs
 |[],xs,_,h=>h
 |d::ds,xs,n,h=>by
  have b:noL d=true/\noLs ds=true:=by simpa[noLs]using n
  obtain⟨x,f,e,g,i⟩:=h
  exact⟨x,f,e,va hF d x b.1 g,noLs_den hF ds f b.2 i⟩
end
theorem RowL.noL{F b:Fx}{H:Hp}{P d:Addr->Prop}(hF:∀c,b.A c->F.A c\/∃xs,H c=some (.lst xs)):∀{rows:List (List D)} {rs:List Addr},(∀ds∈rows,noLs ds=true)->RowL K F H P rows rs->(∀r∈rs,d r)->RowL K b H d rows rs
 |[],[],_,_,_=>trivial
 |ds::rows,r::rs,n,h,p=>by
  obtain⟨i,⟨xs,e,f⟩,g⟩:=h
  exact⟨p r Mq,⟨xs,e,noLs_den hF _ _ (n ds Mq) f⟩,RowL.noL hF (λx a=>n x (Mo _ a)) g λx a=>p x (Mo _ a)⟩
 |[],_::_,_,h,_=>h.elim
 |_::_,[],_,h,_=>h.elim
theorem SOk.newGrd{H₀:Hp}{B:Ow}{bg:Option (Addr×Addr)}{H C:Hp}{δ:Ds}{β G:Bg}{S:St}{i:Nat}{rows:List (List D)}{v:V}(ok:SOk K H₀ B bg H δ β S)(t:To (FxB B bg) H C G)(hn:∀ds∈rows,noLs ds=true)(Y:uu K (FxB B bg) H C rows v):
  ∃T,SOk K H₀ T bg C (δ.set i (some (.grd rows))) G (S.set i (some v))/\Stp B H T C:=by
 classical
 obtain⟨a,rs,rfl,Z,L,nd,I⟩:=Y
 have m:∀c,c=a\/c∈rs->H c=none:=λc g=>by
  rcases g with rfl|g
  ·exact Z
  ·exact(I.all c g).1
 have hB:∀c,c=a\/c∈rs->B c=none:=λc g=>SA λz=>ok.fr.occ c z (m c g)
 have U:∀b l,bg=some (b,l)->¬(b=a\/b∈rs)/\¬(l=a\/l∈rs):=λb l e=>by
  obtain⟨b1,b2⟩:=ok.bgt b l e
  exact⟨λz=>(by rw[hB b z]at b1;cases b1),λz=>(by rw[hB l z]at b2;cases b2)⟩
 obtain⟨u,W⟩:=ok.to rfl t
 have J:Stp B H (λc=>if c=a\/c∈rs then some (i+2)else B c) C:=by
  refine⟨W.kp,λc g=>?_,λc o h n=>?_,W.al⟩
  ·have:¬(c=a\/c∈rs):=λz=>by rw[hB c z]at g;rcases g with g|g<;>cases g
   simp only[Mr this]
  ·have:¬(c=a\/c∈rs):=λz=>by rw[m c z]at h;cases h
   simp only[Mr this];exact n
 have tr:Tr (FxB B bg) H (FxB (λc=>if c=a\/c∈rs then some (i+2)else B c) bg) C:=J.tr
 refine⟨λc=>if c=a\/c∈rs then some (i+2)else B c,⟨⟨λc g z=>?_,λb l e=>?_,u.fr.bag⟩,λb l e=>?_,by rw[Nm,Nm,ok.len],u.cov,λc k g=>(by
  have f:(if c=a\/c∈rs then some (i+2)else B c)=some (k+2):=g
  by_cases z:c=a\/c∈rs
  ·cases w:H₀ c with
   |none=>rfl
   |some o=>exact MM (m c z) (ok.cov c (by rw[w];simp))
  ·rw[Mr z]at f;exact ok.new c k f),λc k g=>(by
  have f:(if c=a\/c∈rs then some (i+2)else B c)=some (k+2):=g
  by_cases z:c=a\/c∈rs
  ·rcases z with rfl|z
   ·exact⟨_,L⟩
   ·exact(I.all c z).2
  ·rw[Mr z]at f;exact u.lst c k f),λj s e=>?_⟩,J⟩
 ·by_cases q:c=a\/c∈rs
  ·rcases q with rfl|q
   ·rw[L]at z;cases z
   ·obtain⟨_,xs,w⟩:=I.all c q
    rw[w]at z;cases z
  ·have f:(if c=a\/c∈rs then some (i+2)else B c)≠none:=g
   rw[Mr q]at f
   exact u.fr.occ c f z
 ·obtain⟨N,O⟩:=U b l e
  obtain⟨b1,b2⟩:=ok.bgt b l e
  refine⟨?_,?_,(ok.fr.bgA b l e).2.2⟩
  ·show(if b=a\/b∈rs then some (i+2)else B b)≠none
   rw[Mr N,b1];simp
  ·show(if l=a\/l∈rs then some (i+2)else B l)≠none
   rw[Mr O,b2];simp
 ·obtain⟨N,O⟩:=U b l e
  simp only[Mr N,Mr O]
  exact ok.bgt b l e
 ·rw[NP]at e
  rw[NP]
  by_cases q:i=j
  ·subst q
   rw[Mu rfl]at e⊢
   split at e
   ·rename_i hl
    cases e
    rw[Mu (by rw[←ok.len];exact hl)]
    refine⟨_,rfl,a,rs,rfl,Mu (.inl rfl),L,nd,RowL.noL (F:=FxB B bg) (λc g=>?_) hn I λr hr=>Mu (.inr hr)⟩
    have f:(if c=a\/c∈rs then some (i+2)else B c)≠none:=g
    by_cases w:c=a\/c∈rs
    ·rcases w with rfl|w
     ·exact .inr ⟨_,L⟩
     ·exact .inr (I.all c w).2
    ·rw[Mr w]at f
     exact .inl f
   ·cases e
  ·rw[Mr q]at e⊢
   obtain⟨w,P,x⟩:=ok.tell j s e
   refine⟨w,P,?_⟩
   cases s with
   |sh d=>exact Den.tr tr _ _ x
   |own cs=>
    obtain⟨c,ys,Q,A,E,R⟩:=x
    have M:¬(c=a\/c∈rs):=λz=>by rw[m c z]at E;cases E
    exact⟨c,ys,Q,by simp only[Mr M];exact A,t.kp c _ E (λb l z=>⟨λy=>(by subst y;rw[(ok.bgt _ _ z).1]at A;cases A),λy=>(by subst y;rw[(ok.bgt _ _ z).2]at A;cases A)⟩),DenL.tr tr _ _ R⟩
   |grd rows2=>
    obtain⟨c,qs,Q,A,E,R,e5⟩:=x
    have M:∀c,H c≠none->¬(c=a\/c∈rs):=λc g z=>g (m c z)
    have X:∀c o,H c=some o->B c=some (j+2)->C c=some o:=λc o P x=>t.kp c o P (λb l z=>⟨λy=>(by subst y;rw[(ok.bgt _ _ z).1]at x;cases x),λy=>(by subst y;rw[(ok.bgt _ _ z).2]at x;cases x)⟩)
    exact⟨c,qs,Q,by simp only[Mr (M c (by rw[E];simp))];exact A,X c _ E A,R,RowL.tr tr e5 λr xs _ p y=>⟨by simp only[Mr (M r (by rw[y];simp))];exact p,X r _ y p⟩⟩
end
section
variable{X:Cx}{E:St->XK}{K:Frag}{st:Stmt}{H₀:Hp}{B:Ow}{bg:Option (Addr×Addr)}{H H':Hp}{δ:Ds}{β β':Bg}{σ:St}
noncomputable def pL(i:Nat)(f:Dn->M (List (List D))):G:=λδ β=>match f (vw δ) β with
 |some (.ok rows,β1)=>if(rows.all noLs)=true then some (.nx (δ.set i (some (.grd rows))),β1)else none
 |some (.error C,β1)=>some (.ex C δ,β1)
 |none=>none
theorem Ls{i:Nat}{f:Dn->M (List (List D))}(h:PS X st (i6 (tVG X.K f E) (ef i))):PS X st (tG X.K X.H₀ (pL i f) E):=h.imp λD σ H g=>by
 obtain⟨B,bg,δ,β,o,β',ok,e,q⟩:=g
 refine⟨FxB B bg,vw δ,β,ok.fr,ok.view,?_⟩
 unfold pL at e
 split at e
 ·rename_i rows β1 b
  split at e
  ·rename_i hn
   cases e
   refine⟨.ok rows,_,b,λv H' t hd=>?_⟩
   obtain⟨j,a,c⟩:=ok.newGrd (i:=i) t (λds d=>P8.mp hn ds d) hd
   exact q _ _ _ c a
  ·cases e
 ·rename_i C β1 b
  cases e
  refine⟨.error C,_,b,λH' t=>?_⟩
  obtain⟨a,c⟩:=ok.to rfl t
  exact q _ B H' c a
 ·cases e
theorem RowL.put{F:Fx}{H:Hp}{P:Addr->Prop}{r:Addr}{xs:List V}{ds:List D}(t:Tr F H F (upd H r (.lst xs)))(hd:DenL K F (upd H r (.lst xs)) ds xs):∀{rows:List (List D)} {rs:List Addr} (j:Nat),RowL K F H P rows rs->rs.Nodup->rs[j]?=some r->RowL K F (upd H r (.lst xs)) P (rows.set j ds) rs
 |d0::rows,r0::rs,0,h,nd,e=>by
  obtain rfl:r0=r:=by simpa using e
  have ne:∀a∈rs,a≠r0:=λa b z=>(Nd.mp nd).1 (z▸b)
  exact⟨h.1,⟨xs,ai,hd⟩,RowL.tr t h.2.2 λa ys b p q=>⟨p,by rw[upd_ne (ne a b)];exact q⟩⟩
 |d0::rows,r0::rs,j+1,h,nd,e=>by
  have c:rs[j]?=some r:=by simpa using e
  obtain⟨d,⟨ys,f,g⟩,i⟩:=h
  have ne:r0≠r:=λz=>(Nd.mp nd).1 (z▸MV c)
  exact⟨d,⟨ys,by rw[upd_ne ne];exact f,DenL.tr t _ _ g⟩,RowL.put t hd j i (Nd.mp nd).2 c⟩
 |[],[],_,_,_,e=>by simp at e
 |[],_::_,_,h,_,_=>h.elim
 |_::_,[],_,h,_,_=>h.elim
theorem RowL.at{F:Fx}{H:Hp}{P:Addr->Prop}:∀{rows:List (List D)} {rs:List Addr} {j:Nat} {ds:List D},RowL K F H P rows rs->rows[j]?=some ds->∃r xs,rs[j]?=some r/\P r/\H r=some (.lst xs)/\DenL K F H ds xs
 |d0::rows,r0::rs,0,ds,h,e=>by
  obtain rfl:d0=ds:=by simpa using e
  obtain⟨a,⟨ys,b,c⟩,g⟩:=h
  exact⟨r0,ys,rfl,a,b,c⟩
 |d0::rows,r0::rs,j+1,ds,h,e=>by
  obtain⟨r,xs,d,f⟩:=RowL.at h.2.2 (j:=j) (ds:=ds) (by simpa using e)
  exact⟨r,xs,by simpa using d,f⟩
 |[],[],_,_,_,e=>by simp at e
 |[],_::_,_,_,h,_=>h.elim
 |_::_,[],_,_,h,_=>h.elim
theorem SOk.writeRow{i j:Nat}{a r:Addr}{rs:List Addr}{rows:List (List D)}{ds:List D}{xs ys:List V}(ok:SOk K H₀ B bg H δ β σ)(hs:σ[i]?=some (some (.ref a)))(hB:B a=some (i+2))(ha:H a=some (.lst (rs.map V.ref)))(nd:(a::rs).Nodup)(G:RowL K (FxB B bg) H (λr=>B r=some (i+2)) rows rs)(I:rs[j]?=some r)(O:H r=some (.lst ys))(hd:DenL K (FxB B bg) H ds xs):
  SOk K H₀ B bg (upd H r (.lst xs)) (δ.set i (some (.grd (rows.set j ds)))) β σ/\Stp B H B (upd H r (.lst xs)):=by
 have t:r∈rs:=MV I
 have f:B r=some (i+2):=(G.all r t).1
 have m:Stp B H B (upd H r (.lst xs)):=by
  refine⟨λc o h n=>?_,λ_ _=>rfl,λ_ _ _ n=>n,λc u=>?_⟩
  ·rw[upd_ne]
   ·exact h
   ·intro z;subst z;rw[f]at n;rcases n with n|n<;>cases n
  ·by_cases z:c=r
   ·subst z;rw[ai];simp
   ·rw[upd_ne z];exact u
 have tr:Tr (FxB B bg) H (FxB B bg) (upd H r (.lst xs)):=m.tr
 refine⟨⟨⟨λc u z=>?_,ok.fr.bgA,λb l e=>?_⟩,ok.bgt,by rw[Nm,ok.len],λa ha=>m.al a (ok.cov a ha),ok.new,λc k u=>(by
  by_cases z:c=r
  ·subst z;exact⟨xs,ai⟩
  ·rw[upd_ne z];exact ok.lst c k u),λk s e=>?_⟩,m⟩
 ·by_cases q:c=r
  ·subst q;rw[ai]at z;cases z
  ·rw[upd_ne q]at z;exact ok.fr.occ c u z
 ·obtain⟨b1,b2⟩:=ok.bgt b l e
  rw[upd_ne (λz=>by subst z;rw[f]at b1;cases b1),upd_ne (λz=>by subst z;rw[f]at b2;cases b2)]
  exact ok.fr.bag b l e
 ·rw[NP]at e
  by_cases q:i=k
  ·subst q
   rw[Mu rfl]at e
   split at e
   ·cases e
    have w:a≠r:=λz=>(Nd.mp nd).1 (z▸t)
    exact⟨_,hs,a,rs,rfl,hB,by rw[upd_ne w];exact ha,nd,RowL.put tr (DenL.tr tr _ _ hd) j G (Nd.mp nd).2 I⟩
   ·cases e
  ·rw[Mr q]at e
   obtain⟨v,L,x⟩:=ok.tell k s e
   refine⟨v,L,?_⟩
   have y:∀c,B c=some (k+2)->c≠r:=λc g z=>by subst z;rw[f]at g;cases g;exact q rfl
   cases s with
   |sh d=>exact Den.tr tr _ _ x
   |own cs=>
    obtain⟨c,J,A,g,C,F⟩:=x
    exact⟨c,J,A,g,by rw[upd_ne (y c g)];exact C,DenL.tr tr _ _ F⟩
   |grd rows2=>
    obtain⟨c,M,A,g,C,F,N⟩:=x
    exact⟨c,M,A,g,by rw[upd_ne (y c g)];exact C,F,RowL.tr tr N λr J _ p q=>⟨p,by rw[upd_ne (y r p)];exact q⟩⟩
end
section
variable{P:Program}{w:MY}{K:Frag}{mg:Str->Option Mh}{base:Heap}
end
section
variable{X:Cx}{E:St->XK}{e:Expr}{es:List Expr}{pos p:Pos}{x:Str}{k n:Nat}{f:Addr}{fd:FuncData}{ps:List Str}
end
section
variable{X:Cx}{E:St->XK}{K:Frag}{elt target iter:Expr}{ifs:List Expr}{rest:List No}{scope:Scope}{pos:Pos}{Nc vars:List Str}{caps:List Nat}{g:TG}{tb:Addr->TB}
theorem Ih{it:FL}{tg:TgF}{tt:Dn->M Bool}{b:Dn->M (List (List D))}{i:Nat}{x:Str}{a c:Pos}(j:X.N.Nodup)(d:X.N[i]?=some x)(k:Loc X.env.scope x)(l:X.calm=true)(S:CmpScope X scope Nc vars caps)(m:PI X target iter (iV X.K it E))
  (n:∀(cl:List (Str×Addr)) (C:Addr) (f:List Addr) (s:Ml) (H:Hp),PG (aE X Nc scope cl C f s H) target g/\dH (aE X Nc scope cl C f s H) ifs (tVT X.K tt E0)/\∀D,PB (aE X Nc scope cl C f s H) elt (⟨target,iter,ifs,0⟩::rest) scope pos 0 D (tb D))
  (o:cy X.K g tg) (p:dZ tg) (q:∀D,rR X.K D (tb D) b)
  (e:P5 (.ListComp elt (⟨target,iter,ifs,0⟩::rest) scope pos) (some (.Name x a)) c.line X.env=pure true:=by rfl)
  (hs:∀x,Nj iter X.env x=pure x:=by intro _;rfl) (r:X.fn x=true\/X.env.scope.names.lookup x=some .local:=by first|exact .inl rfl|exact .inr rfl|assumption):
  PS X (.Assign [.Name x a] (.ListComp elt (⟨target,iter,ifs,0⟩::rest) scope pos) c) (tG X.K X.H₀ (pL i (jE vars.length caps it tg tt b)) E):=
 Ls ((uY j d k l S m n e hs r).imp λD t H h=>xO o p q h)
end
end L2.Pu
namespace L2
open PySem PySem.Spec PyProof.Rows
section
variable{X:Cx}
theorem CF{bs:List Bool}{its:List Mh}(r:ak (bs.map V.bl) its){i:Nat}{v:Mh}(h:its.toArray[i]?=some v):v= .bool (bs.getD i false):=by
 have h':its[i]?=some v:=by simpa using h
 have a:=r.length
 rw[Mj]at a
 have b:i<bs.length:=by rw[a];exact(MF.mp h').1
 obtain⟨u,c,d⟩:=r.get (i:=i) (x:=V.bl bs[i]) (by rw[Mt,Mn b];rfl)
 rw[h']at c
 cases c
 rw[Mp,Mn b]
 exact d
theorem yg{α:Type}(f:Bool->Bool)(bs:List Bool):(Mv bs.length).map (λi=>bs.getD i false)=bs:=by
 apply Vu
 intro i
 rw[Mt]
 by_cases h:i<bs.length
 ·rw[NS h,Mn h]
  simp[Mp,Mn h]
 ·rw[P6 (by simpa using h),P6 (by omega)];rfl
theorem yh(bs:List Bool):((Mv bs.length).any λi=>bs.getD i false)=bs.any id:=by
 conv=>rhs;rw[←yg (α:=Bool) id bs]
 rw[List.any_map]
 rfl
theorem lx(l:X.calm=true):cz X (.builtin "any") (λxs H Q=>∃(a:Addr) (bs:List Bool),xs=[.ref a]/\SqL X.K H a (bs.map V.bl)/\Q (.bl (bs.any id)) H):=by
 intro j s y H xs us Q I r h
 obtain⟨a,bs,rfl,m,q⟩:=h
 cases r with
 |cons r1 n=>
  cases r1
  cases n
  obtain⟨its,k,p,B⟩:=I.list m
  have f:=p.isList
  have c:its.toArray.size=bs.length:=by rw[MG,←k.length,Mj]
  have d:∀b o,s.heap.get? b=some o->b≠s.heap.objs.size:=λb o e z=>by
   rw[z,UA (Mw _)]at e
   cases e
  have g:a≠s.heap.objs.size:=by
   obtain⟨o,e,_⟩:=f
   exact d a o e
  have W:=Walks.list (prog:=X.prog) (w:=X.w) (A:=X.A.in1) (show X.A.in1.handled=none from I.ok.hd l) s.heap.objs.size a g its.toArray
  refine call_any_walk (Rv f ⟨s.heap.objs.size,[s.heap.objs.size,a],[s.heap.objs.size],its.toArray.size,_,_,λi=>bs.getD i false,rfl,W,⟨⟨_,MB s.heap rfl,rfl,rfl⟩,f.push _⟩,λi v s' C D t u=>?_,λh' E x=>?_⟩)
  ·rw[CF k t]
   exact NJ u
  ·rw[c,yh]
   exact⟨.bl (bs.any id),H,I.kept λb o e=>x b o (λz=>d b o e (by simpa using z)) (Mi _ e),rfl,q⟩
end
end L2
namespace L2.Pu
open PySem PySem.Spec PyProof.Rows
noncomputable def dG:List D->Option (List Bool)
 |[]=>some []
 | .bl b::r=>(dG r).map (b::·)
 |_=>none
theorem mC{K:Frag}{F:Fx}{H:Hp}:∀{ds:List D} {xs:List V} {bs:List Bool},dG ds=some bs->DenL K F H ds xs->xs=bs.map V.bl
 |[],xs,bs,e,h=>by
  cases e
  cases h
  rfl
 |d::ds,xs,bs,e,h=>by
  obtain⟨x,f,rfl,a,c⟩:=h
  cases d<;>first
   |(rename_i b
     cases q:dG ds with
     |none=>simp[dG,q]at e
     |some r=>
     simp[dG,q]at e
     subst e
     cases a.bl
     rw[mC q c]
     rfl)
   |simp[dG]at e
noncomputable def nw:List D->Option D
 |[.lst ds]=>(dG ds).map λbs=> .bl (bs.any id)
 |_=>none
variable{K:Frag}
theorem wU:dQ K (λxs H Q=>∃(a:Addr) (bs:List Bool),xs=[.ref a]/\SqL K H a (bs.map V.bl)/\Q (.bl (bs.any id)) H) nw:=λF H β Q ds d vs fr h e k=>by
 unfold nw at e
 split at e
 ·obtain⟨v,rfl,g⟩:=DenL.one h
  obtain⟨a,xs,rfl,r,b⟩:=Den.sqL g
  obtain⟨bs,q,e⟩:=Rm.mp e
  subst e
  rw[mC q b]at r
  exact⟨a,bs,rfl,r,k _ H (To.refl fr) rfl⟩
 ·cases e
end L2.Pu
namespace L2
open PySem PySem.Spec PyProof.Rows
section
variable{X:Cx}{a b c d:Expr}{ta tb tc td:TE}{pos:Pos}
noncomputable def Ll(i e:R2)(tc td:TE)(y:V):TE:=λf H Q=>tc f H λw j=>i y w j λk g=>∃h,k= .bl h/\(if h=true then td f g λl m=>e w l m Q else Q (.bl false) g)
noncomputable def uL(r h e:R2)(ta tb tc td:TE):TE:=λf H Q=>ta f H λx i=>tb f i λy j=>r x y j λz g=>∃k,z= .bl k/\(if k=true then Ll h e tc td y f g Q else Q (.bl false) g)
theorem yj{op i g:Ub}{r t l:R2}(J:OpR X (Nw op) r)(o:OpR X (Nw i) t)(m:OpR X (Nw g) l)(ha:PE X a ta)(K:PE X b tb)(L:PE X c tc)(hd:PE X d td)
  (hm:Vp [op,i,g] [b,c,d]=false:=by with_unfolding_all rfl):PT X (.Compare a [op,i,g] [b,c,d] pos) (v9 (uL r t l ta tb tc td)):=by
 intro f s j H Q I h
 refine isTrue_chain (thn (ha f s j H _ I h) λv M ⟨x,N,O,r1,q1⟩=>test_link (thn (K f M j N _ O q1) λu P ⟨y,R,S,w,q2⟩=>
  thn (J f P j R x y v u _ S r1 w q2) λdd T ⟨z,A,B,U,k,e,q3⟩=>?_)) hm
 subst e
 cases U
 refine NJ ?_
 cases k with
 |false=>
  obtain⟨p,n,q⟩:=q3
  cases n
  exact ite_ff ⟨A,B,q⟩
 |true=>
  refine ite_tt (test_link (thn (L f T j A _ B q3) λC V ⟨D,W,Y,E,q4⟩=>thn (o f V j W y D u C _ Y w E q4) λdd Z ⟨z',F,G,r5,p,n,q5⟩=>?_))
  subst n
  cases r5
  refine NJ ?_
  cases p with
  |false=>
   obtain⟨p,n,q⟩:=q5
   cases n
   exact ite_ff ⟨F,G,q⟩
  |true=>
   refine ite_tt (test_last (thn (hd f Z j F _ G q5) λw' s6 ⟨z2,H6,I6,r6,q6⟩=>thn (m f s6 j H6 D z2 C w' _ I6 E r6 q6) λd' s7 ⟨z3,H7,I7,r7,k3,e3,q7⟩=>?_))
   subst e3
   cases r7
   exact NJ ⟨H7,I7,q7⟩
end
end L2
namespace L2.Pu
open PySem PySem.Spec PyProof.Rows
section
variable{X:Cx}{E:St->XK}{a b c d:Expr}{pos:Pos}{K:Frag}
noncomputable def Ma(f e:D->D->Option D)(h i:FD)(y:D):FD:=λδ=>M.bind (h δ) λw=>M.bind (M.ofO (f y w)) λz=>M.bind (M.ofO (asB z)) λc=>if c=true then M.bind (i δ) (λg=>M.ofO (e w g))else M.ret (.bl false)
noncomputable def pO(o j e:D->D->Option D)(f g h i:FD):FD:=λδ=>M.bind (f δ) λa=>M.bind (g δ) λb=>M.bind (M.ofO (o a b)) λz=>M.bind (M.ofO (asB z)) λc=>if c=true then Ma j e h i b δ else M.ret (.bl false)
theorem run.later{α i:Type}{R:Hp->α->i->Prop}{F:Fx}{j:St}{m:M α}{H k:Hp}{Q:i->Hp->Prop}{β:Bg}(t:To F H k β)(h:run R F E j m H Q β):run R F E j m k Q β:=by
 obtain⟨l,f,e,q⟩:=h
 refine⟨l,f,e,?_⟩
 cases l with
 |ok d=>exact λv g tt=>q v g (t.trans tt)
 |error C=>exact λg tt=>q g (t.trans tt)
theorem wc{r Z n:R2}{o o' p:D->D->Option D}{f g h i:FD}(l:aR K r o)(l':aR K Z o')(M:aR K n p){σ:St}{H:Hp}{Q:VK}(N:tV K (pO o o' p f g h i) E σ H Q):uL r Z n (tV K f E) (tV K g E) (tV K h E) (tV K i E) σ H Q:=by
 obtain⟨F,δ,β,fr,O,N⟩:=N
 refine⟨F,δ,β,fr,O,(run.bind (R:=Den K F) N).mono λv H1 s=>ex5 s λd β1 t hd r1=>⟨F,δ,β1,t.fr,O.tr (t.tr fr),(run.bind (R:=Den K F) r1).mono λv2 H2 s=>ex5 s λd2 β2 u x r2=>?_⟩⟩
 obtain⟨z,ez,r3⟩:=run.ofO_bind r2
 obtain⟨c,ec,J⟩:=run.ofO_bind r3
 rw[iB ec]at ez
 have P:=O.tr ((t.tr fr).trans (u.tr t.fr))
 refine l F H2 β2 _ d d2 _ v v2 u.fr (Den.tr (u.tr t.fr) _ _ hd) x ez λvz H3 j hz=>⟨c,hz,?_⟩
 cases c with
 |true=>
  rw[Mu rfl]at J
  have S:=Den.tr (j.tr u.fr) _ _ x
  have y:=P.tr (j.tr u.fr)
  have r5:=run.later j J
  refine⟨F,δ,β2,j.fr,y,(run.bind (R:=Den K F) r5).mono λw H4 s=>ex5 s λdw A B C r6=>?_⟩
  obtain⟨z',G,r7⟩:=run.ofO_bind r6
  obtain⟨c',T,L⟩:=run.ofO_bind r7
  rw[iB T]at G
  refine l' F H4 A _ d2 dw _ v2 w B.fr (Den.tr (B.tr j.fr) _ _ S) C G λvz' H5 m U=>⟨c',U,?_⟩
  cases c' with
  |true=>
   rw[Mu rfl]at L
   refine⟨F,δ,A,m.fr,y.tr ((B.tr j.fr).trans (m.tr B.fr)),(run.bind (R:=Den K F) (run.later m L)).mono λw' H6 ⟨V,W,t6,I,r9⟩=>?_⟩
   obtain⟨d3,e3,k⟩:=run.ofO r9
   exact M F H6 W Q dw V d3 w w' t6.fr (Den.tr ((m.tr B.fr).trans (t6.tr m.fr)) _ _ C) I e3 k
  |false=>
   rw[Mr Ms]at L
   obtain⟨rr,Y,e,q⟩:=L
   cases e
   exact q _ H5 m rfl
 |false=>
  rw[Mr Ms]at J
  obtain⟨rr,Y,e,q⟩:=J
  cases e
  exact q _ H3 j rfl
theorem zU{op j e:Ub}{r t k:R2}{o u m:D->D->Option D}{f g h i:FD}(v:OpR X (Nw op) r)(p:OpR X (Nw j) t)(n:OpR X (Nw e) k)(l:aR X.K r o)(w:aR X.K t u)(s:aR X.K k m)(ha:PE X a (tV X.K f E))(x:PE X b (tV X.K g E))(y:PE X c (tV X.K h E))(hd:PE X d (tV X.K i E))(hm:Vp [op,j,e] [b,c,d]=false:=by with_unfolding_all rfl):
  PT X (.Compare a [op,j,e] [b,c,d] pos) (tVT X.K (fB (pO o u m f g h i)) E):=(yj v p n ha x y hd hm).imp λz H Q q=>wc l w s (mF q)
end
section
variable{X:Cx}{E:St->XK}{K:Frag}{st:Stmt}{H₀:Hp}{B:Ow}{bg:Option (Addr×Addr)}{H H':Hp}{δ:Ds}{β β':Bg}{σ:St}
end
section
variable{X:Cx}{E:St->XK}{K:Frag}{st:Stmt}{H₀:Hp}{B:Ow}{bg:Option (Addr×Addr)}{H H':Hp}{δ:Ds}{β β':Bg}{σ:St}
theorem SOk.AtoB(ok:SOk K H₀ B bg H δ β σ):∀c,(FxB B bg).A c->(FxA B bg).A c\/∃xs,H c=some (.lst xs):=λc b=>by
 have a:B c≠none:=b
 cases q:B c with
 |none=>exact MM q a
 |some k=>
  match k,q with
  |0,q=>exact .inl (.inl q)
  |1,q=>exact .inl (.inr q)
  |k+2,q=>exact .inr (ok.lst c k q)
theorem SOk.noB{d:D}{v:V}(ok:SOk K H₀ B bg H δ β σ)(hn:noL d=true)(h:Den K (FxA B bg) H d v):Den K (FxB B bg) H d v:=va ok.AtoB d v hn h
noncomputable def oK(i:Nat)(a b c:FD):G:=λδ β=>match c (vwA δ) β with
 |some (.ok d,β1)=>match a (vwA δ) β1 with
  |some (.ok (.int ka),β2)=>match b (vwA δ) β2 with
   |some (.ok (.int kb),β3)=>match δ.getD i none with
    |some (.grd rows)=>match ixN rows.length ka with
     |some ja=>match rows[ja]? with
      |some ds=>match ixN ds.length kb with
       |some jb=>if noL d=true then some (.nx (δ.set i (some (.grd (rows.set ja (ds.set jb d))))),β3)else none
       |none=>none
      |none=>none
     |none=>none
    |_=>none
   |_=>none
  |_=>none
 |_=>none
theorem Ig{i:Nat}{S T U:FD}(h:PS X st (i6 (tV X.K U E) (Jq (tOp (wv X.K) (o6 i) (tV X.K S E)) (tV X.K T E) DG))):PS X st (tG X.K X.H₀ (oK i S T U) E):=h.imp λD σ H h_=>by
 obtain⟨B,bg,δ,β,o,β',ok,e,q⟩:=h_
 refine⟨FxA B bg,vwA δ,β,ok.frA,ok.viewA,?_⟩
 unfold oK at e
 split at e
 ·rename_i d β1 e1
  refine⟨.ok d,_,e1,λv H1 t1 hd=>?_⟩
  obtain⟨c,s1⟩:=ok.to rfl t1
  split at e
  ·rename_i ka β2 e2
   split at e
   ·rename_i kb β3 e3
    split at e
    ·rename_i rows I
     split at e
     ·rename_i ja ea
      split at e
      ·rename_i ds W
       split at e
       ·rename_i jb eb
        split at e
        ·rename_i J
         cases e
         have hd:=c.noB J hd
         obtain⟨w,G,a,rs,rfl,hB,ha,nd,rl⟩:=c.tell i _ (getD_some I)
         refine⟨_,G,FxA B bg,vwA δ,β1,c.frA,c.viewA,.ok (.int ka),β2,e2,λy H2 t2 hy=>?_⟩
         cases hy
         obtain⟨g,Y⟩:=c.to (F:=FxA B bg) rfl t2
         obtain⟨w2,Z,a2,f,ew,j,k,nd2,m⟩:=g.tell i _ (getD_some I)
         rw[G]at Z
         cases Z
         cases ew
         obtain⟨r,xs,L,hp,hx,dl⟩:=m.at W
         refine⟨a,f.map V.ref,ka,.ref r,rfl,rfl,SqL.of k,?_,?_⟩
         ·unfold atI
          rw[Mj,←m.len,ea]
          show(f.map V.ref)[ja]?=_
          rw[Mt,L];rfl
         ·refine⟨FxA B bg,vwA δ,β2,g.frA,g.viewA,.ok (.int kb),_,e3,λz H3 t3 hz=>?_⟩
          cases hz
          obtain⟨n,s3⟩:=g.to (F:=FxA B bg) rfl t3
          obtain⟨w3,h3,a3,p,M,N,s,O,t⟩:=n.tell i _ (getD_some I)
          rw[G]at h3
          cases h3
          cases M
          have P:f=p:=by
           have k1:H3 a=some (.lst (f.map V.ref)):=t3.kp a _ k (λb l y=>⟨λw=>(by subst w;rw[(ok.bgt _ _ y).1]at j;cases j),λw=>(by subst w;rw[(ok.bgt _ _ y).2]at j;cases j)⟩)
           rw[s]at k1
           have k2:p.map V.ref=f.map V.ref:=by injection k1 with k1;injection k1
           exact(R6 (λa b q=>by cases q;rfl)|>.mp k2).symm
          subst P
          obtain⟨r',u,x,hp',A,C⟩:=t.at W
          rw[L]at x
          cases x
          have Q:Den X.K (FxB B bg) H3 d v:=Den.tr (s3.tr) _ _ (Den.tr (Y.tr) _ _ hd)
          refine⟨r,u,kb,jb,rfl,rfl,A,by rw[←C.length];exact eb,?_⟩
          obtain⟨R,s4⟩:=n.writeRow (ds:=ds.set jb d) (xs:=u.set jb v) G N s O t L A (DenL.set jb C Q)
          exact q _ _ _ (s1.trans (Y.trans (s3.trans s4))) R
        ·cases e
       ·cases e
      ·cases e
     ·cases e
    ·cases e
   ·cases e
  ·cases e
 ·cases e
end
section
variable{X:Cx}{E:St->XK}{K:Frag}{a b e:Expr}{es:List Expr}{pos:Pos}
noncomputable def o2(op:D->D->Option (List D))(f g:FD):FL:=λδ=>M.bind (f δ) λa=>M.bind (g δ) λb=>M.ofO (op a b)
end
noncomputable def Ite(K:Frag)(l:Addr):It:=
 ⟨λi H=>∃xs x,SqL K H l xs/\xs[i]?=some x,
  λi H v a=>∃p x,H p=none/\v= .ref p/\a=upd H p (.tup [.int (i:Int),x])/\∀xs,SqL K H l xs->xs[i]?=some x,
  λi H=>∃xs,SqL K H l xs/\xs.length=i⟩
theorem xK{P:Program}{w:MY}{K:Frag}{y:List Expr}{x1}{pos:Pos}(l e it:Addr)(p:e≠it):
  Turn P w K (.Tuple y x1 pos) (Ite K l) [e,it] e (λi h=>(∃a,IsEnum h e it (i:Int) a)/\h.IsListIter it l i) where
 mem:=by simp
 obj:=λi h st b f=>by
  obtain⟨⟨a,g⟩,j⟩:=st
  simp only[MH,NC,P4]at f
  rcases f with rfl|rfl
  ·exact⟨_,g,λv q=>by cases q⟩
  ·obtain⟨o,q,_,d⟩:=j
   exact⟨o,q,λv z=>by rw[d]at z;cases z⟩
 keep:=λi h h' st k=>by
  obtain⟨⟨a,g⟩,j⟩:=st
  exact⟨⟨a,k e (by simp) _ g⟩,j.at λo q=>k it (by simp) o q⟩
 item:=by
  intro X D F G J i m s R H E I r st L
  subst D F G
  obtain⟨xs,x,q1,M⟩:=L
  obtain⟨⟨a,g⟩,j⟩:=st
  obtain⟨c,r1,N⟩:=Inv.src (b:=true) I q1
  have hd:=I.ok.hd J
  have ne:l≠e:=Inv.src_ne (b:=true) I q1 (r e (by simp))
  have O:l≠it:=Inv.src_ne (b:=true) I q1 (r it (by simp))
  have k1:i<c.toArray.size:=by
   rw[MG,←r1.length];exact(MF.mp M).1
  refine wpAny_pyNext_enum_itemD (UN (show(X.A.in1).handled=none from hd) it l O c.toArray) g ⟨j,N⟩ k1 p (by simp[p,ne.symm]) λu h' Q T U f1 V sz kp=>?_
  refine⟨_,rfl,wpAny_letOwnedTupleGo_enum (s:={s with heap:=h',toks:=Q+1}) U λt B C=>?_⟩
  replace C:MT e h' t:=C
  have W:s.heap.objs.size≠e:=Ou (MI g)
  obtain⟨Y,S,Z⟩:=r1.get M
  have eu:u=Y:=by
   have:c[i]?=some u:=by simpa using T
   rw[this]at S;exact MQ S
  subst eu
  have kk:∀b o,b∉[e,it]->s.heap.get? b=some o->t.get? b=some o:=λb o f q=>by
   simp only[MH,NC,P4,not_or]at f
   exact C.extBut b o f.1 (kp b o f.1 f.2 q)
  have I2:Inv X m R (upd H s.heap.objs.size (.tup [.int (i:Int),x])) {s with heap:=t,toks:=Q+1}:=by
   refine Inv.turnNew I r kk (Mw _) ⟨by show 2<=sizeLine;decide,[.int i Q,u],.cons ⟨_,rfl⟩ (.cons Z .nil),_,C.extBut _ _ W V,rfl,_,rfl⟩
  refine⟨.ref s.heap.objs.size,_,I2,rfl,⟨s.heap.objs.size,x,I.hok.fresh (Mw _),rfl,rfl,λas h1=>by rw[Inv.src_inj (b:=true) I h1 q1];exact M⟩,⟨⟨_,by simpa using B⟩,?_⟩,λb f=>?_⟩
  ·exact f1.1.at λo q=>C.extBut _ _ p.symm q
  ·rw[upd_ne]
   ·exact(r b f).1
   ·intro q
    have ol:∃o,s.heap.get? b=some o:=by
     simp only[MH,NC,P4]at f
     rcases f with rfl|rfl
     ·exact⟨_,g⟩
     ·obtain⟨o,z,_⟩:=j;exact⟨o,z⟩
    obtain⟨o,z⟩:=ol
    exact MM (MI z) (by rw[q];exact Nf _)
 done:=by
  intro X D F G J i m s R H E I r st L
  subst D F G
  obtain⟨xs,q1,hl⟩:=L
  obtain⟨⟨a,g⟩,j⟩:=st
  obtain⟨c,r1,N⟩:=Inv.src (b:=true) I q1
  have hd:=I.ok.hd J
  have O:l≠it:=Inv.src_ne (b:=true) I q1 (r it (by simp))
  have g1:c.toArray.size=i:=by rw[MG,←r1.length,hl]
  refine wpAny_pyNext_enum_endD (n:=c.toArray.size) (UN (show(X.A.in1).handled=none from hd) it l O c.toArray) g (by rw[g1];exact⟨j,N⟩) λh' kp=>⟨rfl,?_⟩
  refine Inv.turnL (t':=s.toks) I r λb o f q=>?_
  simp only[MH,NC,P4,not_or]at f
  exact kp b o f.2 q
 self:=λ_ _ _ _ _ st h=>by
  obtain⟨⟨a,g⟩,j⟩:=st
  exact wpAny_pyIter_enum g h
section
variable{X:Cx}{E:St->XK}{K:Frag}
noncomputable def iEn(K:Frag)(b:TA):TI:=λc H R=>b c H λvs a=>∃l xs,vs=[.ref l]/\SqL K a l xs/\R (Ite K l) a
theorem FP{a:Expr}{m:TA}{p pos:Pos}{g:List Expr}{x1}{i:Pos}(v:Gl X "enumerate")(hm:X.mg "enumerate"=none)(ha:PA X [a] m)(hs:Mx [a] X.env=[(false,eval a X.env)]:=by rfl):
  PI X (.Tuple g x1 i) (.Call (.Name "enumerate" p) [a] [] pos) (iEn X.K m):=by
 intro d s n H R I h
 refine Call_ (eV I v hm PyProof.Rows.Boot.«enumerate» (NK (thn (ha pos d s n H _ I h) λus f ⟨vs,o,k,r1,q1⟩=>?_) (by rw[hs];rfl) (by rfl)))
 obtain⟨l,xs,e,q1,q⟩:=q1
 subst e
 cases r1 with
 |cons r w=>
  cases w
  cases r
  obtain⟨x,B,y⟩:=Inv.src (b:=true) k q1
  refine call_enumerate_list y λh' t z sz kp=>?_
  refine wpAny_pyIter_enum (s:={f with heap:=h'}) t ?_
  have A:Inv X d n o {f with heap:=h'}:=k.kept (t':=f.toks) kp
  refine⟨_,[f.heap.objs.size+1,f.heap.objs.size],_,Ite X.K l,o,rfl,A,xK l (f.heap.objs.size+1) f.heap.objs.size (Nat.succ_ne_self _),⟨⟨_,t⟩,z⟩,λc u=>?_,q⟩
  have j:f.heap.objs.size<=c:=by
   simp only[MH,NC,P4]at u
   rcases u with rfl|rfl
   ·exact Qd _ _
   ·exact Mw _
  exact k.fpOk j (k.hok.fresh j)
noncomputable def dh:Nat->List D->List D
 |_,[]=>[]
 |n,x::xs=> .tup [.int (n:Int),x]::dh (n+1) xs
theorem qF:∀(n:Nat) (xs:List D),(dh n xs).length=xs.length
 |_,[]=>rfl
 |n,x::xs=>by
  show(dh (n+1) xs).length+1=xs.length+1
  rw[qF (n+1) xs]
theorem qG:∀{n:Nat} {xs:List D} {i:Nat} {d:D},(dh n xs)[i]?=some d->∃x,xs[i]?=some x/\d= .tup [.int ((n+i:Nat):Int),x]
 |n,[],i,d,h=>by simp[dh]at h
 |n,x::xs,0,d,h=>by
  simp[dh]at h
  exact⟨x,rfl,by rw[←h];simp⟩
 |n,x::xs,i+1,d,h=>by
  have h':(dh (n+1) xs)[i]?=some d:=by simpa[dh]using h
  obtain⟨a,b,c⟩:=qG h'
  exact⟨a,by simpa using b,by rw[c,show n+1+i=n+(i+1) by omega]⟩
noncomputable def DX:List D->Option (List D)
 |[.lst xs]=>some (dh 0 xs)
 |_=>none
theorem BM{F:Fx}{H:Hp}{l:Addr}{ds:List D}(j:∀b a,Tr F H b a->∃xs,SqL K a l xs/\DenL K b a ds xs):ItD K (Ite K l) F H (dh 0 ds):=λb a β2 t fr i=>by
 obtain⟨xs,c,d1⟩:=j b a t
 refine⟨λd hd=>?_,λe=>?_⟩
 ·obtain⟨x,k,rfl⟩:=qG hd
  obtain⟨u,f,du⟩:=d1.get k
  refine⟨⟨xs,u,c,f⟩,λz o m=>?_⟩
  obtain⟨p,q,g,rfl,rfl,n⟩:=m
  have h:=n xs c
  rw[f]at h
  cases h
  rw[OG]
  exact⟨bv.upd g,Den.newT fr g (DenL.cons rfl (DenL.cons du DenL.nil))⟩
 ·rw[qF]at e
  exact⟨xs,c,by rw[←d1.length,e]⟩
noncomputable def rG(g:FL):FL:=aT DX g
theorem za{a:Expr}{g:FL}{p pos:Pos}{b:List Expr}{x1}{c:Pos}(o:Gl X "enumerate")(hm:X.mg "enumerate"=none)(ha:PA X [a] (tVA X.K g E))(hs:Mx [a] X.env=[(false,eval a X.env)]:=by rfl):
  PI X (.Tuple b x1 c) (.Call (.Name "enumerate" p) [a] [] pos) (iV X.K (rG g) E):=
 (FP o hm ha hs).imp λx H R i=>ex6 i λF δ β fr q h=>⟨F,δ,β,fr,q,(run.bind (R:=DenL X.K F) h).mono λvs d i=>by
  obtain⟨ds,β1,t,hd,r1⟩:=i
  obtain⟨l,e,k⟩:=run.ofO r1
  unfold DX at e
  split at e
  ·rename_i xs
   cases e
   obtain⟨v,rfl,n⟩:=DenL.one hd
   have z:∃a,v= .ref a/\∀j f,Tr F d j f->∃ys,SqL X.K f a ys/\DenL X.K j f xs ys:=by
    obtain⟨a,ys,rfl,_⟩:=Den.sqL n
    refine⟨a,rfl,λj f r=>?_⟩
    obtain⟨y,m,s,sq,u⟩:=Den.sqL (Den.tr r _ _ n)
    cases s
    exact⟨m,sq,u⟩
   obtain⟨a,rfl,z⟩:=z
   obtain⟨us,w,_⟩:=z F d (Tr.refl F d)
   exact⟨a,us,rfl,w,k _ d (To.refl t.fr) (BM z)⟩
  ·cases e⟩
end
noncomputable def di(K:Frag)(b:FuncData)(c:List Str)(dd:List D):Prop:=∃ds a,aA K b c ds/\ak a ds/\∀F H,DenL K F H dd a
inductive Sr (α:Type) where
 |kw (j:Nat)|df (a:α)
noncomputable def Sr.pick{α:Type}(z:α)(b:List α):Sr α->α
 | .kw j=>b.getD j z
 | .df a=>a
noncomputable def gK{α:Type}(z:α)(n k:Nat)(src:List (Sr α))(us a:List α):List α:=if us.length=n/\a.length=k then us++src.map (Sr.pick z a)else[]
inductive SrR {α γ:Type} (R:α->γ->Prop):List (Sr α)->List (Sr γ)->Prop where
 |nil:SrR R [] []
 |kw {j:Nat} {a:List (Sr α)} {c:List (Sr γ)}:SrR R a c->SrR R (.kw j::a) (.kw j::c)
 |df {x:α} {y:γ} {a:List (Sr α)} {c:List (Sr γ)}:R x y->SrR R a c->SrR R (.df x::a) (.df y::c)
theorem ak.getD:∀{a:List V} {b:List Mh} (j:Nat),ak a b->aC (a.getD j .non) (b.getD j .none)
 |_,_,_,.nil=>rfl
 |_,_,0,.cons r _=>r
 |_,_,j+1,.cons _ t=>ak.getD j t
theorem SrR.vals{b:List V}{d:List Mh}(r:ak b d):∀{a:List (Sr V)} {c:List (Sr Mh)},SrR aC a c->ak (a.map (Sr.pick .non b)) (c.map (Sr.pick .none d))
 |_,_,.nil=> .nil
 |_,_,.kw (j:=j) h=> .cons (ak.getD j r) (SrR.vals r h)
 |_,_,.df q h=> .cons q (SrR.vals r h)
theorem DenL.getD{K:Frag}{F:Fx}{H:Hp}:∀{ds:List D} {a:List V} (j:Nat),DenL K F H ds a->Den K F H (ds.getD j .non) (a.getD j .non)
 |[],a,j,h=>by have q:a=[]:=h;subst q;rfl
 |d::ds,a,0,h=>by
  obtain⟨x,r,e,b,c⟩:=h
  subst e;exact b
 |d::ds,a,j+1,h=>by
  obtain⟨x,r,e,b,c⟩:=h
  subst e;exact DenL.getD j c
theorem SrR.den{K:Frag}{F:Fx}{H:Hp}{ds:List D}{b:List V}(r:DenL K F H ds b):∀{a:List (Sr D)} {c:List (Sr V)},SrR (λd v=>∀F H,Den K F H d v) a c->DenL K F H (a.map (Sr.pick .non ds)) (c.map (Sr.pick .non b))
 |_,_,.nil=>DenL.nil
 |_,_,.kw (j:=j) h=>DenL.cons (DenL.getD j r) (SrR.den r h)
 |_,_,.df q h=>DenL.cons (q F H) (SrR.den r h)
theorem SrR.len{α b:Type}{R:α->b->Prop}:∀{a:List (Sr α)} {c:List (Sr b)},SrR R a c->a.length=c.length
 |_,_,.nil=>rfl
 |_,_,.kw h=>by rw[MA,MA,SrR.len h]
 |_,_,.df _ h=>by rw[MA,MA,SrR.len h]
structure KwOk (K:Frag) (fd:FuncData) (ps ks:List Str) (n:Nat) (src:List (Sr D)):Prop where
 ex:∃(sv:List (Sr Mh)) (sx:List (Sr V)),SrR aC sx sv/\SrR (λd v=>∀F H,Den K F H d v) src sx/\∀(s:Ml) (us ws:List Mh),K.In s.heap->us.length=n->ws.length=ks.length->Sg s fd ⟨us,ks.zip ws⟩ (ps.zip (us++sv.map (Sr.pick .none ws)))
 len:ps.length=n+src.length
 pos:0<ps.length
theorem KwOk.kb{K:Frag}{g:FuncData}{i ks:List Str}{n:Nat}{src:List (Sr D)}(h:KwOk K g i ks n src):∃(sv:List (Sr Mh)) (a:List (Sr V)),SrR (λd v=>∀F H,Den K F H d v) src a/\KBinds K g i ks (gK .none n ks.length sv) (gK .non n ks.length a):=by
 obtain⟨sv,a,r1,k,b⟩:=h.ex
 refine⟨sv,a,k,λs us j l c=>?_,λ{vs us m j} e f=>?_⟩
 ·unfold gK at c⊢
  split at c
  ·rename_i q
   rw[Mu q]
   exact b s us j l q.1 q.2
  ·exact MM c (by have:=h.pos;simp;omega)
 ·unfold gK
  by_cases q:vs.length=n/\m.length=ks.length
  ·rw[Mu q,Mu (by rw[←e.length,←f.length];exact q)]
   exact e.append (SrR.vals f r1)
  ·rw[Mr q,Mr (by rw[←e.length,←f.length];exact q)]
   exact .nil
section
variable{X:Cx}{E:St->XK}{e:Expr}{es:List Expr}{pos p kpos:Pos}{x:Str}{k n:Nat}{f:Addr}{fd:FuncData}{ps ks:List Str}{kws:List QZ}{nm:Option Str}
noncomputable def oN(m:List D->M D)(g:FL)(dd:List D):FD:=λδ=>M.bind (g δ) λas=>m (as++dd)
theorem EO{m:List D->M D}{g:FL}{dd:List D}(G:FnOk X.prog X.w X.K X.mg X.base (CXE X.prog X.w) k f fd ps (spF X.K n m))(q:Room k X.A)(s:Gl X x)(hm:X.mg x=some (.ref f))(u:RA X.K (.ref f)=true)(v:di X.K fd ps dd)(y:bD (CXE X.prog X.w) X E)
  (ha:PA X (e::es) (tVA X.K g E)) (hn:∀δ β r d,g δ β=some (.ok r,d)->r.length+dd.length=n) (a:(x==("__debug__":Str))=false:=by decide) (z:Mx (e::es) X.env=(false,eval e X.env)::Mx es X.env:=by rfl) (c:(NZ pos (Mx es X.env)).any (·.1)=false:=by rfl):
  PE X (.Call (.Name x p) (e::es) [] pos) (tV X.K (oN m g dd) E):=by
 obtain⟨ds,B,b,I,rd⟩:=v
 refine(pi G q s hm u b I y ha a z c).imp λS H Q J=>ex6 J λF δ β fr L r=>⟨F,δ,β,fr,L,?_⟩
 obtain⟨r0,h,l,o⟩:=run.bind (R:=DenL X.K F) r
 refine⟨r0,h,l,?_⟩
 cases r0 with
 |error C=>exact o
 |ok as=>
  intro vs i t hd
  obtain⟨d',β1,N,j,r1⟩:=o vs i t hd
  have O:=hn _ _ _ _ l
  have P:=(rd F i).length
  refine⟨by rw[MJ,←hd.length,←P,O],F,d'++dd,β1,N.fr,DenL.append j (rd F i),run.toE r1⟩
theorem HI:PK X [] (tVA X.K ad E):=λpos a s b H Q I c=>by obtain⟨F,δ,β,fr,d,r⟩:=c;exact Ix pos a s b H Q I (run.ret fr r DenL.nil)
theorem EG{f:FD}{g:FL}(ha:PE X e (tV X.K f E))(i:PK X kws (tVA X.K g E)):PK X (⟨nm,e,kpos⟩::kws) (tVA X.K (aa f g) E):=λpos a s j H Q I ⟨F,δ,β,fr,c,r⟩=>
 FM ha i pos a s j H Q I ⟨F,δ,β,fr,c,(run.bind (R:=Den X.K F) r).mono λv o ⟨d,β1,t,hd,r1⟩=>
  ⟨F,δ,β1,t.fr,c.tr (t.tr fr),(run.bind (R:=DenL X.K F) r1).mono λvs q l=>ex5 l λds β2 h b m=>run.ret h.fr m (DenL.cons (Den.tr (h.tr t.fr) _ _ hd) b)⟩⟩
end
section
variable{X:Cx}{E:St->XK}{e:Expr}{es:List Expr}{pos p kpos:Pos}{x:Str}{k n:Nat}{f:Addr}{fd:FuncData}{ps ks:List Str}
end
section
variable{X:Cx}{E:St->XK}{K:Frag}{st:Stmt}
end
noncomputable def Gw(g:G)(δ:Ds)(β:Bg)(Q:Out->Bg->Prop):Prop:=∃o a,g δ β=some (o,a)/\Q o a
section
variable{g h a b g1 g2:G}{δ δ1:Ds}{β β1 β2 β3:Bg}{Q R:Out->Bg->Prop}{i:Nat}{f fa fb fv:FD}{fl:FL}{fg:Dn->M (List (List D))}{d x y z:D}{ds as:List D}{t:Dn->M Bool}{c:Bool}{C:Addr}{K:Frag}
theorem Gw.mono(k:Gw g δ β R)(q:∀o β,R o β->Q o β):Gw g δ β Q:=let ⟨o,β',e,r⟩:=k;⟨o,β',e,q _ _ r⟩
theorem FA:ag g gNil=g:=by
 funext δ β
 unfold ag gNil
 split
 ·rename_i δ1 β1 e;exact e.symm
 ·rfl
theorem az(k:Gw (ag g gNil) δ β Q):Gw g δ β Q:=by rw[FA]at k;exact k
theorem bV(q:Q (.nx δ) β):Gw gNil δ β Q:=⟨_,_,rfl,q⟩
theorem ge(e:g δ β=some (.nx δ1,β1))(k:Gw h δ1 β1 Q):Gw (ag g h) δ β Q:=by
 obtain⟨o,j,l,q⟩:=k
 exact⟨o,j,by unfold ag;rw[e];exact l,q⟩
theorem d5(k:Gw h δ β Q):Gw (ag gNil h) δ β Q:=ge rfl k
theorem aJ(e:f (vw δ) β=some (.ok d,β1))(k:Gw h (δ.set i (some (.sh d))) β1 Q):Gw (ag (aG i f) h) δ β Q:=ge (by unfold aG;rw[e]) k
theorem sf(e:f (vwA δ) β=some (.ok d,β1))(k:Gw h δ β1 Q):Gw (ag (dO f) h) δ β Q:=ge (by unfold dO;rw[e]) k
theorem se(e:t (vwA δ) β=some (.ok c,β1))(k:Gw (ag (if c=true then g1 else g2) h) δ β1 Q):Gw (ag (gIf t g1 g2) h) δ β Q:=by
 obtain⟨o,j,l,q⟩:=k
 refine⟨o,j,?_,q⟩
 rw[←l]
 unfold ag gIf
 rw[e]
 cases c<;>rfl
theorem Lc(e:t (vwA δ) β=some (.ok true,β1))(k:Gw (ag g1 h) δ β1 Q):Gw (ag (gIf t g1 g2) h) δ β Q:=se e k
theorem rj(e:t (vwA δ) β=some (.ok false,β1))(k:Gw (ag g2 h) δ β1 Q):Gw (ag (gIf t g1 g2) h) δ β Q:=se e k
theorem bc(e:f (vwA δ) β=some (.ok d,β1))(q:Q (.rt d) β1):Gw (ag (aF f) h) δ β Q:=⟨_,_,by unfold ag aF;rw[e],q⟩
theorem Ld{rows:List (List D)}(e:fg (vw δ) β=some (.ok rows,β1))(hn:rows.all noLs=true)(k:Gw h (δ.set i (some (.grd rows))) β1 Q):Gw (ag (pL i fg) h) δ β Q:=ge (by unfold pL;simp only[e,hn,Na]) k
theorem Lb{rows:List (List D)}{ka kb:Int}{ja jb:Nat}(e:fv (vwA δ) β=some (.ok d,β1))(j:fa (vwA δ) β1=some (.ok (.int ka),β2))(l:fb (vwA δ) β2=some (.ok (.int kb),β3))(m:δ.getD i none=some (.grd rows))
  (n:ixN rows.length ka=some ja) (o:rows[ja]?=some ds) (p:ixN ds.length kb=some jb) (hn:noL d=true) (k:Gw h (δ.set i (some (.grd (rows.set ja (ds.set jb d))))) β3 Q):Gw (ag (oK i fa fb fv) h) δ β Q:=
 ge (by unfold oK;simp only[e,j,l,m,n,o,p,hn,Na]) k
theorem vY(e:fl (vw δ) β=some (.ok ds,β1))(j:ds.length<=sizeLine)(k:Gw h (δ.set i (some (.own ds))) β1 Q):Gw (ag (m7 i fl) h) δ β Q:=ge (by unfold m7;simp only[e,j,Na]) k
theorem v3{cs:List D}(j:δ.getD i none=some (.own cs))(e:fl (vw δ) β=some (.ok [d],β1))(l:cs.length<sizeLine)(k:Gw h (δ.set i (some (.own (cs++[d])))) β1 Q):Gw (ag (m8 i fl) h) δ β Q:=
 ge (by unfold m8;simp only[j,e,l,Na]) k
theorem Le{tg:TgS}(e:f (vw δ) β=some (.ok d,β1))(j:tg d δ=some δ1)(k:Gw h δ1 β1 Q):Gw (ag (gN f tg) h) δ β Q:=ge (by unfold gN;simp only[e,j,Nu]) k
noncomputable def Tn(I:Ds->Bg->Prop)(h:G)(Q:Out->Bg->Prop):Out->Bg->Prop:=λo β=>match o with
 | .nx δ=>I δ β
 | .ct δ=>I δ β
 | .bk δ=>Gw h δ β Q
 |o=>Q o β
theorem dI{it:FL}{tg:TgS}(e:it (vw δ) β=some (.ok ds,β1))(s:Nat->Ds->Bg->Prop)(I:s 0 δ β1)(step:∀i d δ β,ds[i]?=some d->s i δ β->∃δ1,tg d δ=some δ1/\Gw g δ1 β (Tn (s (i+1)) h Q))(k:∀δ β,s ds.length δ β->Gw h δ β Q):
  Gw (ag (cW it tg g) h) δ β Q:=by
 have gen:∀(es:List D) (j:Nat) (δ:Ds) (β:Bg),es=ds.drop j->j+es.length=ds.length->s j δ β->Gw (ag (gLp tg g es) h) δ β Q:=by
  intro es
  induction es with
  |nil=>
   intro j δ β _ w A
   simp at w
   exact ge (g:=gLp tg g []) rfl (k δ β (w▸A))
  |cons d es ih=>
   intro j δ β H w A
   have J:ds[j]?=some d:=by
    have:=Nq (λl=>l[0]?) H
    simpa[U8]using this.symm
   obtain⟨δ1,u,o,β2,v,q⟩:=step j d δ β J A
   have B:es=ds.drop (j+1):=by
    have:=Nq List.tail H
    simpa[List.tail_drop]using this
   have go:∀m,s (j+1) m β2->Gw (ag (gLp tg g es) h) m β2 Q:=λm E=>ih (j+1) m β2 B (by simp at w;omega) E
   have n:∀{r:G} {m:Ds},Gw (ag r h) m β2 Q->gLp tg g (d::es) δ β=r m β2->Gw (ag (gLp tg g (d::es)) h) δ β Q:=λ{r m} ⟨L,p,F,M⟩ N=>⟨L,p,by rw[←F];unfold ag;rw[N],M⟩
   cases o with
   |nx m=>exact n (r:=gLp tg g es) (go m q) (by rw[gLp];simp only[u,v])
   |ct m=>exact n (r:=gLp tg g es) (go m q) (by rw[gLp];simp only[u,v])
   |bk m=>exact n (r:=gNil) (d5 q) (by rw[gLp];simp only[u,v];rfl)
   |rt d'=>exact⟨_,β2,by unfold ag;rw[gLp];simp only[u,v],q⟩
   |rg d'=>exact⟨_,β2,by unfold ag;rw[gLp];simp only[u,v],q⟩
   |ex C m=>exact⟨_,β2,by unfold ag;rw[gLp];simp only[u,v],q⟩
 obtain⟨o,p,F,q⟩:=gen ds 0 δ β1 (by simp) (by simp) I
 refine⟨o,p,?_,q⟩
 rw[←F]
 unfold ag cW
 rw[e]
theorem oV{n:Nat}{S:Except Addr D->Bg->Prop}(k:Gw g (stD n ds) β (λo j=>match o with| .rt d=>S (.ok d) j| .nx _=>S (.ok .non) j| .ex C _=>S (.error C) j|_=>False)):∃r j,aD n g ds β=some (r,j)/\S r j:=by
 obtain⟨o,j,e,q⟩:=k
 cases o with
 |rt d=>exact⟨.ok d,j,by unfold aD;rw[e],q⟩
 |nx δ=>exact⟨.ok .non,j,by unfold aD;rw[e],q⟩
 |ex C δ=>exact⟨.error C,j,by unfold aD;rw[e],q⟩
 |_=>exact q.elim
theorem aV{n:Nat}{r:Except Addr D}(k:Gw g (stD n ds) β (λo j=>j=β/\(match o with| .rt d=>r= .ok d| .nx _=>r= .ok .non| .ex C _=>r= .error C|_=>False))):aD n g ds β=some (r,β):=by
 obtain⟨l,j,e,q1,q2⟩:=oV (S:=λl j=>j=β/\r=l) (n:=n) (ds:=ds) (β:=β) (k.mono λo j h=>by
  cases o<;>first|exact h|exact h.2)
 subst q1 q2
 exact e
theorem aw{m:List D->M D}{r:Except Addr D×Bg}{δ:Dn}(e:fl δ β=some (.ok as,β1))(j:m as β1=some r):aq m fl δ β=some r:=by unfold aq M.bind;rw[e];exact j
theorem ED{m:List D->M D}{r:Except Addr D×Bg}{δ:Dn}{dd:List D}(e:fl δ β=some (.ok as,β1))(j:m (as++dd) β1=some r):oN m fl dd δ β=some r:=by unfold oN M.bind;rw[e];exact j
theorem x_2{op:D->D->Option D}{δ:Dn}(e:fa δ β=some (.ok x,β1))(j:fb δ β1=some (.ok y,β2))(k:op x y=some z):f2 op fa fb δ β=some (.ok z,β2):=by unfold f2 M.bind;rw[e];simp only[j,M.ofO,k]
theorem x_1{op:D->Option D}{δ:Dn}(e:fa δ β=some (.ok x,β1))(j:op x=some z):f1 op fa δ β=some (.ok z,β1):=by unfold f1 M.bind;rw[e];simp only[M.ofO,j]
theorem ax{op:List D->Option D}{δ:Dn}(e:fl δ β=some (.ok as,β1))(j:op as=some z):ae op fl δ β=some (.ok z,β1):=by unfold ae M.bind;rw[e];simp only[M.ofO,j]
theorem ah{δ:Dn}(e:fa δ β=some (.ok x,β1))(j:fl δ β1=some (.ok as,β2)):aa fa fl δ β=some (.ok (x::as),β2):=by unfold aa M.bind;rw[e];simp only[j,M.ret]
theorem bE{op:List D->Option (List D)}{δ:Dn}(e:fl δ β=some (.ok as,β1))(j:op as=some ds):aT op fl δ β=some (.ok ds,β1):=by unfold aT M.bind;rw[e];simp only[j,M.ofO]
theorem eM{δ:Dn}(e:fa δ β=some (.ok x,β1))(j:dJ x=some ds):aQ fa δ β=some (.ok ds,β1):=by unfold aQ M.bind;rw[e];simp only[j,M.ofO]
theorem x_B{δ:Dn}(e:fa δ β=some (.ok (.bl c),β1)):fB fa δ β=some (.ok c,β1):=by unfold fB M.bind;rw[e];rfl
theorem CS{δ:Dn}(e:fa δ β=some (.ok x,β1))(j:jM x=some c):eJ fa δ β=some (.ok c,β1):=by unfold eJ M.bind;rw[e];simp only[M.ofO,j]
theorem vV{δ:Dn}(e:t δ β=some (.ok c,β1)):eA t δ β=some (.ok (!c),β1):=by unfold eA M.bind;rw[e];rfl
theorem bZ(ok:β.ok){lot:Int}(k:0<lot)(l:lot<1073741824):∃v e,bN [.bag,.int lot] β=some (.ok (.int v),e)/\0<=v/\v<lot/\e.ok:=by
 obtain⟨a0,a1,j⟩:=uW ok k
 exact⟨_,_,AV ok k l,a0,a1,j⟩
theorem tR{n:Nat}{k:Int}(e:0<=k)(j:k<n):ixN n k=some k.toNat:=by unfold ixN;rw[Mu e,Mu j]
theorem yV{xs:List D}{k:Int}{d:D}(e:0<=k)(h:xs[k.toNat]?=some d):ixD (.lst xs) (.int k)=some d:=by
 have j:k.toNat<xs.length:=(MF.mp h).1
 show atI xs k=some d
 unfold atI
 rw[tR e (by omega)]
 exact h
theorem Jj{x y:D}:ixD (.tup [x,y]) (.int 0)=some x:=rfl
theorem Ji{x y:D}:ixD (.tup [x,y]) (.int 1)=some y:=rfl
end
section
variable{β β1 β2:Bg}{f g h i:FD}{t u:Dn->M Bool}{δ:Dn}{c e:Bool}{x y z w:Int}{d:D}
theorem K7(a:t δ β=some (.ok false,β1))(b:u δ β1=some (.ok e,β2)):eK t u δ β=some (.ok e,β2):=by
 unfold eK M.bind;rw[a];simp[b]
theorem EC(a:f δ β=some (.ok (.bl true),β1))(b:g δ β1=some (.ok d,β2)):gO f g δ β=some (.ok d,β2):=by
 unfold gO M.bind;rw[a];simp[asB,M.ofO,b]
theorem le_int:leD (.int x) (.int y)=some (.bl (decide (x<=y))):=rfl
theorem gt_int:gtD (.int x) (.int y)=some (.bl (decide (y<x))):=rfl
theorem uF(a:f δ β=some (.ok (.int x),β))(b:g δ β=some (.ok (.int y),β))(j:h δ β=some (.ok (.int z),β)):dz leD leD f g h δ β=some (.ok (.bl (decide (x<=y)&&decide (y<=z))),β):=by
 unfold dz M.bind
 rw[a]
 simp only[b,le_int,M.ofO,asB]
 by_cases q:x<=y
 ·simp only[q,Rq,Na,j,le_int,Tx]
 ·simp only[q,QP,MD,Nh,M.ret,Te]
end
noncomputable abbrev gI(rows:LI):List (List D):=rows.map λr=>r.map D.int
noncomputable abbrev lG(rows:List (List D)):D:= .lst (rows.map D.lst)
noncomputable abbrev cM(rows:LI):D:=lG (gI rows)
noncomputable def pD(p:Int×Int):D:= .tup [.int p.1,.int p.2]
noncomputable abbrev gP(b:LP):List (List D):=b.map λr=>r.map pD
noncomputable abbrev fV(b:LP):D:=lG (gP b)
noncomputable def Shp{α:Type}(r c:Nat)(m:List (List α)):Prop:=m.length=r/\∀row∈m,row.length=c
noncomputable def tot(rows:LI):Int:=(rows.map OO).sum
theorem bG{n:Nat}(h:n<=1000):n<=sizeLine:=MS h (by decide)
theorem qt:∀r:List Int,noLs (r.map D.int)=true
 |[]=>rfl
 |x::r=>by
  show(noL (.int x)&&noLs (r.map D.int))=true
  rw[qt r];rfl
theorem Shp.set{α:Type}{r c i j:Nat}{m:List (List α)}{row:List α}{v:α}(h:Shp r c m)(b:m[i]?=some row):Shp r c (m.set i (row.set j v)):=⟨by rw[Nm,h.1],λx a=>by
 rcases Ps a with a|rfl
 ·exact h.2 x a
 ·rw[Nm];exact h.2 row (MV b)⟩
theorem Shp.at{α:Type}{r c i:Nat}{m:List (List α)}(h:Shp r c m)(b:i<r):∃row,m[i]?=some row/\row.length=c:=by
 have a:i<m.length:=by rw[h.1];exact b
 exact⟨m[i],Mn a,h.2 _ (NB a)⟩
theorem DY{α:Type}{l:List α}{i:Nat}(h:i<l.length):∃x,l[i]?=some x:=⟨l[i],Mn h⟩
theorem o7:∀{xs:List Int} {j:Nat} {x v:Int},xs[j]?=some x->(xs.set j v).sum=xs.sum-x+v
 |[],j,x,v,h=>by simp at h
 |y::xs,0,x,v,h=>by
  simp at h;subst h
  simp only[Od,MZ];omega
 |y::xs,j+1,x,v,h=>by
  have h':xs[j]?=some x:=by simpa using h
  simp only[Oc,MZ,o7 h'];omega
theorem ER{rows:LI}{i j:Nat}{row:List Int}{x v:Int}(a:rows[i]?=some row)(b:row[j]?=some x):tot (rows.set i (row.set j v))=tot rows-x+v:=by
 unfold tot
 rw[Sk,o7 (x:=row.sum) (by rw[Mt,a];rfl),o7 b]
 omega
theorem IV{rows:LI}{i j:Nat}{row:List Int}{v:Int}(h:∀r∈rows,∀x∈r,0<=x)(c:rows[i]?=some row)(d:0<=v):∀r∈rows.set i (row.set j v),∀x∈r,0<=x:=λr a x b=>by
 rcases Ps a with a|rfl
 ·exact h r a x b
 ·rcases Ps b with b|rfl
  ·exact h row (MV c) x b
  ·exact d
theorem sA:∀{xs:List Int},(∀x∈xs,0<=x)->0<=xs.sum
 |[],_=>by simp
 |y::xs,h=>by
  have:=sA (xs:=xs) λx a=>h x (Mo _ a)
  have:=h y Mq
  simp only[MZ];omega
structure Tab (r c:Nat) (rows:LI):Prop where
 shp:Shp r c rows
 nn:∀row∈rows,∀x∈row,0<=x
 tot:tot rows<=40
 r0:1<=r
 r1:r<=4
 c0:1<=c
 c1:c<=6
theorem dC(ns:List Int):bA [.lst (ns.map D.int)]=some (.int ns.sum):=by
 show((dY (ns.map D.int)).map λl=>D.int l.sum)=_
 have:∀ns:List Int,dY (ns.map D.int)=some ns:=λns=>by
  induction ns with
  |nil=>rfl
  |cons n ns ih=>simp[dY,ih]
 rw[this];rfl
theorem rg1{n:Int}(a:0<=n)(h:n<=10^9):cI [.int n]=some (aP 0 n.toNat):=by
 have q:(decide (-(2^62)<=n)&&decide (n<2^62))=true:=by
  simp only[MU,Ni]
  omega
 show(if(decide (-(2^62)<=n)&&decide (n<2^62))=true then some (aP 0 n.toNat)else none)=_
 rw[Mu q]
theorem DD{n k:Nat}{d:D}(h:(aP 0 n)[k]?=some d):k<n/\d= .int (k:Int):=by
 unfold aP at h
 have a:k<n:=by
  have:=(MF.mp h).1
  simpa using this
 rw[Mt,NS a]at h
 exact⟨a,by cases h;simp⟩
theorem sM(n:Nat):(aP 0 n).length=n:=by simp[aP]
theorem bC{α:Type}{nv:Nat}{caps:List Nat}{it:FL}{tg:TgF}{f:FD}{δ:Dn}{β:Bg}(xs:List α)(u v:α->D)(a:it δ β=some (.ok (xs.map u),β))
  (b:∀x∈xs,∃δ1,tg (u x) (cSt nv caps δ)=some δ1/\f δ1 β=some (.ok (v x),β)) (c:xs.length<=sizeLine):aI nv caps it tg (λ_=>M.ret true) (cEm f) δ β=some (.ok (.lst (xs.map v)),β):=by
 refine pW a ?_ (by rw[Mj];exact c)
 have gen:∀xs:List α,(∀x∈xs,∃δ1,tg (u x) (cSt nv caps δ)=some δ1/\f δ1 β=some (.ok (v x),β))->cLp tg (λ_=>M.ret true) (cEm f) (xs.map u) (cSt nv caps δ) β=some (.ok (xs.map v),β):=by
  intro xs
  induction xs with
  |nil=>intro _;rfl
  |cons x xs ih=>
   intro h
   obtain⟨δ1,d,e⟩:=h x Mq
   have g:=ih λy i=>h y (Mo _ i)
   rw[ME,cLp]
   simp only[d,M.bind,M.ret,reduceIte,cEm,e,g,ME,NR,NA]
 exact gen xs b
theorem zr{α:Type}{nv:Nat}{caps:List Nat}{it:FL}{tg:TgF}{f:FL}{δ:Dn}{β:Bg}(xs:List α)(u:α->D)(v:α->List D)(a:it δ β=some (.ok (xs.map u),β))
  (b:∀x∈xs,∃δ1,tg (u x) (cSt nv caps δ)=some δ1/\f δ1 β=some (.ok (v x),β)) (c:xs.length<=sizeLine):jE nv caps it tg (λ_=>M.ret true) (uq f) δ β=some (.ok (xs.map v),β):=by
 have gen:∀xs:List α,(∀x∈xs,∃δ1,tg (u x) (cSt nv caps δ)=some δ1/\f δ1 β=some (.ok (v x),β))->nq tg (λ_=>M.ret true) (uq f) (xs.map u) (cSt nv caps δ) β=some (.ok (xs.map v),β):=by
  intro xs
  induction xs with
  |nil=>intro _;rfl
  |cons x xs ih=>
   intro h
   obtain⟨δ1,d,e⟩:=h x Mq
   have g:=ih λy i=>h y (Mo _ i)
   rw[ME,nq]
   simp only[d,M.bind,M.ret,reduceIte,uq,e,g,ME,NR,NA]
 unfold jE
 simp only[a,gen xs b,Mj,c,Na]
theorem Io{ds:List D}{c:Nat}(a:ds.length<=sizeLine)(b:ds.length*c<=sizeLine)(d:c<=1000000):sN ds (.int (c:Int))=some (MC c ds).flatten:=by
 have q:(decide (-(2^63)<=(c:Int))&&decide ((c:Int)<2^63)&&decide (ds.length<=sizeLine)&&decide (ds.length*(c:Int).toNat<=sizeLine))=true:=by
  simp only[MU,Ni]
  exact⟨⟨⟨by omega,by omega⟩,a⟩,by rw[NG];exact b⟩
 unfold sN
 simp only[q,Na]
 rw[NG]
theorem ua{α:Type}(x:α):∀c:Nat,(MC c [x]).flatten=MC c x
 |0=>rfl
 |c+1=>by rw[M3,OD,ua x c];rfl
theorem LH{f:FD}{g:FD}{x:D}{c:Nat}{δ:Dn}{β:Bg}(b:f δ β=some (.ok x,β))(d:g δ β=some (.ok (.int (c:Int)),β))(e:c<=1000):wG (aa f ad) g δ β=some (.ok (MC c x),β):=by
 have a:[x].length<=sizeLine:=by rw[Np];decide
 have h:[x].length*c<=sizeLine:=by rw[Np,Nat.one_mul];exact bG e
 have r:=Io (ds:=[x]) (c:=c) a h (by omega)
 rw[ua]at r
 have s:szL [x]=some [x]:=by
  unfold szL
  rw[Mu a]
 have i:aa f ad δ β=some (.ok [x],β):=ah b rfl
 unfold wG
 rw[M.bind_ok i,s,M.bind_some,M.bind_ok d,r]
 rfl
theorem zC(bs:List Bool):dG (bs.map D.bl)=some bs:=by
 induction bs with
 |nil=>rfl
 |cons b bs ih=>simp[dG,ih]
theorem any_map{α:Type}(xs:List α)(p:α->Bool):nw [.lst (xs.map λx=>D.bl (p x))]=some (.bl (xs.any p)):=by
 show(dG _).map _=_
 rw[show(xs.map λx=>D.bl (p x))=(xs.map p).map D.bl by rw[MK];rfl,zC]
 simp only[Nu,List.any_map]
 rfl
theorem iP{α:Type}(r:Nat)(x:α):(Mv r).map (λ_=>x)=MC r x:=by rw[SN,MR]
theorem f7{xs:List D}{r:Nat}(h:xs.length=r):bp [.lst xs]=some (.int (r:Int)):=by subst h;rfl
theorem wW{rows:List (List D)}{k:Nat}{row:List D}(h:rows[k]?=some row):ixD (lG rows) (.int (k:Int))=some (.lst row):=yV (by omega) (by rw[NG,Mt,h];rfl)
theorem dF{xs:List D}{k:Nat}{d:D}(h:xs[k]?=some d):ixD (.lst xs) (.int (k:Int))=some d:=yV (by omega) (by rw[NG];exact h)
theorem mE{x y:D}:bB [x,y]=some (.tup [x,y]):=by
 unfold bB
 rw[Mu (show[x,y].length<=sizeLine by rw[MA,Np];decide)]
theorem lst0:bt []=some (.lst []):=by
 unfold bt
 rw[Mu (show([]:List D).length<=sizeLine by rw[On];decide)]
theorem wO{x:D}:bt [x]=some (.lst [x]):=by
 unfold bt
 rw[Mu (show[x].length<=sizeLine by rw[Np];decide)]
theorem IY{x y:Int}:mS [.int x,.int y]=some (.int (min x y)):=by
 unfold mS
 simp only
 congr 2
 split<;>omega
theorem max2{x y:Int}:tE [.int x,.int y]=some (.int (max x y)):=by
 unfold tE
 simp only
 congr 2
 split<;>omega
theorem eq_int{x y:Int}:gb (.int x) (.int y)=some (.bl (decide (x=y))):=by rw[kh]
theorem ne_int{x y:Int}:c7 (.int x) (.int y)=some (.bl (!decide (x=y))):=by rw[kg]
theorem ir{α a:Type}{f:α->a}{xs:List α}{i:Nat}{d:a}(h:(xs.map f)[i]?=some d):∃x,xs[i]?=some x/\d=f x:=by
 rw[Mt]at h
 cases q:xs[i]? with
 |none=>rw[q]at h;cases h
 |some x=>rw[q]at h;exact⟨x,rfl,by cases h;rfl⟩
noncomputable abbrev cN(r c:Nat):LP:=MC r (MC c (0,40))
theorem ze(r c:Nat):Shp r c (cN r c):=⟨by simp,λrow h=>by rw[(QF.mp h).2];simp⟩
structure PairOk (p:Int×Int):Prop where
 l:0<=p.1
 m:p.1<=p.2
 h:p.2<=40
theorem HD{α:Type}{nv:Nat}{caps:List Nat}{it:FL}{tg:TgF}{b:FL}{δ:Dn}{β:Bg}(xs:List α)(u:α->D)(o:α->List D)(a:it δ β=some (.ok (xs.map u),β))
  (c:∀x∈xs,∃δ1,tg (u x) (cSt nv caps δ)=some δ1/\b δ1 β=some (.ok (o x),β)) (d:(xs.flatMap o).length<=sizeLine):aI nv caps it tg (λ_=>M.ret true) b δ β=some (.ok (.lst (xs.flatMap o)),β):=by
 refine pW a ?_ d
 have gen:∀xs:List α,(∀x∈xs,∃δ1,tg (u x) (cSt nv caps δ)=some δ1/\b δ1 β=some (.ok (o x),β))->cLp tg (λ_=>M.ret true) b (xs.map u) (cSt nv caps δ) β=some (.ok (xs.flatMap o),β):=by
  intro xs
  induction xs with
  |nil=>intro _;rfl
  |cons x xs ih=>
   intro h
   obtain⟨δ1,e,f⟩:=h x Mq
   have g:=ih λy i=>h y (Mo _ i)
   rw[ME,cLp]
   simp only[e,M.bind,M.ret,reduceIte,f,g,N3]
 exact gen xs c
theorem yD{α:Type}{it:FL}{tg:TgF}{f:FD}{δ:Dn}{β:Bg}(xs:List α)(u v:α->D)(a:it δ β=some (.ok (xs.map u),β))
  (b:∀x∈xs,∃δ1,tg (u x) δ=some δ1/\f δ1 β=some (.ok (v x),β)):cNx it tg (λ_=>M.ret true) (cEm f) δ β=some (.ok (xs.map v),β):=by
 have gen:∀xs:List α,(∀x∈xs,∃δ1,tg (u x) δ=some δ1/\f δ1 β=some (.ok (v x),β))->cLp tg (λ_=>M.ret true) (cEm f) (xs.map u) δ β=some (.ok (xs.map v),β):=by
  intro xs
  induction xs with
  |nil=>intro _;rfl
  |cons x xs ih=>
   intro h
   obtain⟨δ1,c,d⟩:=h x Mq
   have e:=ih λy g=>h y (Mo _ g)
   rw[ME,cLp]
   simp only[c,M.bind,M.ret,reduceIte,cEm,d,e,ME,NR,NA]
 unfold cNx
 rw[M.bind_ok a]
 exact gen xs b
theorem rW{α a:Type}(u:α->D)(v:a->D):∀(xs:List α) (ys:List a),cA (xs.map u) (ys.map v)=(xs.zip ys).map λp=>D.tup [u p.1,v p.2]
 |[],ys=>by simp[cA]
 |x::xs,[]=>by simp[cA]
 |x::xs,y::ys=>by simp[cA,rW u v xs ys]
theorem ui{xs:List D}{k:Nat}:nc xs (some (k:Int)) none=xs.drop k:=by
 unfold nc
 rw[HT.sIx_none,HT.sIx_nat]
 by_cases h:k<=xs.length
 ·rw[show min k xs.length=k by omega]
  rw[OU (by rw[List.length_drop];omega)]
 ·rw[OT (by omega),OT (by omega)]
  simp
theorem p9{f g:FD}{δ:Dn}{β:Bg}{xs:List D}{k:Int}(a:f δ β=some (.ok (.lst xs),β))(b:g δ β=some (.ok (.int k),β)):fSl f (some g) none δ β=some (.ok (.lst (nc xs (some k) none)),β):=by
 unfold fSl rM
 simp only[M.bind,a,b,M.ret,M.ofO,zF,slD]
theorem vT{xs ys:List D}(h:xs.length+ys.length<=1000):ck (.lst xs) (.lst ys)=some (.lst (xs++ys)):=by
 unfold ck
 simp only
 rw[Mu (bG h)]
noncomputable def jI:List D->List Mh->Prop
 |[],[]=>True
 | .int i::ds,.int j _::vs=>i=j/\jI ds vs
 | .str x::ds,.str y _::vs=>x=y/\jI ds vs
 | .bl x::ds,.bool y::vs=>x=y/\jI ds vs
 | .non::ds,.none::vs=>jI ds vs
 |_,_=>False
theorem gz{K:Frag}:∀{ds:List D} {vs:List Mh},jI ds vs->∃xs,ak xs vs/\∀F H,DenL K F H ds xs
 |[],[],_=>⟨[],.nil,λ_ _=>DenL.nil⟩
 | .int i::ds,.int j t::vs,h=>by
  obtain⟨e,h⟩:=h
  subst e
  obtain⟨xs,a,b⟩:=gz (K:=K) h
  exact⟨.int i::xs,.cons ⟨t,rfl⟩ a,λF H=>DenL.cons rfl (b F H)⟩
 | .str i::ds,.str j t::vs,h=>by
  obtain⟨e,h⟩:=h
  subst e
  obtain⟨xs,a,b⟩:=gz (K:=K) h
  exact⟨.str i::xs,.cons ⟨t,rfl⟩ a,λF H=>DenL.cons rfl (b F H)⟩
 | .bl i::ds,.bool j::vs,h=>by
  obtain⟨e,h⟩:=h
  subst e
  obtain⟨xs,a,b⟩:=gz (K:=K) h
  exact⟨.bl i::xs,.cons rfl a,λF H=>DenL.cons rfl (b F H)⟩
 | .non::ds,.none::vs,h=>by
  obtain⟨xs,a,b⟩:=gz (K:=K) (ds:=ds) (vs:=vs) h
  exact⟨.non::xs,.cons rfl a,λF H=>DenL.cons rfl (b F H)⟩
noncomputable def VIs(K:Frag)(d:D)(u:Mh):Prop:=∃v,aC v u/\∀F H,Den K F H d v
theorem lE{K:Frag}{i:Int}{t:Tok}:VIs K (.int i) (.int i t):=⟨.int i,⟨t,rfl⟩,λ_ _=>rfl⟩
theorem EI{K:Frag}:VIs K .non .none:=⟨.non,rfl,λ_ _=>rfl⟩
theorem EH{K:Frag}{p:Addr}{q1:Mh}{q2:Option Addr}{q3:Array Mh}{q4:Nat}{q5:Array (Option Mh)}{ds:List D}(a:K.lookup p=some ⟨q1,q2,.seq q3 q4,q5⟩)(b:q1= .type "tuple")(c:q3.size<=sizeLine)(d:jI ds q3.toList):VIs K (.tup ds) (.ref p):=by
 obtain⟨xs,e,f⟩:=gz (K:=K) d
 exact⟨.ref p,rfl,λF H=>⟨p,xs,rfl,.inr ⟨_,q3,q4,a,b,rfl,c,e⟩,f F H⟩⟩
theorem oR{K:Frag}{mg:Str->Option Mh}{x:Str}{d:D}{u:Mh}(h:mg x=some u)(v:VIs K d u):ml K mg x d:=let ⟨w,h1,h2⟩:=v;⟨u,w,h,h1,h2⟩
theorem zq{K:Frag}{c:FuncData}{a:List Str}{dd:List D}{us:List Mh}(n:Nat)(g:a.length=n+us.length)(b:∀(s:Ml) (vs:List Mh),K.In s.heap->vs.length=n->Sg s c ⟨vs,[]⟩ (a.zip (vs++us)))(h:∃vs,ak vs us/\∀F H,DenL K F H dd vs):di K c a dd:=
 let ⟨vs,h1,h2⟩:=h
 ⟨us,vs,λs d e f=>b s d e (by rw[MJ]at f;omega),h1,h2⟩
theorem zm{K:Frag}:∃vs,ak vs []/\∀F H,DenL K F H [] vs:=⟨[],.nil,λ_ _=>DenL.nil⟩
theorem vD{K:Frag}{d:D}{u:Mh}{ds:List D}{us:List Mh}(v:VIs K d u)(h:∃vs,ak vs us/\∀F H,DenL K F H ds vs):∃vs,ak vs (u::us)/\∀F H,DenL K F H (d::ds) vs:=by
 obtain⟨w,a,b⟩:=v
 obtain⟨vs,c,e⟩:=h
 exact⟨w::vs,.cons a c,λF H=>DenL.cons (b F H) (e F H)⟩
inductive KSr (K:Frag):List (Sr D)->List (Sr Mh)->Prop where
 |nil:KSr K [] []
 |kw {j:Nat} {a:List (Sr D)} {c:List (Sr Mh)}:KSr K a c->KSr K (.kw j::a) (.kw j::c)
 |df {x:D} {y:Mh} {a:List (Sr D)} {c:List (Sr Mh)}:VIs K x y->KSr K a c->KSr K (.df x::a) (.df y::c)
theorem KSr.mid{K:Frag}:∀{a:List (Sr D)} {c:List (Sr Mh)},KSr K a c->∃b:List (Sr V),SrR aC b c/\SrR (λd v=>∀F H,Den K F H d v) a b
 |_,_,.nil=>⟨[],.nil,.nil⟩
 |_,_,.kw (j:=j) h=>let ⟨b,h1,h2⟩:=KSr.mid h;⟨.kw j::b,.kw h1,.kw h2⟩
 |_,_,.df v h=>let ⟨b,h1,h2⟩:=KSr.mid h;let ⟨w,g1,g2⟩:=v;⟨.df w::b,.df g1 h1,.df g2 h2⟩
theorem LT{K:Frag}{d:FuncData}{a ks:List Str}{n:Nat}{src:List (Sr D)}{sv:List (Sr Mh)}(h:KSr K src sv)(e:a.length=n+src.length)(f:0<a.length)(b:∀(s:Ml) (us c:List Mh),K.In s.heap->us.length=n->c.length=ks.length->Sg s d ⟨us,ks.zip c⟩ (a.zip (us++sv.map (Sr.pick .none c)))):KwOk K d a ks n src:=
 ⟨let ⟨sx,h1,h2⟩:=h.mid;⟨sv,sx,h1,h2,b⟩,e,f⟩
section
variable{X:Cx}{E:St->XK}{K:Frag}{st:Stmt}
end
section
variable{h:G}{δ:Ds}{β β1 β2 β3:Bg}{Q:Out->Bg->Prop}{i:Nat}{fa fb fv:FD}{fl:FL}{d d0 d1:D}{ds:List D}{op:D->D->Option D}
end
theorem K8{t:Dn->M Bool}{f g:FD}{δ:Dn}{β β1:Bg}{r:Except Addr D×Bg}(a:t δ β=some (.ok true,β1))(b:f δ β1=some r):fIf t f g δ β=some r:=by
 unfold fIf M.bind;rw[a];exact b
theorem K9{t:Dn->M Bool}{f g:FD}{δ:Dn}{β β1:Bg}{r:Except Addr D×Bg}(a:t δ β=some (.ok false,β1))(b:g δ β1=some r):fIf t f g δ β=some r:=by
 unfold fIf M.bind;rw[a];exact b
theorem CQ{n:Nat}{d:D}{δ:Dn}{β:Bg}(e:δ.getD n none=some d):ac n δ β=some (.ok d,β):=by unfold ac;rw[e];rfl
section
variable{β β1 β2:Bg}{f g h:FD}{δ:Dn}{x y z:Int}
end
theorem oy{K:Frag}{F:Fx}{H:Hp}{f:Str}{d:D}:∀{ns:List Str} {ds:List D} {xs:List V},DenL K F H ds xs->(ns.zip ds).lookup f=some d->∃v,(ns.zip xs).lookup f=some v/\Den K F H d v
 |[],ds,xs,h,e=>by simp at e
 |n::ns,[],xs,h,e=>by simp at e
 |n::ns,c::ds,xs,h,e=>by
  obtain⟨x,r,q,a,b⟩:=h
  subst q
  rw[OV,Pn]at e⊢
  split at e
  ·rename_i z
   cases e
   exact⟨x,rfl,a⟩
  ·rename_i z
   exact oy b e
theorem qu{α:Type}{m:Str}:∀{ns:List Str} {xs:List α},m∉ns->(ns.zip xs).lookup m=none
 |[],xs,_=>by simp
 |n::ns,[],_=>by simp
 |n::ns,x::xs,h=>by
  rw[OV,Pn]
  have a:m≠n:=λz=>h (by rw[z];exact Mq)
  have b:m∉ns:=λz=>h (Mo _ z)
  rw[show(m==n)=false by simpa using a]
  exact qu b
theorem di.nil{K:Frag}{a:FuncData}{c:List Str}(b:aA K a c []):di K a c []:=⟨[],[],b,.nil,λ_ _=>DenL.nil⟩
section
variable{X:Cx}{E:St->XK}{o e:Expr}{es:List Expr}{pos p apos kpos:Pos}{x m:Str}{k n:Nat}{f C:Addr}{fd:FuncData}{ps ks:List Str}{kws:List QZ}
noncomputable def m9(C:Addr)(f:Str):D->Option D
 | .obj C' ns ds=>if C'=C then(ns.zip ds).lookup f else none
 |_=>none
theorem v4{f:Str}{g:FD}(c:Cls X.K C)(n:dA X.K C f)(j:PE X e (tV X.K g E))(l:PX e f X.env (eval e X.env)=eval e X.env:=by rfl):PE X (.Attribute e f pos) (tV X.K (f1 (m9 C f) g) E):=
 (II j l).imp λD H Q i=>ex6 i λF δ β fr q h=>⟨F,δ,β,fr,q,(run.bind (R:=Den X.K F) h).mono λv r i=>by
  obtain⟨d,β1,t,hd,r1⟩:=i
  obtain⟨d3,b,k⟩:=run.ofO r1
  cases d<;>first|cases b|skip
  rename_i s ns ds
  unfold m9 at b
  simp only at b
  split at b
  ·rename_i z
   subst z
   unfold Den at hd
   obtain⟨a,dx,xs,rfl,G,u,I,y⟩:=hd
   obtain⟨w,A,B⟩:=oy y b
   exact⟨a,s,dx,_,w,rfl,u,c,n,A,k w r (To.refl t.fr) B⟩
  ·cases b⟩
noncomputable def fU(C:Addr)(m:Str)(a:List D->M D)(b:FD)(g:FL)(dd:List D):FD:=λδ=>M.bind (b δ) λd=>match d with
 | .obj C' ns _=>if C'=C/\m∉ns then M.bind (g δ) λas=>a (d::(as++dd))else M.fail
 |_=>M.fail
theorem tB{y:List D->M D}{A:FD}{g:FL}{dd:List D}{K:Frag}{R:Sp}{b:List V}{j:St}{H:Hp}{Q:VK}(N:∀vs H Q E,spF K n y vs H Q E->R vs H Q E)(rd:∀F H,DenL K F H dd b)(hn:∀δ β r c,g δ β=some (.ok r,c)->r.length+dd.length+1=n)(h:tV K (fU C m y A g dd) E j H Q):wa C m R b E (tV K A E) (tVA K g E) j H Q:=by
 obtain⟨F,δ,β,fr,B,h⟩:=h
 refine⟨F,δ,β,fr,B,(run.bind (R:=Den K F) h).mono λv O P=>ex5 P λd β1 t hd r1=>?_⟩
 have fail:∀{l:M D},l=M.fail->run (Den K F) F E j l O Q β1->False:=λ{l} e r=>by
  obtain⟨r,c,G,_⟩:=r
  rw[e]at G;cases G
 cases d<;>first|exact(fail rfl r1).elim|skip
 rename_i Z ns ds
 simp only at r1
 split at r1
 ·rename_i z
  obtain⟨rfl,hm⟩:=z
  have q:=hd
  unfold Den at hd
  obtain⟨a,dx,xs,rfl,h1,S,h3,h4⟩:=hd
  refine⟨a,dx,_,rfl,S,qu hm,F,δ,β1,t.fr,B.tr (t.tr fr),?_⟩
  obtain⟨r0,s,I,J⟩:=run.bind (R:=DenL K F) r1
  refine⟨r0,s,I,?_⟩
  cases r0 with
  |error C=>exact J
  |ok as=>
   intro vs u T i
   obtain⟨d',β2,L,w,U⟩:=J vs u T i
   have W:=hn _ _ _ _ I
   have Y:=(rd F u).length
   refine N _ _ _ _ ⟨by rw[MA,MJ,←i.length,←Y,W],F,_::(d'++dd),β2,L.fr,DenL.cons (Den.tr (L.tr t.fr) _ _ q) (DenL.append w (rd F u)),run.toE U⟩
 ·exact(fail rfl r1).elim
theorem xE{j:List D->M D}{l:FD}{g:FL}{dd:List D}{pl:Sem Bool}(c:Cls X.K C)(hm:Meth X.K C m f)(G:FnOk X.prog X.w X.K X.mg X.base (CXE X.prog X.w) k f fd ps (spF X.K n j))(q:Room k X.A)(s:di X.K fd ps dd)(t:bD (CXE X.prog X.w) X E)
  (u:PE X o (tV X.K l E)) (ha:PA X (e::es) (tVA X.K g E)) (hn:∀δ β r i,g δ β=some (.ok r,i)->r.length+dd.length+1=n)
  (a:Mx (e::es) X.env=(false,eval e X.env)::Mx es X.env:=by rfl) (d:(NZ pos (Mx es X.env)).any (·.1)=false:=by rfl)
  (v:eval (.Call (.Attribute o m apos) (e::es) [] pos) X.env=(do
   let ov ←eval o X.env
   Pc apos.atName
   let (f,first) ←PN [ov] (Rb ov m pl)
   S3 pos f first (NZ pos (Mx (e::es) X.env)) (OK pos (NW [] X.env))):=by rfl):
  PE X (.Call (.Attribute o m apos) (e::es) [] pos) (tV X.K (fU C m j l g dd) E):=by
 obtain⟨ds,y,b,B,rd⟩:=s
 exact(FR (pl:=pl) u c hm G q b B t ha a d v).imp λF H Q h=>tB (λ_ _ _ _ z=>z) rd hn h
theorem lF{g:List D->M D}{i:FD}{dd:List D}{pl:Sem Bool}(c:Cls X.K C)(hm:Meth X.K C m f)(G:FnOk X.prog X.w X.K X.mg X.base (CXE X.prog X.w) k f fd ps (spF X.K n g))(j:Room k X.A)(l:di X.K fd ps dd)(q:bD (CXE X.prog X.w) X E)
  (s:PE X o (tV X.K i E)) (hn:dd.length+1=n)
  (t:eval (.Call (.Attribute o m apos) [] [] pos) X.env=(do
   let ov ←eval o X.env
   Pc apos.atName
   let (f,first) ←PN [ov] (Rb ov m pl)
   S3 pos f first (NZ pos (Mx [] X.env)) (OK pos (NW [] X.env))):=by rfl):
  PE X (.Call (.Attribute o m apos) [] [] pos) (tV X.K (fU C m g i ad dd) E):=by
 obtain⟨ds,u,b,y,rd⟩:=l
 refine(AI (pl:=pl) s c hm G j b y q t).imp λR H Q h=>?_
 obtain⟨F,δ,β,fr,B,h⟩:=tB (λ_ _ _ _ z=>z) rd (λδ β r I e=>by cases e;simpa using hn) h
 refine⟨F,δ,β,fr,B,h.mono λv S ⟨a,dx,fs,J,ha,L,T,N,β2,d,O,P⟩=>⟨a,dx,fs,J,ha,L,?_⟩⟩
 exact run.ret d P DenL.nil
end
structure ToX (F:Fx) (x:Addr) (H H':Hp) (β':Bg):Prop where
 kp:∀a o,a≠x->H a=some o->(∀b l,F.bg=some (b,l)->a≠b/\a≠l)->H' a=some o
 fr:Fr F H' β'
noncomputable def spI(K:Frag)(C:Addr)(ns:List Str)(n:Nat)(d:List D->M (List D)):Sp:=λvs H Q E=>∃x rest F ds β dx,vs= .ref x::rest/\rest.length=n/\Fr F H β/\F.A x/\(∀b l,F.bg=some (b,l)->x≠b/\x≠l)/\H x=some (.ins C dx [])/\DenL K F H ds rest/\
 ∃r a,d ds β=some (r,a)/\match r with
  | .ok es=>∀c xs,ToX F x H c a->c x=some (.ins C dx (ns.zip xs))->ns.length=xs.length->DenL K F c es xs->Q .non c
  | .error Ce=>∀c,ToX F x H c a->E (.ref Ce) none c
section
variable{X:Cx}{E:St->XK}{e:Expr}{es:List Expr}{pos p kpos:Pos}{x:Str}{k n:Nat}{f C:Addr}{fd:FuncData}{ps ks ns:List Str}{kws:List QZ}
noncomputable def rN(C:Addr)(ns:List Str)(a:List D->M (List D))(g:FL)(dd:List D):FD:=λδ=>M.bind (g δ) λas=>M.bind (a (as++dd)) λfs=>M.ret (.obj C ns fs)
theorem tF{K:Frag}{y:List D->M (List D)}{F:Fx}{c:Hp}{β2:Bg}{L:St}{Q:VK}{ds:List D}{vs:List V}(fr:Fr F c β2)(N:vs.length=n)(hd:DenL K F c ds vs)(r:run (Den K F) F E L (M.bind (y ds) λfs=>M.ret (.obj C ns fs)) c Q β2):
  ∀x dx,c x=none->c dx=none->dx≠x->spI K C ns n y (.ref x::vs) (upd (upd c dx (.own x)) x (.ins C dx [])) (λv O=>v= .non/\Q (.ref x) O) (E L):=by
 intro x dx w B ne
 have G:¬F.A x:=fr.fresh w
 have same:bv c (upd (upd c dx (.own x)) x (.ins C dx [])):=λa o h=>by
  rw[upd_ne (ne_of_none h w),upd_ne (ne_of_none h B)];exact h
 have t:=fr.same same
 have H:Fr (F.but x) (upd (upd c dx (.own x)) x (.ins C dx [])) β2:=⟨λa ha z=>(by
  rcases ha with ha|ha
  ·exact t.fr.occ a ha z
  ·subst ha;rw[ai]at z;cases z),λb l q=>let ⟨z1,z2,z3⟩:=fr.bgA b l q;⟨.inl z1,.inl z2,z3⟩,t.fr.bag⟩
 have P:∀b l,F.bg=some (b,l)->x≠b/\x≠l:=λb l q=>⟨λz=>G (z▸(fr.bgA b l q).1),λz=>G (z▸(fr.bgA b l q).2.1)⟩
 have I:Tr F c (F.but x) (upd (upd c dx (.own x)) x (.ins C dx [])):=⟨λa R S z=>by
  rcases z with z|z
  ·exact R z
  ·subst z;exact S w,λa o _ h=>same a o h,rfl⟩
 obtain⟨T,d,g,h⟩:=r
 refine⟨x,vs,F.but x,ds,β2,dx,rfl,N,H,.inr rfl,P,ai,DenL.tr I _ _ hd,?_⟩
 have m:∀{i:Hp} {d:Bg},ToX (F.but x) x (upd (upd c dx (.own x)) x (.ins C dx [])) i d->To F c i d:=λ{i d} j=>⟨λa o ha n=>j.kp a o (ne_of_none ha w) (same a o ha) n,⟨λa ha=>j.fr.occ a (.inl ha),fr.bgA,j.fr.bag⟩⟩
 cases q:y ds β2 with
 |none=>unfold M.bind at g;rw[q]at g;cases g
 |some z=>
  obtain⟨r1,β1⟩:=z
  refine⟨r1,β1,rfl,?_⟩
  cases r1 with
  |error U=>
   rw[M.bind_err q]at g
   cases g
   exact λi j=>h i (m j)
  |ok fs=>
   rw[M.bind_ok q]at g
   cases g
   refine λi xs j J s u=>⟨rfl,h (.ref x) i (m j) ⟨x,dx,xs,rfl,G,J,s,DenL.tr Fx.tr_of _ _ u⟩⟩
theorem HK{l:List D->M (List D)}{g:FL}{dd:List D}(q:Mk X.K C f)(G:FnOk X.prog X.w X.K X.mg X.base (CXE X.prog X.w) k f fd ps (spI X.K C ns n l))(s:Room (k+1) X.A)(u:Gl X x)(hm:X.mg x=some (.ref C))(v:di X.K fd ps dd)(y:bD (CXE X.prog X.w) X E)
  (ha:PA X (e::es) (tVA X.K g E)) (hn:∀δ β r d,g δ β=some (.ok r,d)->r.length+dd.length=n) (a:(x==("__debug__":Str))=false:=by decide) (z:Mx (e::es) X.env=(false,eval e X.env)::Mx es X.env:=by rfl) (c:(NZ pos (Mx es X.env)).any (·.1)=false:=by rfl):
  PE X (.Call (.Name x p) (e::es) [] pos) (tV X.K (rN C ns l g dd) E):=by
 obtain⟨ds,B,b,I,rd⟩:=v
 refine(FS q G s u hm b I y ha a z c).imp λS H Q J=>ex6 J λF δ β fr L r=>⟨F,δ,β,fr,L,?_⟩
 obtain⟨r0,h,m,o⟩:=run.bind (R:=DenL X.K F) r
 refine⟨r0,h,m,?_⟩
 cases r0 with
 |error C=>exact o
 |ok as=>
  intro vs i t hd
  obtain⟨d',β1,N,j,r1⟩:=o vs i t hd
  have O:=hn _ _ _ _ m
  have P:=(rd F i).length
  exact tF N.fr (by rw[MJ,←hd.length,←P,O]) (DenL.append j (rd F i)) r1
noncomputable def ub(C:Addr)(ns:List Str)(a:List D->M (List D))(g b:FL)(src:List (Sr D)):FD:=λδ=>M.bind (g δ) λas=>M.bind (b δ) λks=>M.bind (a (as++src.map (Sr.pick .non ks))) λfs=>M.ret (.obj C ns fs)
noncomputable def HQ(C:Addr)(sp:Sp)(c:List V->List V->List V)(E:St->XK)(t d:TA):TE:=λa H Q=>t a H λvs g=>d a g λh b=>∀x dx,b x=none->b dx=none->dx≠x->
 sp (c (.ref x::vs) h) (upd (upd b dx (.own x)) x (.ins C dx [])) (λv i=>v= .non/\Q (.ref x) i) (E a)
theorem AJ{CX:CXT}{sp:Sp}{t D:TA}{g:List Mh->List Mh->List Mh}{G:List V->List V->List V}(M:Mk X.K C f)(F:FnOk X.prog X.w X.K X.mg X.base CX k f fd ps sp)(O:Room (k+1) X.A)(P:Gl X x)(hm:X.mg x=some (.ref C))(J:KBinds X.K fd ps ks g G)(R:bD CX X E)
  (ha:PA X (e::es) t) (o:PK X kws D) (i:(OK pos (NW kws X.env)).all (·.1.isSome)=true:=by rfl) (y:(OK pos (NW kws X.env)).filterMap (·.1)=ks:=by rfl)
  (z:(x==("__debug__":Str))=false:=by decide) (S:Mx (e::es) X.env=(false,eval e X.env)::Mx es X.env:=by rfl)
  (B:((NZ pos (Mx (e::es) X.env)).any (·.1)||(OK pos (NW kws X.env)).any (·.1.isNone))=false:=by rfl):
  PE X (.Call (.Name x p) (e::es) kws pos) (HQ C sp G E t D):=by
 intro a s l H Q I h
 refine Pd (h9 I P hm ?_ z)
 refine PySem.W.callWith_KW (h₀:=X.base) I.ok.mod.kin M.kp i (thn (ha pos a s l H _ I h) λus T ⟨vs,U,Y,r,q⟩=>?_) B S
 refine thn (o pos a T l U _ Y q) λd c ⟨zs,H2,j,Z,q2⟩=>⟨j.kIn,?_⟩
 rw[y]
 have L:=q2 (c.heap.objs.size+1) c.heap.objs.size (j.hok.fresh (PV _)) (j.hok.fresh (Mw _)) (M6 (Rp _))
 have m:=Inv.made (C:=C) j
 have N:=J.rel (.cons (show aC (V.ref (c.heap.objs.size+1)) (My (c.heap.objs.size+1))from rfl) r) Z
 have hl:(g (My (c.heap.objs.size+1)::us) d).length=ps.length:=by rw[←N.length];exact F.len _ _ _ _ L
 refine Qx (tH (f:=f) j.kIn M.makes M.init (beq_iff_eq.mp M.fn) (Pb (F.run _ X.stack _ _ ⟨My (c.heap.objs.size+1)::us,ks.zip d⟩ (g (My (c.heap.objs.size+1)::us) d) _ _ (E l) (O.make C us (ks.zip d))
  (m.env0.make C us (ks.zip d)) (J.to _ (My (c.heap.objs.size+1)::us) d m.kIn hl) N L) λr s' b=>?_))
 cases r with
 |error e=>exact R a l _ _ e s' m b
 |ok fl=>
  cases fl with
  |ret u=>
   obtain⟨v,H',I4,rv,ev,q4⟩:=m.after b
   subst ev
   exact⟨rv,⟨V.ref (c.heap.objs.size+1),H',I4,rfl,q4⟩⟩
  |next=>exact NQ b
  |brk=>exact NQ b
  |cont=>exact NQ b
theorem EM{B:List D->M (List D)}{g d:FL}{src:List (Sr D)}{c:Nat}(Z:Mk X.K C f)(G:FnOk X.prog X.w X.K X.mg X.base (CXE X.prog X.w) k f fd ps (spI X.K C ns n B))(hr:Room (k+1) X.A)(hg:Gl X x)(hm:X.mg x=some (.ref C))(hb:KwOk X.K fd ps ks (c+1) src)(hx:bD (CXE X.prog X.w) X E)
  (ha:PA X (e::es) (tVA X.K g E)) (h:PK X kws (tVA X.K d E)) (hn:∀δ β r a,g δ β=some (.ok r,a)->r.length=c) (i:∀δ β r a,d δ β=some (.ok r,a)->r.length=ks.length) (h3:c+src.length=n)
  (b:(OK pos (NW kws X.env)).all (·.1.isSome)=true:=by rfl) (j:(OK pos (NW kws X.env)).filterMap (·.1)=ks:=by rfl)
  (l:(x==("__debug__":Str))=false:=by decide) (he:Mx (e::es) X.env=(false,eval e X.env)::Mx es X.env:=by rfl)
  (m:((NZ pos (Mx (e::es) X.env)).any (·.1)||(OK pos (NW kws X.env)).any (·.1.isNone))=false:=by rfl):
  PE X (.Call (.Name x p) (e::es) kws pos) (tV X.K (ub C ns B g d src) E):=by
 obtain⟨sv,I,rd,kb⟩:=hb.kb
 refine(AJ Z G hr hg hm kb hx ha h b j l he m).imp λσ H Q h_=>ex6 h_ λF δ β fr J r=>⟨F,δ,β,fr,J,?_⟩
 obtain⟨r0,o,L,N⟩:=run.bind (R:=DenL X.K F) r
 refine⟨r0,o,L,?_⟩
 cases r0 with
 |error C=>exact N
 |ok as=>
  intro vs H1 t hd
  obtain⟨d',β1,q,s,r1⟩:=N vs H1 t hd
  refine⟨F,δ,β1,q.fr,J.tr (q.tr fr),?_⟩
  obtain⟨O,β2,P,S⟩:=run.bind (R:=DenL X.K F) r1
  refine⟨O,β2,P,?_⟩
  cases O with
  |error C=>exact S
  |ok bs=>
   intro u T t2 U
   obtain⟨d2,β3,W,v,r3⟩:=S u T t2 U
   have Y:=hn _ _ _ _ L
   have l2:=i _ _ _ _ P
   have z:DenL X.K F T d' vs:=DenL.tr (W.tr q.fr) _ _ s
   intro y dx
   have g1:gK V.non (c+1) ks.length I (.ref y::vs) u= .ref y::(vs++I.map (Sr.pick .non u)):=Mu ⟨by rw[MA,←hd.length,Y],by rw[←U.length,l2]⟩
   rw[g1]
   exact tF W.fr (by rw[MJ,Mj,←hd.length,Y,←rd.len,h3]) (DenL.append z (SrR.den v rd)) r3 y dx
end
noncomputable abbrev IP:=Ds->List D->Bg->Option (Except Addr (List D)×Bg)
noncomputable def DR:IP:=λ_ done β=>some (.ok done,β)
noncomputable def lV(g:G)(a:IP):IP:=λδ done β=>match g δ β with
 |some (.nx δ1,β1)=>match δ[0]?,δ1[0]? with
  |some (some (Sl.sh (D.adr x))),some (some (Sl.sh (D.adr y)))=>if x=y then a δ1 done β1 else none
  |_,_=>none
 |some (.ex C _,β1)=>some (.error C,β1)
 |_=>none
noncomputable def iW(f:FD)(a:IP):IP:=λδ done β=>match f (vw δ) β with
 |some (.ok d,β1)=>a δ (done++[d]) β1
 |some (.error C,β1)=>some (.error C,β1)
 |none=>none
structure StpX (x:Addr) (B:Ow) (H:Hp) (B':Ow) (H':Hp):Prop where
 kp:∀a o,a≠x->H a=some o->(B a=none\/B a=some 0)->H' a=some o
 tg:∀a,B a=some 0\/B a=some 1->B' a=B a
 nn:∀a o,a≠x->H a=some o->B a=none->B' a=none
 al:∀a,H a≠none->H' a≠none
theorem Stp.x{x:Addr}{B b:Ow}{H c:Hp}(s:Stp B H b c):StpX x B H b c:=⟨λa o _=>s.kp a o,s.tg,λa o _=>s.nn a o,s.al⟩
theorem StpX.trans{x:Addr}{B d f:Ow}{H g i:Hp}(a:StpX x B H d g)(b:StpX x d g f i):StpX x B H f i:=by
 refine⟨λc o ne h n=>b.kp c o ne (a.kp c o ne h n) ?_,λc h=>?_,λc o ne h n=>b.nn c o ne (a.kp c o ne h (.inl n)) (a.nn c o ne h n),λc h=>b.al c (a.al c h)⟩
 ·rcases n with n|n
  ·exact .inl (a.nn c o ne h n)
  ·exact .inr ((a.tg c (.inl n)).trans n)
 ·have e:=a.tg c h
  rw[←e]at h
  exact(b.tg c h).trans e
noncomputable def jJ(K:Frag)(bg:Option (Addr×Addr))(E:St->XK)(Dn:Ends)(B:Ow)(H:Hp)(x C dx:Addr)(all:List Str)(r:Except Addr (List D))(d:Bg):Prop:=match r with
 | .ok ds=>∀b c a vs,StpX x B H c a->Fr (FxB c bg) a d->a x=some (.ins C dx (all.zip vs))->all.length=vs.length->DenL K (FxB c bg) a ds vs->Dn.nx b a
 | .error Ce=>∀b c a,StpX x B H c a->Fr (FxB c bg) a d->E b (.ref Ce) none a
theorem jJ.pre{K:Frag}{bg:Option (Addr×Addr)}{E:St->XK}{Dn:Ends}{B e:Ow}{H f:Hp}{x C dx:Addr}{all:List Str}{r:Except Addr (List D)}{b:Bg}(s:StpX x B H e f)(h:jJ K bg E Dn B H x C dx all r b):jJ K bg E Dn e f x C dx all r b:=by
 cases r with
 |ok ds=>exact λa c d vs t=>h a c d vs (s.trans t)
 |error g=>exact λa c d t=>h a c d (s.trans t)
noncomputable def tI(K:Frag)(H₀:Hp)(C:Addr)(a names:List Str)(e:IP)(E:St->XK):TS:=λDn f H=>∃B bg δ β x dx b c r d,SOk K H₀ B bg H δ β f/\δ[0]?=some (some (.sh (.adr x)))/\B x=some 0/\H x=some (.ins C dx (a.zip b))/\a.length=b.length/\DenL K (FxB B bg) H c b/\e δ c β=some (r,d)/\jJ K bg E Dn B H x C dx (a++names) r d
theorem qq{f:Str}{y:V}:∀{ns:List Str} {vs:List V},ns.length=vs.length->f∉ns->cR f y (ns.zip vs)=(ns++[f]).zip (vs++[y])
 |[],[],_,_=>rfl
 |n::ns,v::vs,h,hf=>by
  have a:¬n=f:=λz=>hf (by rw[z];exact Mq)
  show(if n=f then(n,y)::ns.zip vs else(n,v)::cR f y (ns.zip vs))=_
  rw[Mr a,qq (by simpa using h) λz=>hf (Mo _ z)]
  rfl
 |[],_::_,h,_=>by simp at h
 |_::_,[],h,_=>by simp at h
theorem SOk.upd0{K:Frag}{H₀:Hp}{B:Ow}{bg:Option (Addr×Addr)}{H:Hp}{δ:Ds}{β:Bg}{m:St}{x:Addr}{o:HO}(ok:SOk K H₀ B bg H δ β m)(g:B x=some 0):SOk K H₀ B bg (upd H x o) δ β m/\StpX x B H B (upd H x o):=by
 have al:∀c,H c≠none->upd H x o c≠none:=λc f=>by
  by_cases z:c=x
  ·subst z;rw[ai];simp
  ·rw[upd_ne z];exact f
 have w:∀b l,bg=some (b,l)->b≠x/\l≠x:=λb l e=>by
  obtain⟨b1,b2⟩:=ok.bgt b l e
  exact⟨λz=>(by rw[z,g]at b1;cases b1),λz=>(by rw[z,g]at b2;cases b2)⟩
 have tr:Tr (FxB B bg) H (FxB B bg) (upd H x o):=⟨λ_ h _=>h,λc u f e=>by
  rw[upd_ne]
  ·exact e
  ·intro z;subst z;exact f (by show B c≠none;rw[g];simp),rfl⟩
 refine⟨⟨⟨λc f=>al c (ok.fr.occ c f),ok.fr.bgA,λb l e=>?_⟩,ok.bgt,ok.len,λc f=>al c (ok.cov c f),ok.new,λc k f=>?_,λi s e=>?_⟩,λc u ne h _=>by rw[upd_ne ne];exact h,λ_ _=>rfl,λ_ _ _ _ n=>n,al⟩
 ·obtain⟨y,A⟩:=ok.fr.bag b l e
  obtain⟨C,D⟩:=w b l e
  exact⟨by rw[upd_ne C];exact y,by rw[upd_ne D];exact A⟩
 ·obtain⟨xs,h⟩:=ok.lst c k f
  exact⟨xs,by rw[upd_ne];exact h;intro z;subst z;rw[g]at f;cases f⟩
 ·obtain⟨v,E,j⟩:=ok.tell i s e
  refine⟨v,E,?_⟩
  cases s with
  |sh d=>exact Den.tr tr _ _ j
  |own ds=>
   obtain⟨a,xs,rfl,hB,ha,hd⟩:=j
   exact⟨a,xs,rfl,hB,(by rw[upd_ne];exact ha;intro z;subst z;rw[g]at hB;cases hB),DenL.tr tr _ _ hd⟩
  |grd rows=>
   obtain⟨a,rs,rfl,hB,ha,nd,F⟩:=j
   refine⟨a,rs,rfl,hB,(by rw[upd_ne];exact ha;intro z;subst z;rw[g]at hB;cases hB),nd,RowL.tr tr F λr xs _ p q=>⟨p,?_⟩⟩
   rw[upd_ne]
   ·exact q
   ·intro z;subst z
    have t:B r=some (i+2):=p
    rw[g]at t;cases t
section
variable{X:Cx}{E:St->XK}{st:Stmt}{sts:List Stmt}{C:Addr}{ns0 names:List Str}{ip:IP}
theorem LY:PSs X [] (tI X.K X.H₀ C ns0 [] DR E):=ph.imp λDn b H c=>by
 obtain⟨B,bg,δ,β,x,dx,a,d,r,f,ok,i,j,g,h,hd,e,k⟩:=c
 cases e
 rw[M2]at k
 exact k b B H a (Stp.refl B H).x ok.fr g h hd
theorem DS{g:G}(m:PS X st (tG X.K X.H₀ g E))(n:PSs X sts (tI X.K X.H₀ C ns0 names ip E)):PSs X (st::sts) (tI X.K X.H₀ C ns0 names (lV g ip) E):=(bO m n).imp λDn v H o=>by
 obtain⟨B,bg,δ,β,x,dx,c,d,r,f,ok,p,h,q,t,hd,e,k⟩:=o
 unfold lV at e
 split at e
 ·rename_i δ1 β1 i
  split at e
  ·rename_i w y q1 q2
   split at e
   ·rename_i z
    subst z
    rw[p]at q1
    cases q1
    refine⟨B,bg,δ,β,.nx δ1,β1,ok,i,λb j l s a=>?_⟩
    exact⟨j,bg,δ1,β1,x,dx,c,d,r,f,a,q2,(s.tg x (.inl h)).trans h,s.kp x _ q (.inr h),t,DenL.tr s.tr _ _ hd,e,jJ.pre s.x k⟩
   ·cases e
  ·cases e
 ·rename_i u δ1 β1 i
  cases e
  exact⟨B,bg,δ,β,.ex u δ1,_,ok,i,λb j l s a=>k b j l s.x a.fr⟩
 ·cases e
theorem rJ{f:Str}{D:FD}(c:Cls X.K C)(n:dA X.K C f)(J:f∉ns0)(F:ns0.length<1000)(L:PS X st (Ij X.K (o6 0) (tV X.K D E) f))(M:PSs X sts (tI X.K X.H₀ C (ns0++[f]) names ip E)):PSs X (st::sts) (tI X.K X.H₀ C ns0 (f::names) (iW D ip) E):=(bO L M).imp λDn N H O=>by
 obtain⟨B,bg,δ,β,x,dx,g,p,r,q,ok,G,l,P,I,hd,e,k⟩:=O
 refine⟨FxB B bg,vw δ,β,ok.fr,ok.view,?_⟩
 unfold iW at e
 split at e
 ·rename_i d β1 s
  refine⟨.ok d,β1,s,λy m t Q=>?_⟩
  obtain⟨b,i⟩:=ok.to rfl t
  obtain⟨v,R,S⟩:=b.tell 0 _ G
  have T:v= .ref x:=S
  subst T
  have w:=i.kp x _ P (.inr l)
  refine⟨_,R,x,C,dx,_,rfl,w,c,n,?_,?_⟩
  ·rw[List.length_zip];omega
  obtain⟨A,U⟩:=b.upd0 (o:= .ins C dx (cR f y (ns0.zip g))) l
  have j:Tr (FxB B bg) m (FxB B bg) (upd m x (.ins C dx (cR f y (ns0.zip g)))):=⟨λ_ h _=>h,λa u ha e=>by
   rw[upd_ne]
   ·exact e
   ·intro z;subst z;exact ha (by show B a≠none;rw[l];simp),rfl⟩
  refine⟨B,bg,δ,β1,x,dx,g++[y],p++[d],r,q,A,G,l,by rw[ai,qq I J],by simp[I],DenL.append (DenL.tr j _ _ (DenL.tr i.tr _ _ hd)) (DenL.cons (Den.tr j _ _ Q) DenL.nil),e,?_⟩
  rw[NF]
  exact jJ.pre (i.x.trans U) k
 ·rename_i V β1 s
  cases e
  refine⟨.error V,_,s,λm t=>?_⟩
  obtain⟨b,i⟩:=ok.to rfl t
  exact k N B m i.x b.fr
 ·cases e
end
open Classical in
noncomputable def lW(m:Nat)(a:IP):List D->M (List D):=λds β=>if h:∃r,∀x,a (stD m (.adr x::ds)) [] β=some r then some h.choose else none
theorem BO{m:Nat}{a:IP}{ds:List D}{β:Bg}{r:Except Addr (List D)×Bg}(h:∀x,a (stD m (.adr x::ds)) [] β=some r):lW m a ds β=some r:=by
 have b:∃r,∀x,a (stD m (.adr x::ds)) [] β=some r:=⟨r,h⟩
 unfold lW
 rw[dif_pos b]
 have:=b.choose_spec 0
 rw[h 0]at this
 exact this.symm
theorem y9{m:Nat}{a:IP}{ds:List D}{β:Bg}{r:Except Addr (List D)×Bg}(h:lW m a ds β=some r):∀x,a (stD m (.adr x::ds)) [] β=some r:=by
 unfold lW at h
 split at h
 ·rename_i b
  have:=b.choose_spec
  cases h
  exact this
 ·cases h
section
variable{P:Program}{w:MY}{K:Frag}{mg:Str->Option Mh}{base:Heap}
theorem Hz{x d:Str}{st:Stmt}{f C:Addr}{Y:FuncData}{N L names:List Str}{k:Nat}(n m:Nat)(Z:IP)(F:FunD K x d st f Y)(S:FnScope N L (af st))(M:L.length=n+1)(O:N.length=m)
  (u:∀(j:Mh) (A:M8) (outer:List Env) (s:Ml) (H:Hp) (E:XK),Room k (A.deeper (Qu d (af st) s.heap.objs.size f j))->
   PSs (cX (CXE P w) P w K mg base N d (af st) f j A outer s H E) (cb st) (tI K H C [] names Z (λ_=>E))):FnOk P w K mg base (CXE P w) (k+1) f Y L (spI K C names n (lW m Z)):=by
 subst O
 refine F.okE S (λvs H Q E h=>?_) λj A outer s H vs Q E hr h=>?_
 ·obtain⟨y,rest,p,ds,β,dx,rfl,hl,_⟩:=h
  rw[MA,hl,M]
 obtain⟨y,rest,p,ds,β,dx,rfl,hl,fr,R,nb,hH,hd,r,g,e,h⟩:=h
 refine⟨_,u j A outer s H E hr,?_⟩
 have T:DenL K p H (.adr y::ds) (.ref y::rest):=DenL.cons rfl hd
 obtain⟨B,ok,J,h1,hn⟩:=xV (N:=N) fr T
 have hy:B y=some 0:=by
  rcases J y R with z|z
  ·exact z
  ·obtain⟨b,l,q,w⟩:=h1 y z
   obtain⟨U,V⟩:=nb b l q
   rcases w with w|w
   ·exact MM w U
   ·exact MM w V
 have D:∀{v:Ow} {i:Hp} {g:Bg},StpX y B H v i->Fr (FxB v p.bg) i g->ToX p y H i g/\Tr (FxB v p.bg) i p i:=λ{v i g} s c=>by
  have hs:∀a,p.A a->v a≠none:=λa ha=>by
   rw[s.tg a (J a ha)]
   rcases J a ha with z|z<;>rw[z]<;>simp
  refine⟨⟨λa o ne ha n=>s.kp a o ne ha ?_,λa ha=>c.occ a (hs a ha),λb l e=>fr.bgA b l e,c.bag⟩,λa ha _ z=>ha (hs a z),λ_ _ _ h=>h,rfl⟩
  cases q:B a with
  |none=>exact .inl rfl
  |some t=>
   have:=J a (hn a (by rw[q];simp))
   rcases this with z|z
   ·rw[q]at z;exact .inr z
   ·obtain⟨b,l,e,w⟩:=h1 a z
    obtain⟨U,V⟩:=n b l e
    rcases w with w|w
    ·exact MM w U
    ·exact MM w V
 refine⟨B,p.bg,stD N.length (.adr y::ds),β,y,dx,[],[],r,g,ok,rfl,hy,hH,rfl,DenL.nil,y9 e y,?_⟩
 cases r with
 |ok es=>
  intro W v i vs s c X G I
  obtain⟨t1,t2⟩:=D s c
  exact h i vs t1 X G (DenL.tr t2 _ _ I)
 |error Ce=>
  intro W v i s c
  exact h i (D s c).1
end
section
variable{X:Cx}{E:St->XK}{K:Frag}{st:Stmt}
end
section
variable{h:G}{δ:Ds}{β β1:Bg}{Q:Out->Bg->Prop}{i:Nat}{f:FD}
end
section
variable{C Ce:Addr}{m:Str}{ns:List Str}{mf:List D->M D}{mi:List D->M (List D)}{fo:FD}{g gk:FL}{dd fs as ks:List D}{src:List (Sr D)}{δ:Dn}{β β1 β2 β3:Bg}{r:Except Addr D×Bg}{d:D}{f:Str}{h:G}{Q:Out->Bg->Prop}{i:Nat}{δs:Ds}
theorem jf(a:fo δ β=some (.ok (.obj C ns fs),β1))(b:g δ β1=some (.ok as,β2))(c:mf (.obj C ns fs::(as++dd)) β2=some r)(hm:m∉ns:=by decide):fU C m mf fo g dd δ β=some r:=by
 unfold fU
 rw[M.bind_ok a]
 simp only[hm,not_false_eq_true,and_self,Na]
 rw[M.bind_ok b]
 exact c
theorem HH(a:g δ β=some (.ok as,β1))(b:mi (as++dd) β1=some (.ok fs,β2)):rN C ns mi g dd δ β=some (.ok (.obj C ns fs),β2):=by
 unfold rN
 rw[M.bind_ok a,M.bind_ok b]
 rfl
theorem vW{x:FD}(a:x δ β=some (.ok (.obj C ns fs),β1))(b:(ns.zip fs).lookup f=some d):f1 (m9 C f) x δ β=some (.ok d,β1):=by
 refine x_1 a ?_
 unfold m9
 simp only[Na]
 exact b
theorem y0{g:G}{a:IP}{δ δ1:Ds}{done:List D}{x:Addr}{r:Except Addr (List D)×Bg}(e:g δ β=some (.nx δ1,β1))(b:δ[0]?=some (some (.sh (.adr x))))(c:δ1[0]?=some (some (.sh (.adr x))))(k:a δ1 done β1=some r):lV g a δ done β=some r:=by
 unfold lV
 simp only[e,b,c,Na]
 exact k
theorem oE{f:FD}{a:IP}{δ:Ds}{done:List D}{d:D}{r:Except Addr (List D)×Bg}(e:f (vw δ) β=some (.ok d,β1))(k:a δ (done++[d]) β1=some r):iW f a δ done β=some r:=by
 unfold iW
 rw[e]
 exact k
end
noncomputable def tpA{α:Type}(d:α)(c:Nat)(rows:List (List α)):List (List α):=(Mv c).map λj=>rows.map λrow=>row.getD j d
noncomputable abbrev tp(c:Nat)(rows:LI):LI:=tpA 0 c rows
theorem uI{α:Type}{d:α}{r c:Nat}{rows:List (List α)}(h:rows.length=r):Shp c r (tpA d c rows):=⟨by simp[tpA],λrow a=>by
 obtain⟨j,_,rfl⟩:=MN.mp a
 rw[Mj,h]⟩
theorem wu{d:Int}:∀(row:List Int),(Mv row.length).map (λj=>row.getD j d)=row:=λrow=>by
 refine Vu λi=>?_
 rw[Mt]
 by_cases h:i<row.length
 ·rw[NS h]
  show some (row.getD i d)=_
  rw[Mp,Mn h];rfl
 ·rw[P6 (by simpa using h),P6 (by omega)];rfl
theorem o8{α:Type}(f g:α->Int):∀l:List α,(l.map λx=>f x+g x).sum=(l.map f).sum+(l.map g).sum
 |[]=>by simp
 |x::l=>by
  simp only[ME,MZ,o8 f g l];omega
theorem mG{α:Type}:∀l:List α,(l.map λ_=>(0:Int)).sum=0
 |[]=>rfl
 |x::l=>by simp only[ME,MZ,mG l];rfl
theorem xL{c:Nat}:∀{rows:LI},(∀row∈rows,row.length=c)->tot (tp c rows)=tot rows
 |[],_=>by
  show((tpA 0 c []).map OO).sum=0
  unfold tpA
  rw[MK]
  exact mG (Mv c)
 |row::rows,h=>by
  have ih:=xL (c:=c) (rows:=rows) λx b=>h x (Mo _ b)
  have a:=h row Mq
  unfold tot tp tpA at ih⊢
  rw[MK]at ih⊢
  have e:(λj=>(OO ((row::rows).map λrow=>row.getD j 0)))=λj=>row.getD j 0+(rows.map λrow=>row.getD j 0).sum:=by
   funext j
   rw[ME,MZ]
  show((Mv c).map λj=>(OO ((row::rows).map λrow=>row.getD j 0))).sum=_
  rw[e,o8,←a,wu,a,ME,MZ]
  congr 1
theorem Lk{c:Nat}{rows:LI}(h:∀row∈rows,∀x∈row,0<=x):∀row∈tp c rows,∀x∈row,0<=x:=λrow a x b=>by
 obtain⟨j,_,rfl⟩:=MN.mp a
 obtain⟨q,d,rfl⟩:=MN.mp b
 rw[Mp]
 cases e:q[j]? with
 |none=>exact Q8 0
 |some y=>exact h q d y (MV e)
end L2.Pu
namespace L2.Pu
open PySem PySem.Spec PyProof PyProof.Rows
section
variable{X:Cx}
end
section
variable{prog:Program}{w:MY}{A:M8}{E:Mh->Ml->Prop}{s:Ml}{l:Addr}{xs:Array (Int×Tok)}
end
section
variable{X:Cx}{K:Frag}
end
end L2.Pu
namespace L2
open PySem PySem.Spec PyProof.Rows
end L2
namespace L2.Pu
open PySem PySem.Spec PyProof.Rows
section
variable{X:Cx}{E:St->XK}{K:Frag}{elt target iter:Expr}{ifs:List Expr}{rest:List No}{scope:Scope}{pos:Pos}{Nc vars:List Str}{caps:List Nat}{g:TG}{tb:Addr->TB}
end
section
variable{X:Cx}{E:St->XK}{K:Frag}{st:Stmt}{H₀:Hp}{B:Ow}{bg:Option (Addr×Addr)}{H H':Hp}{δ:Ds}{β β':Bg}{σ:St}
end
theorem lU1{us:List Mh}(h:us.length=1):∃a0,us=[a0]:=PZ.mp h
theorem lU2{us:List Mh}(h:us.length=2):∃a0 a1,us=[a0,a1]:=by
 obtain⟨a,l,rfl⟩:=Pj h
 obtain⟨b,rfl⟩:=lU1 (us:=l) (by simpa using h)
 exact⟨_,_,rfl⟩
theorem lU3{us:List Mh}(h:us.length=3):∃a0 a1 a2,us=[a0,a1,a2]:=by
 obtain⟨a,l,rfl⟩:=Pj h
 obtain⟨b,c,rfl⟩:=lU2 (us:=l) (by simpa using h)
 exact⟨_,_,_,rfl⟩
theorem lU4{us:List Mh}(h:us.length=4):∃a0 a1 a2 a3,us=[a0,a1,a2,a3]:=by
 obtain⟨a,l,rfl⟩:=Pj h
 obtain⟨b,c,d,rfl⟩:=lU3 (us:=l) (by simpa using h)
 exact⟨_,_,_,_,rfl⟩
section
variable{X:Cx}{E:St->XK}{e e1 e2 e3 e4 e5:Expr}{es:List Expr}{pos p:Pos}{f1 f2 f3 f4 f5:FD}{g:FL}{k j n:Nat}{f:Addr}{fd:FuncData}{ps:List Str}{x:Str}{op:List D->Option D}{r:List V->Hp->VK->Prop}{id T:String}
theorem vv(i:Nat){x:Str}(b:X.N[i]?=some x:=by rfl)(c:Vis X.env.scope x:=by first|exact Os rfl|exact PH (Os rfl)|exact PH (PH rfl))(hd:(x==("__debug__":Str))=false:=by decide)
  (a:(x==("__classdict__":Str))=false:=by decide):PE X (.Name x pos) (tV X.K (ac i) E):=Lg i (pv i b c hd a)
theorem va1(a:PE X e1 (tV X.K f1 E))(b:Mx [e1] X.env=(false,eval e1 X.env)::Mx [] X.env:=by rfl):PA X [e1] (tVA X.K (aa f1 ad) E):=dB a kA b
theorem va2(a:PE X e1 (tV X.K f1 E))(b:PE X e2 (tV X.K f2 E))(c:Mx [e1,e2] X.env=(false,eval e1 X.env)::Mx [e2] X.env:=by rfl)(d:Mx [e2] X.env=(false,eval e2 X.env)::Mx [] X.env:=by rfl):PA X [e1,e2] (tVA X.K (aa f1 (aa f2 ad)) E):=dB a (va1 b d) c
theorem va3(a:PE X e1 (tV X.K f1 E))(b:PE X e2 (tV X.K f2 E))(c:PE X e3 (tV X.K f3 E))(d:Mx [e1,e2,e3] X.env=(false,eval e1 X.env)::Mx [e2,e3] X.env:=by rfl)(h:Mx [e2,e3] X.env=(false,eval e2 X.env)::Mx [e3] X.env:=by rfl)(i:Mx [e3] X.env=(false,eval e3 X.env)::Mx [] X.env:=by rfl):PA X [e1,e2,e3] (tVA X.K (aa f1 (aa f2 (aa f3 ad))) E):=dB a (va2 b c h i) d
theorem va4(a:PE X e1 (tV X.K f1 E))(b:PE X e2 (tV X.K f2 E))(c:PE X e3 (tV X.K f3 E))(d:PE X e4 (tV X.K f4 E))(h:Mx [e1,e2,e3,e4] X.env=(false,eval e1 X.env)::Mx [e2,e3,e4] X.env:=by rfl)(i:Mx [e2,e3,e4] X.env=(false,eval e2 X.env)::Mx [e3,e4] X.env:=by rfl)(l:Mx [e3,e4] X.env=(false,eval e3 X.env)::Mx [e4] X.env:=by rfl)(m:Mx [e4] X.env=(false,eval e4 X.env)::Mx [] X.env:=by rfl):PA X [e1,e2,e3,e4] (tVA X.K (aa f1 (aa f2 (aa f3 (aa f4 ad)))) E):=dB a (va3 b c d i l m) h
theorem aN0(δ:Dn)(β:Bg)(r:List D)(a:Bg)(h:ad δ β=some (.ok r,a)):r.length=0:=CI h
structure FB (P:Program) (w:MY) (K:Frag) (mg:Str->Option Mh) (base:Heap) (k:Nat) (x:Str) (f:Addr) (fd:FuncData) (ps:List Str) (n:Nat) (m:List D->M D):Prop where
 ok:FnOk P w K mg base (CXE P w) k f fd ps (spF K n m)
 m:mg x=some (.ref f)
 kp:RA K (.ref f)=true
 b:aA K fd ps []
theorem vc{m:List D->M D}(G:FB X.prog X.w X.K X.mg X.base j x f fd ps n m)(h:Room k X.A)(ha:PA X (e::es) (tVA X.K g E))(i:j<=k:=by decide)(l:bD (CXE X.prog X.w) X E:=by first|exact gf|exact dL|assumption)(o:Gl X x:=by rfl)
  (hn:∀δ β r d,g δ β=some (.ok r,d)->r.length=n:=by repeat (first|exact aN0|apply aK)) (a:(x==("__debug__":Str))=false:=by decide) (q:Mx (e::es) X.env=(false,eval e X.env)::Mx es X.env:=by rfl) (c:(NZ pos (Mx es X.env)).any (·.1)=false:=by rfl):
  PE X (.Call (.Name x p) (e::es) [] pos) (tV X.K (aq m g) E):=xF G.ok (h.mono i) o G.m G.kp G.b l ha hn a q c
theorem dR(hm:X.mg "len"=none)(ha:PA X (e::es) (tVA X.K g E))(b:Gl X "len":=by rfl)(c:Mx (e::es) X.env=(false,eval e X.env)::Mx es X.env:=by rfl)(a:(NZ pos (Mx es X.env)).any (·.1)=false:=by rfl):PE X (.Call (.Name "len" p) (e::es) [] pos) (tV X.K (ae bp g) E):=cm lw LQ b hm PySem.boot_len ha (by decide) (by decide) c a
theorem fJ(hm:X.mg "sum"=none)(ha:PA X (e::es) (tVA X.K g E))(b:Gl X "sum":=by rfl)(c:X.calm=true:=by rfl)(d:Mx (e::es) X.env=(false,eval e X.env)::Mx es X.env:=by rfl)(a:(NZ pos (Mx es X.env)).any (·.1)=false:=by rfl):PE X (.Call (.Name "sum" p) (e::es) [] pos) (tV X.K (ae bA g) E):=cm (zw c) Jc b hm PyProof.Rows.Boot.«sum» ha (by decide) (by decide) d a
theorem kB(hm:X.mg "isinstance"=none)(ha:PA X (e::es) (tVA X.K g E))(b:Gl X "isinstance":=by rfl)(c:Mx (e::es) X.env=(false,eval e X.env)::Mx es X.env:=by rfl)(a:(NZ pos (Mx es X.env)).any (·.1)=false:=by rfl):PE X (.Call (.Name "isinstance" p) (e::es) [] pos) (tV X.K (ae bR g) E):=cm zy LR b hm PyProof.Rows.Boot.«isinstance» ha (by decide) (by decide) c a
theorem cso{scope:Scope}(a vars:List Str)(caps:List Nat)(k:scope.kind= .function:=by rfl)(nd:(scope.names.map (·.1)).Nodup:=by decide +kernel)
  (fr:(scope.names.all λy=>y.2 != .free||(X.env.scope.names.lookup y.1==some .cell||X.env.scope.names.lookup y.1==some .free))=true:=by rfl) (nm:a=vars++caps.map (λj=>X.N.getD j O9):=by rfl)
  (b:(caps.all λj=>decide (j<X.N.length)&&scope.names.lookup (X.N.getD j O9)==some .free)=true:=by rfl):CmpScope X scope a vars caps:=CmpScope.ofB k nd fr nm b
theorem ndc{scope:Scope}{a:List Str}{cl:List (Str×Addr)}{C:Addr}{b:List Addr}{s:Ml}{H:Hp}(h:a.Nodup:=by decide +kernel):(aE X a scope cl C b s H).N.Nodup:=h
theorem pgN(i:Nat){x:Str}(a:X.N.Nodup)(b:X.N[i]?=some x:=by rfl)(c:Loc X.env.scope x:=by first|exact Os rfl|exact PH rfl)(d:X.fn x=true\/X.env.scope.names.lookup x=some .local:=by first|exact .inl rfl|exact .inr rfl|assumption):PG X (.Name x pos) (ef i):=u6 a b c d
theorem psS(i:Nat){x:Str}{e:Expr}{b:TE}{pos a:Pos}(c:X.N.Nodup)(d:PE X e b)(h:X.N[i]?=some x:=by rfl)(l:Loc X.env.scope x:=by first|exact Os rfl|exact PH rfl)(hs:P5 e (some (.Name x a)) pos.line X.env=pure false:=by rfl)(m:X.fn x=true\/X.env.scope.names.lookup x=some .local:=by first|exact .inl rfl|exact .inr rfl|assumption):PS X (.Assign [.Name x a] e pos) (i6 b (ef i)):=nX c h l d hs m
end
theorem bA1{Q:List Mh->Prop}(h:∀a,Q [a])(us:List Mh)(b:us.length=1):Q us:=by obtain⟨_,rfl⟩:=lU1 b;exact h _
theorem bA2{Q:List Mh->Prop}(h:∀a b,Q [a,b])(us:List Mh)(c:us.length=2):Q us:=by obtain⟨_,_,rfl⟩:=lU2 c;exact h _ _
theorem bA3{Q:List Mh->Prop}(h:∀a b c,Q [a,b,c])(us:List Mh)(d:us.length=3):Q us:=by obtain⟨_,_,_,rfl⟩:=lU3 d;exact h _ _ _
theorem bA4{Q:List Mh->Prop}(h:∀a b c d,Q [a,b,c,d])(us:List Mh)(e:us.length=4):Q us:=by obtain⟨_,_,_,_,rfl⟩:=lU4 e;exact h _ _ _ _
theorem fsc{N Q:List Str}{c:Scope}(a:c.kind= .function:=by rfl)(b:c.isCoroutine=false:=by rfl)(g:c.isGenerator=false:=by rfl)(d:N.Nodup:=by decide +kernel)(e:N.take Q.length=Q:=by rfl)(f:∀x∈Q,c.names.lookup x=some .local\/c.names.lookup x=some .cell:=by decide +kernel)(h:∀y∈c.names,y.2≠ .free:=by decide +kernel):FnScope N Q c:=⟨a,b,g,d,e,f,h⟩
end L2.Pu
namespace L2
open PySem PySem.Spec PyProof.Rows
section
variable{prog:Program}{w:MY}{A:M8}{E:Mh->Ml->Prop}{s:Ml}{K:Frag}
end
section
variable{X:Cx}
end
namespace Pu
section
variable{X:Cx}{E:St->XK}
end
end Pu
end L2
namespace L2.Pu
open PySem PySem.Spec PyProof.Rows
section
variable{X:Cx}{E:St->XK}{a b:Expr}{pos:Pos}{k:Nat}{f C:Addr}{fd:FuncData}{ps:List Str}{K:Frag}
structure IsC (K:Frag) (C:Addr):Prop where
 cl:Cls K C
 ha:Om K (.ref C) "__class__"=some (some (.builtin "object.__class__"))
 hn:specialIn K (.builtin "object.__class__") "__get__"=some (some (.builtin "getset_descriptor.__get__"))
 htk:Vg K (.builtin "object.__class__")=some true
 hm:mroIn K C (.type "object")=some true
end
section
variable{X:Cx}{E:St->XK}{a:Expr}{p1 p2 pos1 pos2:Pos}{K:Frag}
end
noncomputable def S(n:Nat)(f:Nat->Int):Int:=((Mv n).map f).sum
theorem K3(f:Nat->Int):S 0 f=0:=rfl
theorem gC(n:Nat)(f:Nat->Int):S (n+1) f=S n f+f n:=by
 unfold S
 rw[O4,M7,List.sum_append]
 simp
theorem eD{n:Nat}{f g:Nat->Int}(h:∀i<n,f i=g i):S n f=S n g:=by
 unfold S
 rw[Nk λi a=>h i (MO.mp a)]
theorem DZ(n:Nat)(f g:Nat->Int):S n (λi=>f i+g i)=S n f+S n g:=o8 f g _
theorem zI(n:Nat):S n (λ_=>0)=0:=mG _
theorem Mf(n:Nat)(f:Nat->Int):S n (λi=>-f i)=-S n f:=by
 induction n with
 |zero=>rfl
 |succ n ih=>rw[gC,gC,ih];omega
theorem K4(n m:Nat)(h:Nat->Nat->Int):S n (λi=>S m (λj=>h i j))=S m (λj=>S n (λi=>h i j)):=by
 induction n with
 |zero=>rw[K3];exact(zI m).symm
 |succ n ih=>
  rw[gC,ih,←DZ]
  exact eD λj _=>(gC n _).symm
theorem mH{g:Nat->Int}:∀{l L:List Nat},l.Sublist L->L.Nodup->(l.map g).sum=(L.map λx=>if x∈l then g x else 0).sum
 |_,_,.slnil,_=>rfl
 |l,_,.cons a (l₂:=L) h,nd=>by
  have b:=(Nd.mp nd)
  have ha:a∉l:=λz=>b.1 (h.subset z)
  rw[ME,MZ,Mr ha,mH h b.2,Pq]
 |_,_,.cons₂ a (l₁:=l) (l₂:=L) h,nd=>by
  have b:=(Nd.mp nd)
  rw[ME,ME,MZ,MZ,Mu Mq,mH h b.2]
  congr 2
  refine Nk λx d=>?_
  have c:x≠a:=λz=>b.1 (z▸d)
  by_cases q:x∈l
  ·rw[Mu q,Mu (Mo _ q)]
  ·rw[Mr q,Mr λz=>(MH.mp z).elim c q]
theorem lJ{n:Nat}{l:List Nat}{g:Nat->Int}(h:l.Sublist (Mv n)):(l.map g).sum=S n λx=>if x∈l then g x else 0:=mH h SC
theorem vx{p:Nat->Bool}{g:Nat->Int}:∀l:List Nat,((l.filter p).map g).sum=(l.map λx=>if p x=true then g x else 0).sum
 |[]=>rfl
 |x::l=>by
  rw[SB,ME,MZ,←vx l]
  by_cases q:p x=true
  ·rw[Mu q,Mu q,ME,MZ]
  ·rw[Mr q,Mr q,Pq]
noncomputable abbrev nI(l:List Nat):List Int:=l.map λ(i:Nat)=>(i:Int)
noncomputable abbrev nL(l:List Nat):D:= .lst ((nI l).map D.int)
theorem vq{i:Int}:∀xs:List Int,inB (.int i) (xs.map D.int)=decide (i∈xs)
 |[]=>rfl
 |x::xs=>by
  have ih:=vq (i:=i) xs
  unfold inB at ih⊢
  rw[ME,Qb,ih]
  show(decide (x=i)||_)=_
  rw[Qm]
  simp only[Bool.or_eq_true,Ni,MH]
  constructor
  ·rintro(h|h)
   ·exact .inl h.symm
   ·exact .inr h
  ·rintro(h|h)
   ·exact .inl h.symm
   ·exact .inr h
theorem qE:∀xs:List Int,(xs.map D.int).all de=true
 |[]=>rfl
 |_::xs=>qE xs
theorem Jm{i:Int}{xs:List Int}{neg:Bool}:inD neg (.int i) (.lst (xs.map D.int))=some (.bl (if neg then !decide (i∈xs)else decide (i∈xs))):=by
 show(if(de (.int i)&&(xs.map D.int).all de)=true then _ else _)=_
 rw[qE,Bool.and_true,Mu (show de (.int i)=true from rfl),vq]
theorem IZ{i:Nat}{l:List Nat}:((i:Int)∈nI l)↔i∈l:=by
 constructor
 ·intro h
  obtain⟨j,a,e⟩:=MN.mp h
  exact(Int.ofNat.inj e)▸a
 ·intro h
  exact MN.mpr ⟨i,h,rfl⟩
theorem tW{i:Nat}{l:List Nat}{neg:Bool}:inD neg (.int (i:Int)) (nL l)=some (.bl (if neg then !decide (i∈l)else decide (i∈l))):=by
 rw[Jm]
 simp only[IZ]
theorem ng{α:Type}{nv:Nat}{caps:List Nat}{it:FL}{tg:TgF}{tt:Dn->M Bool}{f:FD}{δ:Dn}{β:Bg}(xs:List α)(u v:α->D)(p:α->Bool)(d:it δ β=some (.ok (xs.map u),β))
  (e:∀x∈xs,∃δ1,tg (u x) (cSt nv caps δ)=some δ1/\tt δ1 β=some (.ok (p x),β)/\(p x=true->f δ1 β=some (.ok (v x),β))) (g:xs.length<=sizeLine):aI nv caps it tg tt (cEm f) δ β=some (.ok (.lst ((xs.filter p).map v)),β):=by
 refine pW d ?_ (by rw[Mj];exact MS (List.length_filter_le _ _) g)
 have gen:∀xs:List α,(∀x∈xs,∃δ1,tg (u x) (cSt nv caps δ)=some δ1/\tt δ1 β=some (.ok (p x),β)/\(p x=true->f δ1 β=some (.ok (v x),β)))->cLp tg tt (cEm f) (xs.map u) (cSt nv caps δ) β=some (.ok ((xs.filter p).map v),β):=by
  intro xs
  induction xs with
  |nil=>intro _;rfl
  |cons x xs ih=>
   intro h
   obtain⟨δ1,b,a,i⟩:=h x Mq
   have c:=ih λy j=>h y (Mo _ j)
   rw[ME,cLp,SB]
   cases q:p x with
   |true=>
    rw[q]at a
    simp only[b,M.bind,M.ret,a,cEm,i q,c,Mu,ME,NR,NA]
   |false=>
    rw[q]at a
    simp only[b,M.bind,M.ret,a,c,MD,Nh,NA]
 exact gen xs e
theorem mB:∀(n:Nat) (xs:List D),dh n xs=(Mv xs.length).map λ(i:Nat)=>D.tup [.int ((n+i:Nat):Int),xs.getD i .non]
 |n,[]=>rfl
 |n,x::xs=>by
  rw[dh,mB (n+1) xs,MA,Rt,ME,MK]
  congr 1
  refine Nk λi _=>?_
  simp only[QD]
  rw[show n+1+i=n+(i+1) by omega]
  rfl
noncomputable abbrev bI(b:LP)(i j:Nat):Int×Int:=(b.getD i []).getD j (0,0)
theorem Shp.getD{α:Type}{r c i:Nat}{m:List (List α)}(h:Shp r c m)(a:i<r):m[i]?=some (m.getD i [])/\(m.getD i []).length=c:=by
 obtain⟨row,e,l⟩:=h.at a
 have:m.getD i []=row:=by rw[Mp,e];rfl
 rw[this]
 exact⟨e,l⟩
theorem vQ{α:Type}{l:List α}{i:Nat}{d:α}(h:i<l.length):l[i]?=some (l.getD i d):=by
 rw[Mp,Mn h];rfl
theorem DP{xs:List Int}{i:Nat}(h:i<xs.length):ixD (.lst (xs.map D.int)) (.int (i:Int))=some (.int (xs.getD i 0)):=dF (by rw[Mt,vQ h];rfl)
theorem tQ{r c i j:Nat}{b:LP}(sh:Shp r c b)(a:i<r)(f:j<c):ixD (fV b) (.int (i:Int))=some (.lst ((b.getD i []).map pD))/\ixD (.lst ((b.getD i []).map pD)) (.int (j:Int))=some (pD (bI b i j)):=by
 obtain⟨e,l⟩:=sh.getD a
 refine⟨wW (by rw[Mt,e];rfl),dF ?_⟩
 rw[Mt,vQ (d:=(0,0)) (by omega)];rfl
noncomputable def oj(rs:List Int)(a:List Nat):Int:=(a.map λi=>rs.getD i 0).sum
noncomputable def d9(cs:List Int)(b:LP)(r:Nat)(a:List Nat)(j:Nat):Int:=cs.getD j 0-S r λi=>if i∈a then 0 else(bI b i j).1
noncomputable def fF(b:LP)(a:List Nat)(j:Nat):Int:=(a.map λi=>(bI b i j).2).sum
noncomputable def rC(cs:List Int)(b:LP)(r c:Nat)(a d:List Nat):Int:=S c λj=>if j∈d then d9 cs b r a j else fF b a j
noncomputable def hF(b:LP)(a c:List Nat)(i j:Nat):Int:=(if i∈a/\j∉c then(bI b i j).2 else 0)-(if i∉a/\j∈c then(bI b i j).1 else 0)
theorem FG{cs:List Int}{b:LP}{r c:Nat}{a d:List Nat}(f:a.Sublist (Mv r))(e:d.Sublist (Mv c)):
  rC cs b r c a d=oj cs d+S r λi=>S c λj=>hF b a d i j:=by
 unfold rC oj
 rw[lJ e,K4,←DZ]
 refine eD λj g=>?_
 by_cases q:j∈d
 ·rw[Mu q,Mu q]
  unfold d9
  rw[Int.sub_eq_add_neg,←Mf]
  congr 1
  refine eD λi e=>?_
  unfold hF
  by_cases z:i∈a
  ·simp[z,q]
  ·simp[z,q]
 ·rw[Mr q,Mr q,Pq]
  unfold fF
  rw[lJ f]
  refine eD λi e=>?_
  unfold hF
  by_cases z:i∈a
  ·simp[z,q]
  ·simp[z,q]
section
variable{X:Cx}{E:St->XK}{o e:Expr}{es:List Expr}{pos p apos:Pos}{x m:Str}{k n:Nat}{f C:Addr}{fd:FuncData}{ps ks ns:List Str}{kws:List QZ}{st:Stmt}{sts:List Stmt}
variable{ns0 names:List Str}{ip:IP}
end
section
variable{P:Program}{w:MY}{K:Frag}{mg:Str->Option Mh}{base:Heap}
end
section
variable{X:Cx}{E:St->XK}{o:Expr}{pos apos:Pos}{m:Str}{k:Nat}{f C:Addr}{fd:FuncData}{ps:List Str}
end
section
variable{δ:Dn}{β β1 β2:Bg}
end
end L2.Pu
namespace L2.Pu
open PySem PySem.Spec PyProof PyProof.Rows
section
variable{X:Cx}{K:Frag}
end
section
variable{X:Cx}{K:Frag}{E:St->XK}{o e:Expr}{apos cpos:Pos}
end
end L2.Pu
namespace L2.Pu
open PySem PySem.Spec PyProof.Rows
section
variable{prog:Program}{w:MY}{A:M8}{E:Mh->Ml->Prop}{s:Ml}{l:Addr}{xs:Array (Int×Tok)}
theorem zW{Q:Mh->Ml->Prop}(g:A.handled=none)(d:s.heap.IsTuple l (Ur xs))
  (h:∀h' f t',(∀b o,s.heap.get? b=some o->h'.get? b=some o)->Q (.int (preSum (numAt xs) xs.size) t') {s with heap:=h',toks:=f}):
  Mz (ML prog w) A (call (.builtin "sum") [.ref l]) Q E s:=by
 have a:l<s.heap.objs.size:=by obtain⟨_,e,_⟩:=d;exact MI e
 refine call_sum_walkG (SJ d ⟨_,_,_,_,_,_,numAt xs,rfl,Walks.tuple (A:=A.in1) g _ l (M6 a) (Ur xs),⟨⟨_,MB _ rfl,rfl,rfl⟩,d.at λo e=>Mi _ e⟩,λb c=>?_,(λ_ _=>intItems_at),λh' f t' i=>?_⟩)
 ·show b<(s.heap.push _).objs.size
  rw[Nv]
  rcases MH.mp c with rfl|c
  ·exact Rp _
  ·rcases MH.mp c with rfl|c
   ·exact Ra a
   ·cases c
 ·have:=h h' f t' λb o e=>i b o (λhm=>by
   rcases MH.mp hm with j|hm
   ·exact MM (j▸MI e) (Nf _)
   ·cases hm) (Mi _ e)
  simpa[Ur]using this
end
section
variable{X:Cx}{K:Frag}
noncomputable abbrev DF(K:Frag):List V->Hp->VK->Prop:=λxs H Q=>∃(p:Addr) (ns:List Int),xs=[.ref p]/\(SqL K H p (ns.map V.int)\/SqT K H p (ns.map V.int))/\Q (.int ns.sum) H
theorem zu(c:X.calm=true):cz X (.builtin "sum") (DF X.K):=by
 intro a s g H xs us Q I r h
 obtain⟨p,ns,rfl,b|b,q⟩:=h
 ·exact qM c a s g H _ us Q I r ⟨p,ns,rfl,b,q⟩
 ·obtain⟨u,rfl,i⟩:=jL r
  cases i
  obtain⟨its,j,pl,m⟩:=I.tuple b
  have d:=oG j
  obtain⟨xs,ex⟩:=d.allInts.items
  have f:=d.numsOf
  have k:its=(Ur xs).toList:=by rw[←ex]
  rw[k,nums_intItems]at f
  rw[ex]at pl
  refine zW (I.ok.hd c) pl λh' n t' l=>?_
  have e:preSum (numAt xs) xs.size=ns.sum:=by rw[preSum_eq,OU (by simp),f]
  rw[e]
  exact⟨.int ns.sum,H,I.kept l,⟨_,rfl⟩,q⟩
noncomputable def lI:List D->Option D
 |[.lst xs]=>(dY xs).map λns=> .int ns.sum
 |[.tup xs]=>(dY xs).map λns=> .int ns.sum
 |_=>none
theorem Jb:dQ K (DF K) lI:=λF H β Q ds d vs fr h e k=>by
 unfold lI at e
 split at e
 ·rename_i xs
  obtain⟨ns,q,rfl⟩:=Rm.mp e
  obtain⟨v,rfl,g⟩:=DenL.one h
  obtain⟨a,ys,rfl,r,b⟩:=Den.sqL g
  rw[intsOf_eq q]at b
  have c:=DenL.ints ns b
  subst c
  exact⟨a,ns,rfl,.inl r,k _ H (To.refl fr) rfl⟩
 ·rename_i xs
  obtain⟨ns,q,rfl⟩:=Rm.mp e
  obtain⟨v,rfl,g⟩:=DenL.one h
  obtain⟨a,ys,rfl,r,b⟩:=Den.sqT g
  rw[intsOf_eq q]at b
  have c:=DenL.ints ns b
  subst c
  exact⟨a,ns,rfl,.inr r,k _ H (To.refl fr) rfl⟩
 ·cases e
theorem HY(ns:List Int):lI [.lst (ns.map D.int)]=some (.int ns.sum):=dC ns
theorem HX(ns:List Int):lI [.tup (ns.map D.int)]=some (.int ns.sum):=dC ns
end
section
variable{X:Cx}{E:St->XK}{o e e1 e2:Expr}{es:List Expr}{pos p apos:Pos}{x m:Str}{k n:Nat}{f C:Addr}{fd:FuncData}{ps ks ns:List Str}{kws:List QZ}
end
noncomputable def tZ:G:=λ_ _=>none
theorem uR{X:Cx}{st:Stmt}{K:Frag}{H:Hp}{E:St->XK}:PS X st (tG K H tZ E):=λ_ _ _ _ _ _ h=>by
 obtain⟨_,_,_,_,_,_,_,e,_⟩:=h
 cases e
end L2.Pu
namespace L2.Pu
open PySem
noncomputable def facN:Nat->Nat
 |0=>1
 |n+1=>facN n*(n+1)
noncomputable def pr(l:List Nat):Nat:=l.foldr (·*·) 1
theorem Iw:pr []=1:=rfl
theorem yk(l m:List Nat):pr (l++m)=pr l*pr m:=by
 induction l with
 |nil=>simp[pr]
 |cons x l ih=>
  show x*pr (l++m)=x*pr l*pr m
  rw[ih,Ql]
theorem ES{α:Type}{l:List α}{i:Nat}{x:α}(h:l[i]?=some x):l.take (i+1)=l.take i++[x]:=by
 rw[List.take_succ,h];rfl
theorem lN{α:Type}{f:α->Nat}{l:List α}{i:Nat}{x:α}(h:l[i]?=some x):pr ((l.take (i+1)).map f)=pr ((l.take i).map f)*f x:=by
 rw[ES h,M7,yk]
 simp[pr]
theorem l3:∀n,0<facN n
 |0=>by decide
 |n+1=>Nat.mul_pos (l3 n) (by omega)
theorem BV:∀{n m:Nat},n<=m->facN n<=facN m:=by
 intro n m h
 induction h with
 |refl=>exact Mw _
 |step h ih=>exact MS ih (T9 _ (by omega))
theorem L9:facN 40<=2^160:=by decide +kernel
theorem jD{n:Nat}(h:n<=40):facN n<=2^160:=MS (BV h) L9
theorem sQ{l:List Nat}(h:∀x∈l,0<x):0<pr l:=by
 induction l with
 |nil=>decide
 |cons x l ih=>exact Nat.mul_pos (h x Mq) (ih λy a=>h y (Mo _ a))
theorem Lz{l:List Nat}{m:Nat}(h:∀x∈l,x<=2^m):pr l<=2^(m*l.length):=by
 induction l with
 |nil=>exact Nat.one_le_two_pow
 |cons x l ih=>
  show x*pr l<=_
  rw[MA,Nat.mul_succ,Ue,Nat.pow_add]
  exact Nat.mul_le_mul (h x Mq) (ih λy a=>h y (Mo _ a))
theorem f8{l:List Nat}{x:Nat}(h:x∈l):x<=l.sum:=by
 induction l with
 |nil=>cases h
 |cons y l ih=>
  rw[MZ]
  rcases MH.mp h with rfl|h
  ·omega
  ·have:=ih h;omega
theorem fQ{t m:Nat}(h:t<=2^m)(hm:m<=999):t<2^1000:=Og (MS h (RN (by decide) hm)) (Nat.pow_lt_pow_right (by decide) (by decide))
theorem tu{t n:Nat}(a:t<2^1000)(b:n<2^1000):kZ (.int (t:Int)) (.int (n:Int))=some (.int ((t*n:Nat):Int)):=by
 have c:gm (t:Int)=true:=MX (by rw[R7];exact a)
 have d:gm (n:Int)=true:=MX (by rw[R7];exact b)
 show(if(gm (t:Int)&&gm (n:Int))=true then _ else _)=_
 simp only[c,d,Q5,Na]
 rfl
theorem DW{t g:Nat}(d:0<g)(a:g<2^1000):oM (.int (t:Int)) (.int (g:Int))=some (.int ((t/g:Nat):Int)):=by
 have b:decide ((0:Int)<(g:Int))=true:=MX (by omega)
 have c:decide (((g:Int)).natAbs.log2<9000)=true:=MX (by
  rw[R7]
  have:=(Nat.log2_lt (n:=g) (k:=1000) (by omega)).mpr a
  omega)
 show(if(decide ((0:Int)<(g:Int))&&decide (((g:Int)).natAbs.log2<9000))=true then _ else _)=_
 simp only[b,c,Q5,Na]
 rfl
theorem gx(l:List Nat):(nI l).sum=((l.sum:Nat):Int):=by
 induction l with
 |nil=>rfl
 |cons x l ih=>
  show(x:Int)+(nI l).sum=_
  rw[ih,MZ,O7]
theorem ou{l:List Nat}{i:Nat}{d:D}(h:((nI l).map D.int)[i]?=some d):∃n,l[i]?=some n/\d= .int (n:Int):=by
 obtain⟨x,a,rfl⟩:=ir h
 obtain⟨n,hn,rfl⟩:=ir a
 exact⟨n,hn,rfl⟩
theorem kY(l:List Nat):((nI l).map D.int).length=l.length:=by rw[Mj,Mj]
noncomputable def Sq(l:List Nat)(d:D):Prop:=d=nL l\/d= .tup ((nI l).map D.int)
theorem Sq.seq{l:List Nat}{d:D}(h:Sq l d):dJ d=some ((nI l).map D.int):=by rcases h with rfl|rfl<;>rfl
theorem rg2'{i j:Int}(a:0<=i)(b:i<=10^9)(c:0<=j)(d:j<=10^9):i8 [.int i,.int j]=some (aP i (j-i).toNat):=by
 have q:(decide (-(2^62)<=i)&&decide (i<2^62)&&decide (-(2^62)<=j)&&decide (j<2^62))=true:=by
  simp only[MU,Ni]
  omega
 show(if(decide (-(2^62)<=i)&&decide (i<2^62)&&decide (-(2^62)<=j)&&decide (j<2^62))=true then some (aP i (j-i).toNat)else none)=_
 rw[Mu q]
theorem rg2{n:Nat}(h:n<=1000):i8 [.int 2,.int ((n:Int)+1)]=some (aP 2 (n-1)):=by
 rw[rg2' (by decide) (by decide) (by omega) (by omega),show((n:Int)+1-2).toNat=n-1 by omega]
end L2.Pu
namespace L2.Pu
theorem lB{n:Nat}{f g:Nat->Int}(h:∀i<n,f i<=g i):S n f<=S n g:=by
 induction n with
 |zero=>exact Q8 _
 |succ n ih=>
  rw[gC,gC]
  have a:=ih λi b=>h i (by omega)
  have c:=h n (by omega)
  omega
theorem Me{n i:Nat}{v:Int}(h:i<n):S n (λk=>if k=i then v else 0)=v:=by
 induction n with
 |zero=>omega
 |succ n ih=>
  rw[gC]
  by_cases q:i=n
  ·subst q
   rw[Mu rfl,eD (g:=λ_=>0) λk a=>Mr (by omega),zI,Pq]
  ·rw[Mr λz=>q z.symm,ih (by omega),Int.add_zero]
noncomputable def fl(x y:Bool)(l h:Int):Int:=(if x=true/\y=false then h else 0)-(if x=false/\y=true then l else 0)
noncomputable def slk(rs cs:Nat->Int)(lo a:Nat->Nat->Int)(r c:Nat)(X Y:Nat->Bool):Int:=
 S c (λj=>if Y j=true then cs j else 0)-S r (λi=>if X i=true then rs i else 0)+S r λi=>S c λj=>fl (X i) (Y j) (lo i j) (a i j)
section
variable{rs cs:Nat->Int}{lo hi:Nat->Nat->Int}{r c:Nat}
end
noncomputable def chF:Nat->List (List Nat)
 |0=>[[]]
 |n+1=>chF n++(chF n).map (·++[n])
theorem ic:∀(n:Nat) (l:List Nat),l∈chF n->l.Sublist (Mv n)
 |0,l,h=>by rw[Nb.mp h];exact .slnil
 |n+1,l,h=>by
  rw[O4]
  rcases NL.mp h with h|h
  ·exact(ic n l h).trans (List.sublist_append_left _ _)
  ·obtain⟨a,h',rfl⟩:=MN.mp h
   exact(ic n a h').append (List.Sublist.refl _)
theorem vM:∀n:Nat,(chF n).length=2^n
 |0=>rfl
 |n+1=>by
  rw[chF,MJ,Mj,vM n,Nat.pow_succ]
  omega
section
variable{rs cs:List Int}{b:LP}{r c:Nat}
noncomputable abbrev slB(rs cs:List Int)(b:LP)(r c:Nat)(X Y:Nat->Bool):Int:=slk (λi=>rs.getD i 0) (λj=>cs.getD j 0) (λi j=>(bI b i j).1) (λi j=>(bI b i j).2) r c X Y
theorem Ie{a d:List Nat}(e:a.Sublist (Mv r))(f:d.Sublist (Mv c)):rC cs b r c a d-oj rs a=slB rs cs b r c (λi=>decide (i∈a)) (λj=>decide (j∈d)):=by
 rw[FG e f]
 unfold oj slB slk
 rw[lJ f,lJ e]
 have h:∀(n:Nat) (l:List Nat) (g:Nat->Int),S n (λj=>if decide (j∈l)=true then g j else 0)=S n (λj=>if j∈l then g j else 0):=λn l g=>eD λj _=>by simp
 rw[h,h]
 have k:(S r λi=>S c λj=>hF b a d i j)=S r λi=>S c λj=>fl (decide (i∈a)) (decide (j∈d)) (bI b i j).1 (bI b i j).2:=by
  refine eD λi _=>eD λj _=>?_
  unfold hF fl
  simp
 simp only[k]
 omega
noncomputable def tq(cs:List Int)(b:LP)(r c:Nat)(a:List Nat):List Nat:=(Mv c).filter λj=>decide (d9 cs b r a j<fF b a j)
end
end L2.Pu
namespace L2.Pu
open PySem PySem.W
section
variable{tb:String->Option Builtin}{p:Program}{w:MY}{n₀:Nat}{ann:Option Mh}{env:Env}{q:Pos}
theorem j8(k:Nat){n N:Nat}{s s' r:Ml}{b:List Stmt}{c:Code}{pos a:Pos}(h:segRun tb p w n₀ ann 1 n s (piecesOf (b.take k) env c pos [Uw q])=some (.next,s',c,a))
  (d:topRun tb p w n₀ ann N s' (restOf (b.drop k) env c a [Uw q])=some r):topRun tb p w n₀ ann (n+N) s (restOf b env c pos [Uw q])=some r:=by
 have:=piece_app h d
 rwa[P7]at this
theorem BR{N:Nat}{s r:Ml}{b:List Stmt}{c:Code}{pos:Pos}(e:b=[])(k:topRun tb p w n₀ ann N s ⟨doneF .next,c,pos,[Uw q]⟩=some r):topRun tb p w n₀ ann N s (restOf b env c pos [Uw q])=some r:=by
 subst e
 exact piece_nil k
end
end L2.Pu
namespace L2.Hs
open PySem PySem.SetTable
noncomputable def Rs(xs:Array Nat):Prop:=∀i k x y:Nat,i<k->xs[i]?=some x->xs[k]?=some y->x<y
theorem nu{xs:Array Nat}{j:Nat}(r:Rs xs):∀(c lo d:Nat),lo<=d->d<=xs.size->d-lo<=c->(∀i x,i<lo->xs[i]?=some x->x<j)->(∀i x,d<=i->xs[i]?=some x->j<=x)->
  below.go xs j c lo d<=xs.size/\(∀i x,i<below.go xs j c lo d->xs[i]?=some x->x<j)/\∀i x,below.go xs j c lo d<=i->xs[i]?=some x->j<=x
 |0,lo,d,h1,h2,h3,a,b=>by
  have:lo=d:=by omega
  subst this
  exact⟨h2,a,b⟩
 |c+1,lo,d,h1,h2,h3,a,b=>by
  unfold below.go
  by_cases q:lo<d
  ·rw[Mu q]
   simp only
   have hm:(lo+d)/2<xs.size:=by omega
   have e:xs[(lo+d)/2]?=some (xs.getD ((lo+d)/2) j):=by simp[OF,hm]
   by_cases z:xs.getD ((lo+d)/2) j<j
   ·rw[Mu z]
    refine nu r c _ _ (by omega) h2 (by omega) (λi x g f=>?_) b
    by_cases w:i=(lo+d)/2
    ·subst w
     rw[e]at f;cases f
     exact z
    ·exact QA (r i ((lo+d)/2) x _ (by omega) f e) z
   ·rw[Mr z]
    refine nu r c _ _ (by omega) (by omega) (by omega) a (λi x g f=>?_)
    by_cases w:i=(lo+d)/2
    ·subst w
     rw[e]at f;cases f
     omega
    ·have:=r ((lo+d)/2) i _ x (by omega) e f
     omega
  ·rw[Mr q]
   have:lo=d:=by omega
   subst this
   exact⟨h2,a,b⟩
theorem iA{xs:Array Nat}{j:Nat}(r:Rs xs):below xs j<=xs.size/\(∀i x,i<below xs j->xs[i]?=some x->x<j)/\∀i x,below xs j<=i->xs[i]?=some x->j<=x:=
 nu r xs.size 0 xs.size (N2 _) (Mw _) (by omega) (λi x h=>MM h (Oo i)) (λi x h e=>by
  have:=(Nn.mp e).1
  omega)
theorem CH{xs:Array Nat}{i j:Nat}(r:Rs xs)(h:xs[i]?=some j):below xs j=i:=by
 obtain⟨c,a,b⟩:=iA (j:=j) r
 rcases Pe (below xs j) i with q|q|q
 ·have d:=(Nn.mp h).1
  have e:xs[below xs j]?=some xs[below xs j]:=getElem?_pos xs _ (by omega)
  have:=b _ _ (Mw _) e
  have:=r _ _ _ _ q e h
  omega
 ·exact q
 ·have:=a _ _ q h
  omega
theorem qi{t:SetTable}{i j:Nat}(r:Rs t.place)(h:t.place[i]?=some j):t.slot j= .live i:=by
 unfold slot
 simp only[CH r h,h,Oa,Na]
theorem wg{t:SetTable}{j:Nat}(d:t.dummies=#[])(h:∀i:Nat,t.place[i]?≠some j):t.slot j= .empty:=by
 unfold slot
 have a:(t.place[below t.place j]?==some j)=false:=by
  rw[TX];exact h _
 have b:has t.dummies j=false:=by unfold has;rw[d];rfl
 simp only[a,b,MD,Nh]
noncomputable def itr(t:SetTable):Nat->Probe->Probe
 |0,p=>p
 |n+1,p=>itr t n (t.advance p)
theorem mX(t:SetTable):∀(n:Nat) (p:Probe),itr t (n+1) p=t.advance (itr t n p)
 |0,p=>rfl
 |n+1,p=>by
  show itr t (n+1) (t.advance p)=t.advance (itr t n (t.advance p))
  exact mX t n (t.advance p)
theorem lT(t:SetTable):∀(n m:Nat) (p:Probe),itr t (n+m) p=itr t m (itr t n p)
 |0,m,p=>by rw[OG];rfl
 |n+1,m,p=>by
  rw[show n+1+m=(n+m)+1 by omega]
  exact lT t n m (t.advance p)
structure Pv (t:SetTable) (p:Probe):Prop where
 j:p.j+p.more<=t.mask
 more:p.more<=9
 i:p.i<=t.mask
 pt:p.perturb<2^64
 du:p.dummy=none
theorem qp{mask i:Nat}(h:i<=mask):i<=runEnd mask i/\runEnd mask i<=mask/\runEnd mask i-i<=9:=by
 unfold runEnd
 by_cases q:i+9<=mask
 ·rw[Mu q];omega
 ·rw[Mr q];omega
noncomputable def blk(t:SetTable)(i pt:Nat):Probe:={j:=i,more:=runEnd t.mask i-i,i,perturb:=pt,dummy:=none}
theorem oW{t:SetTable}{i pt:Nat}(h:i<=t.mask)(a:pt<2^64):Pv t (blk t i pt):=by
 obtain⟨c,d,b⟩:=qp h
 refine⟨?_,b,h,a,rfl⟩
 show i+(runEnd t.mask i-i)<=t.mask
 omega
theorem qf(t:SetTable)(h:Int):t.probeStart h=blk t (bits h % (t.mask+1)) (bits h):=rfl
theorem mh(h:Int):bits h<2^64:=by
 unfold bits
 have:=QJ h (show(0:Int)<2^64 by decide)
 have:=Qp h (show(2^64:Int)≠0 by decide)
 omega
theorem mJ(t:SetTable)(h:Int):Pv t (t.probeStart h):=by
 rw[qf]
 exact oW (by have:=Tp (bits h) (show t.mask+1>0 by omega);omega) (mh h)
noncomputable abbrev lpI(mask i pt:Nat):Nat:=(i*5+1+pt/32) % (mask+1)
theorem zH{t:SetTable}{p:Probe}(h:0<p.more):t.advance p={p with j:=p.j+1,more:=p.more-1}:=by
 unfold advance
 rw[Mu h]
theorem vS{t:SetTable}{p:Probe}(h:p.more=0)(hd:p.dummy=none):t.advance p=blk t (lpI t.mask p.i p.perturb) (p.perturb/32):=by
 unfold advance
 rw[Mr (by omega)]
 unfold leap blk
 simp only[hd]
theorem wP(mask i pt:Nat):lpI mask i pt<=mask:=by
 have:=Tp (i*5+1+pt/32) (show mask+1>0 by omega)
 unfold lpI
 omega
theorem zG{t:SetTable}{p:Probe}(v:Pv t p):Pv t (t.advance p):=by
 by_cases q:0<p.more
 ·rw[zH q]
  exact⟨by have:=v.j;show p.j+1+(p.more-1)<=t.mask;omega,by have:=v.more;show p.more-1<=9;omega,v.i,v.pt,v.du⟩
 ·rw[vS (by omega) v.du]
  exact oW (wP _ _ _) (Og (SW _ _) v.pt)
theorem la{t:SetTable}:∀(n:Nat) {p:Probe},Pv t p->Pv t (itr t n p)
 |0,_,v=>v
 |n+1,_,v=>la n (zG v)
theorem pF{t:SetTable}:∀(k:Nat) {p:Probe},Pv t p->k<=p.more->itr t k p={p with j:=p.j+k,more:=p.more-k}
 |0,p,v,h=>by cases p;rfl
 |k+1,p,v,h=>by
  rw[mX,pF k v (by omega)]
  rw[zH (show 0<p.more-k by omega)]
  simp only[Probe.mk.injEq,and_true,true_and]
  omega
theorem mY{t:SetTable}{p:Probe}(v:Pv t p):itr t (p.more+1) p=blk t (lpI t.mask p.i p.perturb) (p.perturb/32):=by
 rw[mX,pF _ v (Mw _)]
 exact vS (O0 _) v.du
noncomputable def bK(mask:Nat):Nat->Nat×Nat->Nat×Nat
 |0,x=>x
 |k+1,x=>bK mask k (lpI mask x.1 x.2,x.2/32)
theorem iK(mask:Nat):∀(k:Nat) (x:Nat×Nat),bK mask (k+1) x=(lpI mask (bK mask k x).1 (bK mask k x).2,(bK mask k x).2/32)
 |0,x=>rfl
 |k+1,x=>iK mask k _
theorem tS{t:SetTable}:∀(k:Nat) {p:Probe},Pv t p->∃n,n<=10*(k+1)/\itr t n p=blk t (bK t.mask (k+1) (p.i,p.perturb)).1 (bK t.mask (k+1) (p.i,p.perturb)).2
 |0,p,v=>⟨p.more+1,by have:=v.more;omega,mY v⟩
 |k+1,p,v=>by
  obtain⟨n,hn,e⟩:=tS k v
  have a:=la n v
  rw[e]at a
  refine⟨n+((blk t (bK t.mask (k+1) (p.i,p.perturb)).1 (bK t.mask (k+1) (p.i,p.perturb)).2).more+1),by have:=a.more;omega,?_⟩
  rw[lT,e,mY a,iK t.mask (k+1)]
  rfl
noncomputable def Mk(mask:Nat):Prop:=mask=7\/mask=31\/mask=127
noncomputable def orb(mask:Nat):Nat->Nat->Nat
 |0,i=>i
 |k+1,i=>orb mask k ((i*5+1) % (mask+1))
theorem lO(mask:Nat):∀(a b i:Nat),orb mask (a+b) i=orb mask b (orb mask a i)
 |0,b,i=>by rw[OG];rfl
 |a+1,b,i=>by
  rw[show a+1+b=(a+b)+1 by omega]
  exact lO mask a b _
noncomputable def DK(mask:Nat):Bool:=(orb mask (mask+1) 0==0)&&(Mv (mask+1)).all λj=>(Mv (mask+1)).any λk=>orb mask k 0==j
theorem IK{mask:Nat}(h:Mk mask):DK mask=true:=by
 rcases h with rfl|rfl|rfl<;>decide +kernel
theorem u8{mask i j:Nat}(h:Mk mask)(l:i<=mask)(m:j<=mask):∃k,k<=mask/\orb mask k i=j:=by
 have o:=IK h
 unfold DK at o
 rw[MU,OP,P8]at o
 obtain⟨g,ha⟩:=o
 obtain⟨a,e,c⟩:=List.any_eq_true.mp (ha i (MO.mpr (by omega)))
 obtain⟨b,f,d⟩:=List.any_eq_true.mp (ha j (MO.mpr (by omega)))
 rw[OP]at c d
 have:=MO.mp e
 have:=MO.mp f
 by_cases q:a<=b
 ·refine⟨b-a,by omega,?_⟩
  rw[←c,←lO,show a+(b-a)=b by omega,d]
 ·refine⟨b+(mask+1)-a,by omega,?_⟩
  rw[←c,←lO,show a+(b+(mask+1)-a)=(mask+1)+b by omega,lO,g,d]
theorem kP(mask:Nat):∀(k i:Nat),bK mask k (i,0)=(orb mask k i,0)
 |0,i=>rfl
 |k+1,i=>by
  show bK mask k (lpI mask i 0,0/32)=_
  rw[show(0/32:Nat)=0 from rfl,kP mask k]
  rfl
theorem mP(mask:Nat):∀(a b:Nat) (x:Nat×Nat),bK mask (a+b) x=bK mask b (bK mask a x)
 |0,b,x=>by rw[OG];rfl
 |a+1,b,x=>by
  rw[show a+1+b=(a+b)+1 by omega]
  exact mP mask a b _
theorem mM(mask:Nat):∀(k:Nat) (x:Nat×Nat),(bK mask k x).2=x.2/32^k
 |0,x=>by simp[bK]
 |k+1,x=>by
  rw[iK,mM mask k x,Uf,Nat.pow_succ]
theorem uT(mask:Nat):∀(k:Nat) (x:Nat×Nat),x.1<=mask->(bK mask k x).1<=mask
 |0,x,h=>h
 |k+1,x,h=>by rw[iK];exact wP _ _ _
theorem Md{t:SetTable}{p:Probe}{j:Nat}(h:Mk t.mask)(v:Pv t p)(a:j<=t.mask):∃n,n<10*turns t.mask/\(itr t n p).j=j:=by
 have z:(bK t.mask 13 (p.i,p.perturb)).2=0:=by
  rw[mM]
  exact Nat.div_eq_of_lt (MP v.pt (by decide))
 have l:=uT t.mask 13 (p.i,p.perturb) v.i
 obtain⟨k,c,e⟩:=u8 h l a
 obtain⟨n,hn,b⟩:=tS (12+k) v
 refine⟨n,by unfold turns;omega,?_⟩
 rw[b]
 show(bK t.mask (12+k+1) (p.i,p.perturb)).1=j
 rw[show 12+k+1=13+k by omega,mP,show bK t.mask 13 (p.i,p.perturb)=((bK t.mask 13 (p.i,p.perturb)).1,0)from P0 rfl z,kP]
 exact e
end L2.Hs
namespace L2.Hs
open PySem PySem.SetTable
noncomputable abbrev Lv(t:SetTable)(j:Nat):Prop:=∃k:Nat,t.place[k]?=some j
structure Tb (t:SetTable) (hs:List Int):Prop where
 km:Mk t.mask
 sz:t.place.size=hs.length
 rs:Rs t.place
 le:∀i j:Nat,t.place[i]?=some j->j<=t.mask
 du:t.dummies=#[]
 nf:t.place.size*5<t.mask*3
 rch:∀(i:Nat) (h:Int) (j:Nat),hs[i]?=some h->t.place[i]?=some j->∃n,(itr t n (t.probeStart h)).j=j/\∀m<n,Lv t (itr t m (t.probeStart h)).j
theorem Mk.odd{m:Nat}(h:Mk m):m % 2=1/\7<=m/\m<=127:=by
 rcases h with rfl|rfl|rfl<;>decide
theorem gap{xs:Array Nat}(r:Rs xs):∀n,n<=xs.size->(∀i:Nat,i<n->xs[i]?=some i)\/∃j,j<n/\∀i:Nat,xs[i]?≠some j
 |0,_=> .inl λi h=>MM h (Oo i)
 |n+1,h=>by
  rcases gap r n (by omega)with q|⟨j,c,b⟩
  ·have e:xs[n]?=some xs[n]:=getElem?_pos xs n (by omega)
   by_cases z:xs[n]=n
   ·refine .inl λi d=>?_
    by_cases w:i=n
    ·subst w;rw[e,z]
    ·exact q i (by omega)
   ·have lt:n<=xs[n]:=by
     cases n with
     |zero=>omega
     |succ m=>
      have:=r m (m+1) _ _ (by omega) (q m (by omega)) e
      omega
    refine .inr ⟨n,by omega,λi a=>?_⟩
    rcases Pe i n with w|w|w
    ·rw[q i w]at a;cases a;omega
    ·subst w;rw[e]at a;exact z (MQ a)
    ·have:=r n i _ _ w e a
     omega
  ·exact .inr ⟨j,by omega,b⟩
theorem Jp{xs:Array Nat}(r:Rs xs):∃j,j<=xs.size/\∀i:Nat,xs[i]?≠some j:=by
 rcases gap r xs.size (Mw _)with q|⟨j,c,a⟩
 ·refine⟨xs.size,Mw _,λi e=>?_⟩
  have b:=(Nn.mp e).1
  rw[q i b]at e
  cases e
  omega
 ·exact⟨j,by omega,a⟩
theorem DU{t:SetTable}{Vz:Nat->Int}{h:Int}(r:Rs t.place)(d:t.dummies=#[]):∀(a:Nat) (p:Probe) (e:Nat),Pv t p->e<a->¬Lv t (itr t e p).j->
  ∃m,m<=e/\(∀b<m,∃i,t.place[i]?=some (itr t b p).j/\Vz i≠h)/\
   ((¬Lv t (itr t m p).j/\probe.go t Vz h a p=some (.empty (itr t m p).j none))\/∃i,t.place[i]?=some (itr t m p).j/\Vz i=h/\probe.go t Vz h a p=some (.candidate (itr t m p).j i (itr t (m+1) p)))
 |0,_,_,_,h,_=>MM h (Oo _)
 |a+1,p,e,v,hf,he=>by
  unfold probe.go
  by_cases q:Lv t p.j
  ·obtain⟨i,c⟩:=q
   rw[qi r c]
   simp only
   by_cases z:Vz i=h
   ·refine⟨0,N2 _,λb hm=>MM hm (Oo _),.inr ⟨i,c,z,?_⟩⟩
    rw[Mu (by rw[OP];exact z)]
    rfl
   ·rw[Mr (by rw[OP];exact z)]
    cases e with
    |zero=>exact MM ⟨i,c⟩ he
    |succ e=>
     obtain⟨m,hm,ha,f⟩:=DU r d a (t.advance p) e (zG v) (by omega) he
     refine⟨m+1,by omega,λb g=>?_,f⟩
     cases b with
     |zero=>exact⟨i,c,z⟩
     |succ b=>exact ha b (by omega)
  ·rw[wg d (λi c=>q ⟨i,c⟩)]
   refine⟨0,N2 _,λb hm=>MM hm (Oo _),.inl ⟨q,?_⟩⟩
   simp only[v.du]
   rfl
theorem Tb.free{t:SetTable}{hs:List Int}(T:Tb t hs){p:Probe}(v:Pv t p):∃e,e<10*turns t.mask/\¬Lv t (itr t e p).j:=by
 obtain⟨j,f,a⟩:=Jp T.rs
 have:=T.nf
 have:=T.km.odd
 obtain⟨e,b,c⟩:=Md T.km v (show j<=t.mask by omega)
 exact⟨e,b,λ⟨k,d⟩=>a k (by rw[←c];exact d)⟩
theorem y8{α:Type}{xs:Array α}{p:Nat}{x:α}(b:p<=xs.size)(i:Nat):(insertAt xs p x)[i]?=if i<p then xs[i]? else if i=p then some x else xs[i-1]?:=by
 unfold insertAt
 rw[Array.getElem?_append]
 have a:((xs.extract 0 p).push x).size=p+1:=by simp;omega
 rw[a]
 by_cases q:i<p
 ·rw[Mu (by omega),Mu q,Uy,UJ]
  rw[Mr (by omega),TU]
  simp
  omega
 ·by_cases z:i=p
  ·subst z
   rw[Mu (by omega),Mr (by omega),Mu rfl,Uy,UJ]
   rw[Mu (by omega)]
  ·rw[Mr (by omega),Mr q,Mr z,TU]
   by_cases w:i-1<xs.size
   ·rw[Mu (by omega)]
    congr 1
    omega
   ·rw[Mr (by omega),OR (by omega)]
theorem fR{α:Type}{xs:Array α}{p:Nat}{x:α}(a:p<=xs.size):(insertAt xs p x).size=xs.size+1:=by
 unfold insertAt
 simp
 omega
theorem Tb.put{t:SetTable}{hs:List Int}(T:Tb t hs){j n:Nat}{h:Int}(A:¬Lv t j)(hn:(itr t n (t.probeStart h)).j=j)(ha:∀m<n,Lv t (itr t m (t.probeStart h)).j)(nf:(t.place.size+1)*5<t.mask*3):
  (t.put j).1.dummies=#[]/\(t.put j).1.mask=t.mask/\(t.put j).1.place.size=t.place.size+1/\(t.put j).2<=t.place.size/\Tb (t.put j).1 (hs.take (t.put j).2++h::hs.drop (t.put j).2):=by
 obtain⟨b1,b2,b3⟩:=iA (j:=j) T.rs
 have hd:has t.dummies j=false:=by unfold has;rw[T.du];rfl
 have u:(t.put j).1.dummies=#[]:=by
  show(if has t.dummies j=true then _ else t.dummies)=#[]
  rw[hd,Mr Ms,T.du]
 have ep:(t.put j).1.place=insertAt t.place (below t.place j) j:=rfl
 have g:=λi=>y8 (x:=j) b1 i
 have w:∀x,Lv t x->Lv (t.put j).1 x:=λx ⟨k,l⟩=>by
  by_cases q:k<below t.place j
  ·exact⟨k,by rw[ep,g,Mu q];exact l⟩
  ·exact⟨k+1,by rw[ep,g,Mr (by omega),Mr (by omega)];exact l⟩
 have it:∀m p,itr (t.put j).1 m p=itr t m p:=λm=>by
  induction m with
  |zero=>intro p;rfl
  |succ m ih=>intro p;exact ih (t.advance p)
 refine⟨u,rfl,by rw[ep,fR b1],b1,⟨T.km,?_,?_,?_,u,?_,?_⟩⟩
 ·rw[ep,fR b1,T.sz]
  have:(t.put j).2<=hs.length:=by rw[←T.sz];exact b1
  simp
  omega
 ·intro i k x y r c e
  rw[ep,g]at c e
  have B:∀k,t.place[k]?≠some j:=λk l=>A ⟨k,l⟩
  by_cases q1:i<below t.place j
  ·rw[Mu q1]at c
   by_cases q2:k<below t.place j
   ·rw[Mu q2]at e
    exact T.rs i k x y r c e
   ·rw[Mr q2]at e
    by_cases q3:k=below t.place j
    ·rw[Mu q3]at e;cases e
     exact b2 i x q1 c
    ·rw[Mr q3]at e
     exact T.rs i (k-1) x y (by omega) c e
  ·rw[Mr q1]at c
   rw[Mr (by omega),Mr (by omega)]at e
   by_cases q3:i=below t.place j
   ·rw[Mu q3]at c;cases c
    have F:=b3 (k-1) y (by omega) e
    have:y≠j:=λz=>B (k-1) (by rw[e,z])
    omega
   ·rw[Mr q3]at c
    exact T.rs (i-1) (k-1) x y (by omega) c e
 ·intro i x c
  rw[ep,g]at c
  by_cases q1:i<below t.place j
  ·rw[Mu q1]at c;exact T.le i x c
  ·rw[Mr q1]at c
   by_cases q3:i=below t.place j
   ·rw[Mu q3]at c;cases c
    have v:=la n (mJ t h)
    have:=v.j
    show j<=t.mask
    omega
   ·rw[Mr q3]at c;exact T.le _ x c
 ·rw[ep,fR b1];exact nf
 ·intro i h' x C c
  have G:(t.put j).2<=hs.length:=by rw[←T.sz];exact b1
  have s:(t.put j).2=below t.place j:=rfl
  rw[ep,g]at c
  have d:(if i<below t.place j then hs[i]? else if i=below t.place j then some h else hs[i-1]?)=some h':=by
   rw[←C,s]
   by_cases q1:i<below t.place j
   ·rw[Mu q1,Pr (by rw[OL];omega),TF q1]
   ·rw[Mr q1,N4 (by rw[OL];omega),OL,Nat.min_eq_left (by omega)]
    by_cases q3:i=below t.place j
    ·rw[Mu q3,q3,O0];rfl
    ·rw[Mr q3,show i-below t.place j=(i-1-below t.place j)+1 by omega,TW,U8]
     congr 1
     omega
  have f:∀o,hs[o]?=some h'->t.place[o]?=some x->∃n,(itr (t.put j).1 n ((t.put j).1.probeStart h')).j=x/\∀m<n,Lv (t.put j).1 (itr (t.put j).1 m ((t.put j).1.probeStart h')).j:=λo a b=>by
   obtain⟨D,E,s⟩:=T.rch o h' x a b
   refine⟨D,by rw[it];exact E,λm hm=>?_⟩
   rw[it]
   exact w _ (s m hm)
  by_cases q1:i<below t.place j
  ·rw[Mu q1]at c d
   exact f i d c
  ·rw[Mr q1]at c d
   by_cases q3:i=below t.place j
   ·rw[Mu q3]at c d
    cases c;cases d
    refine⟨n,by rw[it];exact hn,λm hm=>?_⟩
    rw[it]
    exact w _ (ha m hm)
   ·rw[Mr q3]at c d
    exact f (i-1) d c
end L2.Hs
namespace L2.Hs
open PySem PySem.SetTable
theorem tT{t u:SetTable}(h:t.mask=u.mask):∀(n:Nat) (p:Probe),itr t n p=itr u n p
 |0,p=>rfl
 |n+1,p=>by
  show itr t n (t.advance p)=itr u n (u.advance p)
  have:t.advance p=u.advance p:=by unfold advance;rw[h]
  rw[this];exact tT h n _
theorem we{t u:SetTable}(h:t.mask=u.mask)(x:Int):t.probeStart x=u.probeStart x:=by unfold probeStart;rw[h]
noncomputable abbrev tm(mask:Nat):SetTable:={mask,place:=#[],dummies:=#[],finger:=0,led:=true,moves:=0,plain:=true}
noncomputable abbrev fr(owner:Array (Option Nat))(j:Nat):Bool:=(owner.getD j (some 0)).isNone
theorem lY{mask:Nat}{owner:Array (Option Nat)}:∀(a i pt:Nat),i<=mask->pt<2^64->(∃b,b<a/\fr owner (bK mask b (i,pt)).1=true)->
  ∃n,layClean.free mask owner a i pt=some (itr (tm mask) n (blk (tm mask) i pt)).j/\fr owner (itr (tm mask) n (blk (tm mask) i pt)).j=true/\∀m<n,fr owner (itr (tm mask) m (blk (tm mask) i pt)).j=false
 |0,_,_,_,_,⟨b,h,_⟩=>MM h (Oo b)
 |a+1,i,pt,hi,hp,⟨b,hb,hf⟩=>by
  have v:=oW (t:=tm mask) hi hp
  obtain⟨r1,y,z⟩:=qp hi
  have g:(blk (tm mask) i pt).more=runEnd mask i-i:=rfl
  have e:∀k,k<=runEnd mask i-i->(itr (tm mask) k (blk (tm mask) i pt)).j=i+k:=λk d=>by
   rw[pF k v d];rfl
  unfold layClean.free
  split
  ·rename_i k d
   obtain⟨l,o,p⟩:=List.find?_range_eq_some.mp d
   have:=MO.mp o
   refine⟨k,by rw[e k (by omega)],by rw[e k (by omega)];exact l,λm hm=>?_⟩
   rw[e m (by omega)]
   have:=p m hm
   simpa using this
  ·rename_i d
   have hn:∀k,k<=runEnd mask i-i->fr owner (i+k)=false:=λk r=>by
    have:=List.find?_range_eq_none.mp d k (by omega)
    simpa using this
   cases b with
   |zero=>
    have s:=hn 0 (by omega)
    exact MM hf (by rw[show(bK mask 0 (i,pt)).1=i+0 from rfl,s];exact Ms)
   |succ b=>
    obtain⟨n,u,w,x⟩:=lY a (lpI mask i pt) (pt/32) (wP _ _ _) (Og (SW _ _) hp) ⟨b,by omega,hf⟩
    have c:∀m,itr (tm mask) (runEnd mask i-i+1+m) (blk (tm mask) i pt)=itr (tm mask) m (blk (tm mask) (lpI mask i pt) (pt/32)):=λm=>by
     rw[lT,←g,mY v];rfl
    refine⟨runEnd mask i-i+1+n,by rw[c];exact u,by rw[c];exact w,λm hm=>?_⟩
    by_cases q:m<=runEnd mask i-i
    ·rw[e m q];exact hn m q
    ·obtain⟨f,rfl⟩:∃f,m=runEnd mask i-i+1+f:=⟨m-(runEnd mask i-i+1),by omega⟩
     rw[c];exact x f (by omega)
structure Ow (mask:Nat) (owner:Array (Option Nat)) (hs:List Int):Prop where
 sz:owner.size=mask+1
 lt:∀j k:Nat,owner[j]?=some (some k)->k<hs.length
 un:∀j j' k:Nat,owner[j]?=some (some k)->owner[j']?=some (some k)->j=j'
 cn:owner.toList.countP (·.isSome)=hs.length
 ex:∀(k:Nat) (h:Int),hs[k]?=some h->∃j n:Nat,owner[j]?=some (some k)/\(itr (tm mask) n ((tm mask).probeStart h)).j=j/\∀m<n,∃k':Nat,owner[(itr (tm mask) m ((tm mask).probeStart h)).j]?=some (some k')
theorem xa{mask:Nat}{owner:Array (Option Nat)}(hs:owner.size=mask+1){j:Nat}(b:j<=mask):(fr owner j=true↔owner[j]?=some none)/\(fr owner j=false↔∃k:Nat,owner[j]?=some (some k)):=by
 have e:owner[j]?=some owner[j]:=getElem?_pos owner j (by omega)
 have a:owner.getD j (some 0)=owner[j]:=by simp[OF,show j<owner.size by omega]
 unfold fr
 rw[a,e]
 cases owner[j]<;>simp
theorem Ow.step{mask:Nat}{owner:Array (Option Nat)}{hs:List Int}(O:Ow mask owner hs)(h:Int)(hm:Mk mask)(M:hs.length<=mask):
  ∃j,layClean.free mask owner (turns mask) (bits h % (mask+1)) (bits h)=some j/\Ow mask (owner.setIfInBounds j (some hs.length)) (hs++[h]):=by
 have s:bits h % (mask+1)<=mask:=by have:=Tp (bits h) (show mask+1>0 by omega);omega
 have⟨u,h1,h2⟩:∃u,u<=mask/\fr owner u=true:=by
  refine SA λz=>?_
  have all:∀a∈owner.toList,Option.isSome a=true:=λa ha=>by
   obtain⟨i,g,e⟩:=RW ha
   have G:i<owner.size:=by simpa using g
   have H:fr owner i=false:=by
    cases q:fr owner i with
    |false=>rfl
    |true=>exact MM ⟨i,by have:=O.sz;omega,q⟩ z
   obtain⟨k,v⟩:=(xa O.sz (show i<=mask by have:=O.sz;omega)).2.mp H
   have:owner[i]?=some a:=by rw[←O6,Mn g,e]
   rw[this]at v
   cases v;rfl
  have:=List.countP_eq_length.mpr all
  rw[O.cn]at this
  have:=O.sz
  simp at*
  omega
 have z:(bK mask 13 (bits h % (mask+1),bits h)).2=0:=by
  rw[mM]
  exact Nat.div_eq_of_lt (MP (mh h) (by decide))
 have l:=uT mask 13 (bits h % (mask+1),bits h) s
 obtain⟨k,v,e⟩:=u8 hm l h1
 have I:fr owner (bK mask (13+k) (bits h % (mask+1),bits h)).1=true:=by
  rw[mP,show bK mask 13 (bits h % (mask+1),bits h)=((bK mask 13 (bits h % (mask+1),bits h)).1,0)from P0 rfl z,kP]
  show fr owner (orb mask k _)=true
  rw[e];exact h2
 obtain⟨n,C,D,J⟩:=lY (owner:=owner) (turns mask) (bits h % (mask+1)) (bits h) s (mh h) ⟨13+k,by unfold turns;omega,I⟩
 have E:∀m,(itr (tm mask) m (blk (tm mask) (bits h % (mask+1)) (bits h))).j<=mask:=λm=>by
  have:=(la m (oW (t:=tm mask) s (mh h))).j
  show _<=(tm mask).mask
  omega
 generalize F:(itr (tm mask) n (blk (tm mask) (bits h % (mask+1)) (bits h))).j=j at C D
 have K:j<=mask:=by rw[←F];exact E n
 have o:owner[j]?=some none:=(xa O.sz K).1.mp D
 have p:j<owner.size:=by have:=O.sz;omega
 have set:∀x:Nat,(owner.setIfInBounds j (some hs.length))[x]?=if j=x then some (some hs.length)else owner[x]?:=λx=>by
  rw[Array.getElem?_setIfInBounds]
  by_cases q:j=x
  ·rw[Mu q,Mu q,Mu p]
  ·rw[Mr q,Mr q]
 refine⟨j,C,⟨by rw[Array.size_setIfInBounds];exact O.sz,λx k c=>?_,λx y k c f=>?_,?_,λk h' d=>?_⟩⟩
 ·rw[set]at c
  rw[MJ]
  by_cases q:j=x
  ·rw[Mu q]at c;cases c;simp
  ·rw[Mr q]at c
   have:=O.lt x k c
   omega
 ·rw[set]at c f
  by_cases q:j=x
  ·rw[Mu q]at c;cases c
   by_cases r:j=y
   ·omega
   ·rw[Mr r]at f
    exact MM (O.lt y _ f) (Nf _)
  ·rw[Mr q]at c
   by_cases r:j=y
   ·rw[Mu r]at f;cases f
    exact MM (O.lt x _ c) (Nf _)
   ·rw[Mr r]at f
    exact O.un x y k c f
 ·rw[Array.toList_setIfInBounds,List.countP_set (by simpa using p),O.cn]
  have:owner.toList[j]'(by simpa using p)=none:=by
   have e:=getElem?_pos owner j p
   rw[o]at e
   rw[P9]
   exact(MQ e).symm
  rw[this]
  simp
 ·by_cases q:k<hs.length
  ·rw[Pr q]at d
   obtain⟨x,L,a1,a2,a3⟩:=O.ex k h' d
   refine⟨x,L,?_,a2,λm hm=>?_⟩
   ·rw[set,Mr (λw=>by subst w;rw[o]at a1;cases a1)];exact a1
   ·obtain⟨A,b⟩:=a3 m hm
    exact⟨A,by rw[set,Mr (λw=>by rw[←w,o]at b;cases b)];exact b⟩
  ·have B:=(MF.mp d).1
   rw[MJ,Np]at B
   have:k=hs.length:=by omega
   subst this
   rw[N4 (Mw _),O0]at d
   cases d
   refine⟨j,n,by rw[set,Mu rfl],F,λm hm=>?_⟩
   obtain⟨A,b⟩:=(xa O.sz (E m)).2.mp (J m hm)
   exact⟨A,by rw[qf,set,Mr (λw=>by rw[←w,o]at b;cases b)];exact b⟩
theorem Ow.nil(mask:Nat):Ow mask (Array.replicate (mask+1) none) []:=by
 have g:∀x:Nat,(Array.replicate (mask+1) (none:Option Nat))[x]?=if x<mask+1 then some none else none:=λx=>Array.getElem?_replicate
 refine⟨by simp,λj k h=>?_,λj b k h=>?_,by simp,λk h a=>by simp at a⟩
 ·rw[g]at h
  split at h<;>cases h
 ·rw[g]at h
  split at h<;>cases h
theorem tM{mask:Nat}(hm:Mk mask):∀(l:List Int) (owner:Array (Option Nat)) (hs:List Int),Ow mask owner hs->hs.length+l.length<=mask+1->∃a,l.foldl (λ(acc:Option (Array (Option Nat)×Nat)) h=>do
   let (owner,k) ←acc
   let j ←layClean.free mask owner (turns mask) (bits h % (mask+1)) (bits h)
   pure (owner.setIfInBounds j (some k),k+1)) (some (owner,hs.length))=some (a,hs.length+l.length)/\Ow mask a (hs++l)
 |[],owner,hs,O,_=>⟨owner,rfl,by rw[M2];exact O⟩
 |h::l,owner,hs,O,hl=>by
  rw[MA]at hl
  obtain⟨j,e,d⟩:=O.step h hm (by omega)
  obtain⟨f,b,c⟩:=tM hm l _ (hs++[h]) d (by rw[MJ,Np];omega)
  refine⟨f,?_,by rw[NF]at c;exact c⟩
  rw[List.foldl_cons]
  simp only[Option.bind_eq_bind,Nz,e]
  rw[MJ,Np]at b
  rw[MA,show hs.length+(l.length+1)=hs.length+1+l.length by omega]
  exact b
theorem Ja{mask:Nat}(hm:Mk mask)(hs:Array Int)(b:hs.size<=mask+1):∃owner,layClean mask hs=some owner/\Ow mask owner hs.toList:=by
 obtain⟨o,e,O⟩:=tM hm hs.toList _ [] (Ow.nil mask) (by simpa using b)
 refine⟨o,?_,O⟩
 unfold layClean
 rw[←Array.foldl_toList]
 have a:=e
 simp only[On]at a
 exact(Nq (Option.map (·.1)) a).trans rfl
end L2.Hs
namespace L2.Hs
open PySem PySem.SetTable
theorem t7{α β:Type}{f:α->Option β}{g:α->β}:∀{l:List α},(∀a∈l,f a=some (g a))->l.filterMap f=l.map g
 |[],_=>rfl
 |a::l,h=>by
  rw[NN,h a Mq,ME,t7 λb c=>h b (Mo a c)]
noncomputable def bH(mask:Nat)(owner:Array (Option Nat)):List (Nat×Nat):=(Mv (mask+1)).filterMap λj=>(owner.getD j none).map (j,·)
theorem BA{mask:Nat}{owner:Array (Option Nat)}(hs:owner.size=mask+1){j k:Nat}:(j,k)∈bH mask owner↔owner[j]?=some (some k):=by
 unfold bH
 rw[QE]
 constructor
 ·rintro⟨x,c,e⟩
  have d:=MO.mp c
  have a:owner.getD x none=owner[x]:=by simp[OF,show x<owner.size by omega]
  rw[a]at e
  cases q:owner[x]with
  |none=>rw[q]at e;cases e
  |some f=>
   rw[q]at e
   simp only[Nu,TH,Prod.mk.injEq]at e
   obtain⟨rfl,rfl⟩:=e
   rw[getElem?_pos owner x (by omega),q]
 ·intro e
  have b:=(Nn.mp e).1
  refine⟨j,MO.mpr (by omega),?_⟩
  have a:owner.getD j none=owner[j]:=by simp[OF,b]
  rw[getElem?_pos owner j b]at e
  rw[a,MQ e]
  rfl
theorem yQ(mask:Nat)(owner:Array (Option Nat)):(bH mask owner).Pairwise λa b=>a.1<b.1:=by
 unfold bH
 refine List.Pairwise.filterMap _ (λa f h b d g c=>?_) List.pairwise_lt_range
 cases q:owner.getD a none with
 |none=>rw[q]at d;cases d
 |some k=>
  rw[q]at d
  cases e:owner.getD f none with
  |none=>rw[e]at c;cases c
  |some i=>
   rw[e]at c
   cases d;cases c
   exact h
theorem yf{t:SetTable}{hs:Array Int}{wanted:Nat}(hm:Mk (sizeAbove wanted-1))(nf:hs.size*5<(sizeAbove wanted-1)*3):
  ∃(t':SetTable) (c:Array Nat),t.relaid hs wanted=some (t',c)/\c.toList.Perm (Mv hs.size)/\Tb t' (c.toList.map λk=>hs.getD k 0)/\t'.led=t.led/\t'.plain=t.plain:=by
 have V:=hm.odd
 obtain⟨owner,e,O⟩:=Ja hm hs (by omega)
 generalize I:sizeAbove wanted-1=mask at*
 have d:hs.toList.length=hs.size:=by simp
 have f:=yQ mask owner
 have g:∀{j k:Nat},(j,k)∈bH mask owner↔owner[j]?=some (some k):=BA O.sz
 have J:t.relaid hs wanted=some ({mask,place:=((bH mask owner).map (·.1)).toArray,dummies:=#[],finger:=t.finger,led:=t.led,moves:=t.movedTo mask,plain:=t.plain},((bH mask owner).map (·.2)).toArray):=by
  unfold relaid laid
  rw[I,e]
  rfl
 have perm:((bH mask owner).map (·.2)).Perm (Mv hs.size):=by
  refine(List.perm_ext_iff_of_nodup ?_ SC).mpr λk=>?_
  ·unfold List.Nodup
   rw[Q0]
   refine List.Pairwise.imp_of_mem (R:=λa b=>a.1<b.1) (λ{a b} ha w h z=>?_) f
   obtain⟨j,k⟩:=a
   obtain⟨r,s⟩:=b
   have K:k=s:=z
   subst K
   have:=O.un j r k (g.mp ha) (g.mp w)
   have h':j<r:=h
   omega
  ·rw[MN,MO]
   constructor
   ·rintro⟨⟨j,s⟩,h,rfl⟩
    have:=O.lt j s (g.mp h)
    rwa[d]at this
   ·intro v
    obtain⟨j,n,A,_⟩:=O.ex k _ (Mn (by rw[d];exact v))
    exact⟨(j,k),g.mpr A,rfl⟩
 have l:(bH mask owner).length=hs.size:=by
  have:=perm.length_eq
  rwa[Mj,MR]at this
 refine⟨_,_,J,by simpa using perm,?_,rfl,rfl⟩
 have pg:∀{i:Nat} {x:Nat},(((bH mask owner).map (·.1)).toArray)[i]?=some x->∃k,(bH mask owner)[i]?=some (x,k):=λ{i x} h=>by
  rw[RE,Mt]at h
  cases q:(bH mask owner)[i]? with
  |none=>rw[q]at h;cases h
  |some a=>
   rw[q]at h
   cases h
   exact⟨a.2,rfl⟩
 have B:∀{j k:Nat},owner[j]?=some (some k)->∃i:Nat,(((bH mask owner).map (·.1)).toArray)[i]?=some j:=λ{j k} h=>by
  obtain⟨i,L,M⟩:=RW (g.mpr h)
  exact⟨i,by rw[RE,Mt,Mn L,M];rfl⟩
 refine⟨hm,?_,?_,?_,rfl,?_,?_⟩
 ·show(((bH mask owner).map (·.1)).toArray).size=_
  simp
 ·intro i k x y C N P
  obtain⟨a,ha⟩:=pg N
  obtain⟨b,w⟩:=pg P
  obtain⟨A,D⟩:=MF.mp ha
  obtain⟨Q,S⟩:=MF.mp w
  have:=OA.mp f i k A Q C
  rw[D,S]at this
  exact this
 ·intro i j h
  obtain⟨a,ha⟩:=pg h
  have:=(Nn.mp (g.mp (MV ha))).1
  have:=O.sz
  show j<=mask
  omega
 ·show(((bH mask owner).map (·.1)).toArray).size*5<mask*3
  have:(((bH mask owner).map (·.1)).toArray).size=hs.size:=by simp[l]
  omega
 ·intro i h j E T
  obtain⟨k,v⟩:=pg T
  have o:=g.mp (MV v)
  have U:hs.toList[k]?=some h:=by
   rw[Mt]at E
   have D:((bH mask owner).map (·.2)).toArray.toList[i]?=some k:=by
    show((bH mask owner).map (·.2))[i]?=_
    rw[Mt,v];rfl
   rw[D]at E
   have G:k<hs.size:=by have:=O.lt j k o;rwa[d]at this
   have:hs.getD k 0=h:=MQ E
   rw[O6,getElem?_pos hs k G,←this]
   simp[OF,G]
  obtain⟨r,n,a1,a2,a3⟩:=O.ex k h U
  have:=O.un j r k o a1
  subst this
  have tr:∀(u:SetTable),u.mask=mask->∀m,itr u m (u.probeStart h)=itr (tm mask) m ((tm mask).probeStart h):=λu H m=>by
   rw[we (u:=tm mask) H,tT (u:=tm mask) H]
  refine⟨n,by rw[tr _ rfl];exact a2,λm F=>?_⟩
  rw[tr _ rfl]
  obtain⟨s,p⟩:=a3 m F
  exact B p
end L2.Hs
namespace L2.Hs
open PySem PySem.SetTable
theorem qr{t:SetTable}{hs:List Int}{f:Nat->Int}{h:Int}{p:Probe}{r:Option Met}(a:t.probe f h p=r)(T:Tb t hs)(v:Pv t p){e:Nat}(b:e<10*turns t.mask)(c:¬Lv t (itr t e p).j):
  ∃m,m<=e/\(∀d<m,∃i,t.place[i]?=some (itr t d p).j/\f i≠h)/\
   ((¬Lv t (itr t m p).j/\r=some (.empty (itr t m p).j none))\/∃i,t.place[i]?=some (itr t m p).j/\f i=h/\r=some (.candidate (itr t m p).j i (itr t (m+1) p))):=by
 subst a
 exact DU T.rs T.du _ p e v b c
section
variable{prog:Program}{w:MY}{A:M8}{E:Mh->Ml->Prop}{s:Ml}
noncomputable abbrev IKd(prog:Program)(w:MY):HeapKind prog w (List Int):=tupleKind (Ru prog w)
noncomputable abbrev hsh(prog:Program)(w:MY)(k:List Int):Int:=(IKd prog w).hash k
theorem Tb.fits{t:SetTable}{hs:List Int}{n:Nat}(T:Tb t hs)(hn:hs.length=n):t.fits n=true:=by
 have:=T.nf
 have:=T.sz
 have:=T.km.odd
 unfold SS SetTable.fill
 rw[T.du]
 simp
 omega
theorem items_int{ks:List Int}{vs:List Mh}(h:ItemsAre (Ru prog w) ks vs):∀v∈vs,∃n t,v=O5 n t:=by
 induction h with
 |nil=>intro v a;cases a
 |@cons k v' ks vs h1 _ ih=>
  intro v a
  rcases MH.mp a with rfl|a
  ·obtain⟨t,e⟩:=QV h1
   exact⟨_,t,e⟩
  ·exact ih v a
theorem xI{M:Ud}{a:Addr}{o:Obj}{Q:Mh->Ml->Prop}(b:s.heap.get? a=some o)(h:Q o.cls s):Mz M A (typeOf (.ref a)) Q E s:=by
 show Mz M A (loadPart a _>>=_) Q E s
 exact on (Ux b (Mg h))
theorem sZ{x:Addr}{k:List Int}(f:(IKd prog w).is s.heap k x){Q:Bool->Ml->Prop}(h:Q false s):Mz (ML prog w) A (S8 8 (.ref x)) Q E s:=by
 obtain⟨o,b,n,e,g,hd,i⟩:=f
 unfold S8
 refine on (xI e ?_)
 rw[g]
 simp only[Oa,Na]
 refine on (Mg ?_)
 simp only[NE,MD,Nh]
 refine on (N0 e hd ?_)
 refine on ?_
 show Mz _ _ (forIn b _ _) _ _ s
 rw[←PL]
 refine RH _ (λrest r s'=>r.1=none/\s'=s/\∀v∈rest,∃n t,v=O5 n t) _ ?_ ?_ _ _ ⟨rfl,rfl,items_int i⟩
 ·rintro v rest r s' ⟨c,rfl,a⟩
  obtain⟨n,t,rfl⟩:=a v Mq
  unfold S8
  refine on (Mg ?_)
  simp only[MD,Nh]
  exact Mg ⟨rfl,rfl,λu d=>a u (Mo _ d)⟩
 ·rintro⟨r1,j⟩ s' ⟨c,rfl,_⟩
  simp only at c
  subst c
  exact Mg h
theorem CD{x:Addr}{k:List Int}(e:(IKd prog w).is s.heap k x){Q:Bool->Ml->Prop}(h:Q true s):Mz (ML prog w) A (hashByValue 8 (.ref x)) Q E s:=by
 have f:=TV (s:=s) e
 obtain⟨o,b,n,g,j,hd,i⟩:=e
 unfold hashByValue
 refine on (Pf f F.slot_tuple_hash.lookup ?_)
 simp only
 refine on (N0 g hd ?_)
 refine on ?_
 show Mz _ _ (forIn b _ _) _ _ s
 rw[←PL]
 refine RH _ (λrest r s'=>r.1=none/\s'=s/\∀v∈rest,∃n t,v=O5 n t) _ ?_ ?_ _ _ ⟨rfl,rfl,items_int i⟩
 ·rintro v rest r s' ⟨c,rfl,a⟩
  obtain⟨n,t,rfl⟩:=a v Mq
  unfold hashByValue
  refine on (Mg ?_)
  simp only[NE,MD,Nh]
  exact Mg ⟨rfl,rfl,λu d=>a u (Mo _ d)⟩
 ·rintro⟨r1,l⟩ s' ⟨c,rfl,_⟩
  simp only at c
  subst c
  exact Mg h
theorem GH{x:Addr}{k:List Int}(f:(IKd prog w).is s.heap k x):∀(l:List (List Int×Addr)) {Q:Bool->Ml->Prop},(∀y∈l,(IKd prog w).is s.heap y.1 y.2)->Q false s->Mz (ML prog w) A (Ta (.ref x) (l.map λy=>My y.2)) Q E s:=by
 intro l Q h i
 unfold Ta
 refine on ?_
 refine RH _ (λrest r s'=>r.1=none/\s'=s/\∃b:List (List Int×Addr),rest=b.map (λy=>My y.2)/\∀y∈b,(IKd prog w).is s.heap y.1 y.2) _ ?_ ?_ _ _ ⟨rfl,rfl,l,rfl,h⟩
 ·rintro v rest r s' ⟨d,rfl,b,e,a⟩
  cases b with
  |nil=>cases e
  |cons y b=>
   cases e
   have g:=a y Mq
   have nxt:(none:Option Bool)=none/\s'=s'/\∃c:List (List Int×Addr),b.map (λy=>My y.2)=c.map (λy=>My y.2)/\∀y∈c,(IKd prog w).is s'.heap y.1 y.2:=⟨rfl,rfl,b,rfl,λu j=>a u (Mo y j)⟩
   by_cases q:x==y.2
   ·simp only[q,Bool.true_or,Na]
    exact Mg nxt
   ·simp only[q,Bool.false_or,carriedByValue,Te,MD,Nh]
    refine on ((IKd prog w).quiet f ?_)
    simp only[NE,MD,Nh]
    refine on ((IKd prog w).quiet g ?_)
    simp only[NE,MD,Nh]
    refine on (sZ f ?_)
    simp only[MD,Nh]
    refine on (sZ g ?_)
    simp only[MD,Nh]
    exact Mg nxt
 ·rintro⟨r1,m⟩ s' ⟨d,rfl,_⟩
  simp only at d
  subst d
  exact Mg i
theorem xZ{a b:Addr}{o:Obj}{es:Array (Int×Mh)}{ep:Nat}{t:SetTable}{xs:List (List Int×Addr)}{k:List Int}{Q:SetFound->Ml->Prop}(hu:A.units<cLine)(ho:s.heap.get? a=some o)(hd:o.data= .set es ep t)
  (F:es.toList=xs.map λx=>(hsh prog w x.1,My x.2)) (hx:∀x∈xs,(IKd prog w).is s.heap x.1 x.2) (T:Tb t (xs.map λx=>hsh prog w x.1)) (hk:(IKd prog w).is s.heap k b)
  {e:Nat} (he:e<10*turns t.mask) (M:¬Lv t (itr t e (t.probeStart (hsh prog w k))).j) (ha:∀m<e,Lv t (itr t m (t.probeStart (hsh prog w k))).j)
  (q1:k∈xs.map (·.1)->Q (.there none) s) (q2:k∉xs.map (·.1)->Q (.free (itr t e (t.probeStart (hsh prog w k))).j false) s):
  ∀(n c m:Nat) (st:Option Probe),e=m+n->n<c->st.getD (t.probeStart (hsh prog w k))=itr t m (t.probeStart (hsh prog w k))->(∀g<m,∀(i:Nat) x,t.place[i]?=some (itr t g (t.probeStart (hsh prog w k))).j->xs[i]?=some x->x.1≠k)->
   Mz (ML prog w) A (setSearchFrom a (.ref b) (hsh prog w k) true c st) Q E s:=by
 have Z:es.size=xs.length:=by rw[←M0,F,Mj]
 have N:t.fits es.size=true:=T.fits (by rw[Mj,Z])
 have l:∀i:Nat,es[i]?=(xs[i]?).map λx=>(hsh prog w x.1,My x.2):=λi=>by rw[←O6,F,Mt]
 have gw:t.gaveWay=false:=by
  have:=T.km.odd
  unfold SetTable.gaveWay
  rw[TX]
  omega
 intro n
 induction n using Nat.strongRecOn with
 |_ n ih=>
  intro c m st X hfu hst p
  cases c with
  |zero=>omega
  |succ c=>
   unfold setSearchFrom
   refine on (NX ho hd N ?_)
   dsimp only
   rw[hst,gw]
   simp only[MD,Nh]
   have v:=la m (mJ t (hsh prog w k))
   have it:∀Y,itr t Y (itr t m (t.probeStart (hsh prog w k)))=itr t (m+Y) (t.probeStart (hsh prog w k)):=λY=>(lT t m Y _).symm
   have same:∀{i K j:Nat},t.place[i]?=some j->t.place[K]?=some j->i=K:=λ{i K j} u C=>by
    rcases Pe i K with q|q|q
    ·exact MM (T.rs i K j j q u C) (Nf j)
    ·exact q
    ·exact MM (T.rs K i j j q C u) (Nf j)
   split
   ·rename_i O heq
    obtain⟨g,hm',r,d⟩:=qr heq T v (e:=n) (by omega) (by rw[it,←X];exact M)
    rcases d with⟨P,G⟩|⟨i,L,hfi,G⟩
    ·cases G
     have R:g=n:=by
      rcases Sx g n with q|q
      ·rw[it]at P
       exact MM (ha (m+g) (by omega)) P
      ·omega
     subst R
     refine Mg ?_
     rw[it,←X]
     refine q2 λS=>?_
     obtain⟨x,hx1,H⟩:=MN.mp S
     obtain⟨B,hi0,ei0⟩:=RW hx1
     have h:xs[B]?=some x:=by rw[Mn hi0,ei0]
     have I:B<t.place.size:=by have:=T.sz;rw[Mj]at this;omega
     obtain⟨D,a1,a2⟩:=T.rch B (hsh prog w k) t.place[B] (by rw[Mt,h,←H];rfl) (getElem?_pos t.place B I)
     have hlt:D<e:=by
      rcases Pe D e with q|q|q
      ·exact q
      ·subst q
       exact MM ⟨B,by rw[a1];exact getElem?_pos t.place B I⟩ M
      ·exact MM (a2 e q) M
     have U:t.place[B]?=some (itr t D (t.probeStart (hsh prog w k))).j:=by rw[a1];exact getElem?_pos t.place B I
     by_cases q:D<m
     ·exact p D q B x U h H
     ·obtain⟨i,u,C⟩:=r (D-m) (by omega)
      rw[it,show m+(D-m)=D by omega]at u
      have:=same u U
      subst this
      refine C ?_
      show(es[i]?.map (·.1)).getD 0=_
      rw[l,h,←H];rfl
    ·cases G
     have J:i<xs.length:=by
      have u:=(Nn.mp L).1
      have:=T.sz
      rw[Mj]at this
      omega
     have h:xs[i]?=some xs[i]:=Mn J
     have V:es[i]?=some (hsh prog w xs[i].1,My xs[i].2):=by rw[l,h];rfl
     have hxk:=hx xs[i] (NB J)
     rw[it]at L
     simp only
     have el:(Qk (λx=>x.snd) (Array.filter (λx=>x.fst==hsh prog w k) es).toList)=(xs.filter λy=>hsh prog w y.1==hsh prog w k).map λy=>My y.2:=by
      rw[Array.toList_filter,F,List.filter_map,MK]
      rfl
     rw[el]
     have W:∀{Q':Bool->Ml->Prop},Q' false s->Mz (ML prog w) A (Ta (.ref b) ((xs.filter λy=>hsh prog w y.1==hsh prog w k).map λy=>My y.2)) Q' E s:=λhq=>GH hk _ (λy hy=>hx y (SO.mp hy).1) hq
     have sm:t.sameMemory t.moves t.mask=some true:=by unfold sameMemory;simp
     have sl:t.slot (itr t (m+g) (t.probeStart (hsh prog w k))).j= .live i:=qi T.rs L
     cases hled:t.led
     all_goals simp only[Ov,NE,MD,Na,Nh,it,V]
     all_goals try refine on (W ?_)
     all_goals try simp only[MD,Nh]
     all_goals
      refine on (NI ((IKd prog w).eqBool hu hxk hk (on (NX ho hd N ?_))))
      simp only[Tx]
      by_cases q:xs[i].1=k
      ·rw[Mu (MX q)]
       exact Mg (q1 (MN.mpr ⟨xs[i],NB J,q⟩))
      ·rw[Mr (by simpa using q)]
       simp only[sm,Na,sl,V]
       refine on ?_
       unfold isSame
       simp only[Oa,Na]
       refine Mg (on (Mg ?_))
       simp only[Na]
       rw[Mr (by simpa using q)]
       have R:g<n:=by
        rcases Sx g n with z|z
        ·exact z
        ·obtain rfl:g=n:=by omega
         rw[←X]at L
         exact MM ⟨i,L⟩ M
       refine ih (n-(g+1)) (by omega) c (m+g+1) _ (by omega) (by omega) rfl λm2 hm2 i2 x2 u C z=>?_
       by_cases q1:m2<m
       ·exact p m2 q1 i2 x2 u C z
       ·by_cases q2:m2=m+g
        ·subst q2
         have:=same L u
         subst this
         rw[h]at C
         cases C
         exact q z
        ·obtain⟨i3,h3,h4⟩:=r (m2-m) (by omega)
         rw[it,show m+(m2-m)=m2 by omega]at h3
         have:=same h3 u
         subst this
         refine h4 ?_
         show(es[i3]?.map (·.1)).getD 0=_
         rw[l,C,←z];rfl
   ·rename_i hno
    have key:∀f:Nat->Int,(∀O,t.probe f (hsh prog w k) (itr t m (t.probeStart (hsh prog w k)))=some O->False)->False:=λf N=>by
     obtain⟨g,hm',r,d⟩:=qr (f:=f) rfl T v (e:=n) (by omega) (by rw[it,←X];exact M)
     rcases d with⟨_,G⟩|⟨i,_,_,G⟩
     ·exact N _ G
     ·exact N _ G
    exact(key _ hno).elim
end
end L2.Hs
namespace L2.Hs
open PySem PySem.SetTable
theorem LM{P:Nat->Prop}:∀n,P n->∃m,m<=n/\P m/\∀k<m,¬P k:=by
 intro n
 induction n using Nat.strongRecOn with
 |_ n ih=>
  intro h
  by_cases q:∃k,k<n/\P k
  ·obtain⟨k,a,b⟩:=q
   obtain⟨m,d,c⟩:=ih k a b
   exact⟨m,by omega,c⟩
  ·exact⟨n,Mw n,h,λk a b=>q ⟨k,a,b⟩⟩
section
variable{prog:Program}{w:MY}{A:M8}{E:Mh->Ml->Prop}{s:Ml}
noncomputable def p6(prog:Program)(w:MY)(h:Heap)(a:Addr)(xs:List (List Int×Addr)):Prop:=
 ∃o es ep t,h.get? a=some o/\o.ExactSet/\o.data= .set es ep t/\(es.toList=xs.map λx=>(hsh prog w x.1,My x.2))/\(xs.map (·.1)).Nodup/\(∀x∈xs,(IKd prog w).is h x.1 x.2)/\(Tb t (xs.map λx=>hsh prog w x.1))/\t.plain=true/\t.led=!(w.params.followText "set-order")
theorem ny{h h':Heap}{a b:Addr}{o:Obj}{es ep t}{k:List Int}(x:(IKd prog w).is h k b)(i:h.get? a=some o)(hd:o.data= .set es ep t)(hs:MT a h h'):(IKd prog w).is h' k b:=by
 obtain⟨g,c,n,e,j,d,l⟩:=x
 have f:b≠a:=by
  rintro rfl
  obtain rfl:g=o:=MQ (e.symm.trans i)
  rw[hd]at d;exact nomatch d
 exact⟨g,c,n,(hs.2 b f).trans e,j,d,l⟩
theorem qe{h:Heap}{a:Addr}{o:Obj}{es:Array (Int×Mh)}{ep:Nat}{t:SetTable}(c:h.get? a=some o)(hd:o.data= .set es ep t)(b:Array (Int×Mh))(t':SetTable):(h.update a (Rz b t')).get? a=some {o with data:= .set b (ep+1) t'}:=by
 have:=N8 (Rz b t') c (by rw[putSet_of b t' hd];rfl)
 rw[putSet_of b t' hd]at this;exact this
theorem Ir{t:SetTable}{hs:List Int}(T:Tb t hs)(j:Nat):(t.put j).1.dummies=#[]/\(t.put j).1.place.size=t.place.size+1/\(t.put j).2<=t.place.size:=by
 obtain⟨b1,b2,b3⟩:=iA (j:=j) T.rs
 have hd:has t.dummies j=false:=by unfold has;rw[T.du];rfl
 refine⟨?_,fR b1,b1⟩
 show(if has t.dummies j=true then _ else t.dummies)=#[]
 rw[hd,Mr Ms,T.du]
theorem GW{α β:Type}{xs:List α}{ys:Array β}{f:α->β}(e:ys.toList=xs.map f){p:Nat}(c:p<=ys.size)(x:α):(insertAt ys p (f x)).toList=(xs.take p++x::xs.drop p).map f:=by
 unfold insertAt
 simp only[Array.toList_append,U5,Array.toList_extract]
 have a:(ys.toList.extract 0 p)=ys.toList.take p:=by simp[List.extract]
 have b:(ys.toList.extract p ys.size)=ys.toList.drop p:=by
  simp only[List.extract]
  rw[OU (by simp)]
 rw[a,b,e,M7,ME,R0,Qc,NF]
 rfl
theorem K1{a b:Addr}{xs:List (List Int×Addr)}{k:List Int}{Q:Bool->Ml->Prop}(hu:A.units<cLine)(S:p6 prog w s.heap a xs)(hk:(IKd prog w).is s.heap k b)(hn:xs.length<63)
  (h:∀h' q,MT a s.heap h'->p6 prog w h' a q->(k∈xs.map (·.1)->q=xs)->(k∉xs.map (·.1)->q.Perm ((k,b)::xs))->Q (decide (k∉xs.map (·.1))) {s with heap:=h'}):
  Mz (ML prog w) A (setAddHashed a (.ref b) (hsh prog w k)) Q E s:=by
 have S0:=S
 obtain⟨o,es,ep,t,N,R,hd,O,hnd,hx,T,hp,I⟩:=S
 have F:es.size=xs.length:=by rw[←M0,O,Mj]
 have hf:t.fits es.size=true:=T.fits (by rw[Mj,F])
 have U:t.place.size=xs.length:=by rw[T.sz,Mj]
 obtain⟨e0,he0,hl0⟩:=T.free (mJ t (hsh prog w k))
 obtain⟨e,hee,hl,V⟩:=LM (P:=λe=>¬Lv t (itr t e (t.probeStart (hsh prog w k))).j) e0 hl0
 have ha:∀m<e,Lv t (itr t m (t.probeStart (hsh prog w k))).j:=λm hm=>Classical.not_not.mp (V m hm)
 have hmk:=T.km.odd
 unfold setAddHashed setAddHashedIn
 refine NI (on (NX N hd hf ?_))
 have hb:byScan (My b) es=false:=rfl
 simp only[hb,MD,Nh]
 refine on ?_
 unfold setSearch
 refine xZ (e:=e) hu N hd O hx T hk (by omega) hl ha (λhm=>?_) (λhm=>?_) e 100000 0 none (by omega) (by unfold turns at he0;omega) rfl (λm' hm'=>MM hm' (Oo _))
 ·refine Mg ?_
  have:=h s.heap xs (MT.refl a s.heap) S0 (λ_=>rfl) (λz=>MM hm z)
  rw[M5 (λz=>z hm)]at this
  exact this
 ·have hQ:∀h' q,MT a s.heap h'->p6 prog w h' a q->q.Perm ((k,b)::xs)->Q true {s with heap:=h'}:=λh' q h1 W h3=>by
   have:=h h' q h1 W (λz=>MM z hm) (λ_=>h3)
   rwa[MX hm]at this
  simp only
  refine on (NX N hd hf ?_)
  generalize hj:(itr t e (t.probeStart (hsh prog w k))).j=j at hl
  obtain⟨pd,X,pl⟩:=Ir T j
  generalize y:t.put j=tp at pd X pl
  obtain⟨u,p⟩:=tp
  simp only at pd X pl⊢
  have l:u.plain=true:=by
   have:(t.put j).1.plain=t.plain:=rfl
   rw[y]at this;rw[this,hp]
  have J:u.led=t.led:=by
   have:(t.put j).1.led=t.led:=rfl
   rw[y]at this;exact this
  have v:u.mask=t.mask:=by
   have:(t.put j).1.mask=t.mask:=rfl
   rw[y]at this;exact this
  rw[l]
  simp only[Na]
  refine on (CD hk ?_)
  simp only[Na]
  have K:=GW (f:=λx:List Int×Addr=>(hsh prog w x.1,My x.2)) O (p:=p) (by omega) (k,b)
  have B:(insertAt es p (hsh prog w k,My b)).size=es.size+1:=fR (by omega)
  have d:(xs.take p++(k,b)::xs.drop p).Perm ((k,b)::xs):=by
   have:=List.perm_middle (a:=(k,b)) (l₁:=xs.take p) (l₂:=xs.drop p)
   rwa[P7]at this
  have nd1:((xs.take p++(k,b)::xs.drop p).map (·.1)).Nodup:=by
   refine(d.map (·.1)).nodup_iff.mpr ?_
   rw[ME,Nd]
   exact⟨hm,hnd⟩
  refine on (wpAny_storeSet_of N hd ?_ (by rw[B,Of];omega))
  have G:=NH s.heap a (Rz (insertAt es p (hsh prog w k,My b)) u)
  have Y:=qe N hd (insertAt es p (hsh prog w k,My b)) u
  have Z:∀x∈xs.take p++(k,b)::xs.drop p,(IKd prog w).is (s.heap.update a (Rz (insertAt es p (hsh prog w k,My b)) u)) x.1 x.2:=λx C=>by
   rcases MH.mp (d.mem_iff.mp C)with rfl|C
   ·exact ny hk N hd G
   ·exact ny (hx x C) N hd G
  by_cases r:u.tooFull=true
  ·simp only[r,Ov,Q5,Na]
   have fu:u.fill*5≥u.mask*3:=by unfold tooFull at r;exact QS r
   have fe:u.fill=xs.length+1:=by unfold fill;rw[pd,X,U];rfl
   have nf0:=T.nf
   have f1:u.fits (insertAt es p (hsh prog w k,My b)).size=true:=by
    unfold SS
    rw[B,fe,X,U,F,v]
    simp
    omega
   have wm:Mk (sizeAbove (grown (es.size+1))-1)/\(es.size+1)*5<(sizeAbove (grown (es.size+1))-1)*3/\sizeAbove (grown (es.size+1))<=128:=by
    rw[fe,v]at fu
    rw[F]
    rcases T.km with z|z|z
    ·have:xs.length=4:=by omega
     rw[this]
     exact⟨.inr (.inl (by decide)),by decide,by decide⟩
    ·have:xs.length=18:=by omega
     rw[this]
     exact⟨.inr (.inr (by decide)),by decide,by decide⟩
    ·omega
   have D:(Array.map (λx=>x.fst) (insertAt es p (hsh prog w k,My b))).size=es.size+1:=by rw[Array.size_map,B]
   obtain⟨t2,c,er,op,T2,led2,H⟩:=yf (t:=u) (hs:=(insertAt es p (hsh prog w k,My b)).map (·.1)) (wanted:=grown (es.size+1)) wm.1 (by rw[D];exact wm.2.1)
   refine on ?_
   unfold setRelay
   refine on (NX Y rfl f1 ?_)
   simp only
   rw[Mr (by rw[Of];omega)]
   rw[er]
   generalize hE1:insertAt es p (hsh prog w k,My b)=es1 at*
   generalize hX1:xs.take p++(k,b)::xs.drop p=xs1 at*
   have l1:xs1.length=es.size+1:=by rw[d.length_eq,MA,F]
   have L:∀i,i<xs1.length->es1[i]?=some (hsh prog w (xs1.getD i (k,b)).1,My (xs1.getD i (k,b)).2):=λi M=>by
    rw[←O6,K,Mt,Mn M,Mp,Mn M];rfl
   have om:∀i∈c.toList,i<xs1.length:=λi M=>by
    have:=MO.mp (op.mem_iff.mp M)
    rw[D]at this
    omega
   have efl:(c.filterMap λx=>es1[x]?).toList=(c.toList.map λi=>xs1.getD i (k,b)).map λx=>(hsh prog w x.1,My x.2):=by
    rw[Array.toList_filterMap,t7 (g:=λi=>(hsh prog w (xs1.getD i (k,b)).1,My (xs1.getD i (k,b)).2)) λi M=>L i (om i M),MK]
    rfl
   have n:(c.toList.map λi=>xs1.getD i (k,b)).Perm xs1:=by
    refine(op.map _).trans (R8 ?_)
    rw[D,←l1]
    refine Pk (by simp) λi h1 W=>?_
    rw[Pl,PP,Mp,Mn W]
    rfl
   have fsz:(c.filterMap λx=>es1[x]?).size=es1.size:=by
    rw[←M0,efl,Mj,n.length_eq,l1,B]
   refine on ?_
   show Mz _ _ (if((c.filterMap λx=>es1[x]?).size !=es1.size)=true then _ else _) _ _ _
   rw[Mr (by rw[fsz];simp)]
   refine Mg ?_
   refine wpAny_storeSet_of Y rfl ?_ (by rw[fsz,B,Of];omega)
   have sb2:=NH (s.heap.update a (Rz es1 u)) a (Rz (c.filterMap λx=>es1[x]?) t2)
   have g2:=qe Y rfl (c.filterMap λx=>es1[x]?) t2
   refine Mg (hQ _ (c.toList.map λi=>xs1.getD i (k,b)) (G.trans sb2) ⟨_,_,_,t2,g2,R,rfl,efl,?_,λx C=>?_,?_,by rw[H,l],by rw[led2,J,I]⟩ (n.trans d))
   ·exact(n.map (·.1)).nodup_iff.mpr nd1
   ·exact ny (Z x (n.mem_iff.mp C)) Y rfl sb2
   ·have eh:(c.toList.map λi=>xs1.getD i (k,b)).map (λx=>hsh prog w x.1)=c.toList.map λi=>(es1.map (·.1)).getD i 0:=by
     rw[MK]
     refine Nk λi M=>?_
     have h1:=L i (om i M)
     have W:(es1.map (·.1))[i]?=some (hsh prog w (xs1.getD i (k,b)).1):=by rw[Array.getElem?_map,h1];rfl
     have h3:=(Nn.mp W)
     obtain⟨h4,h5⟩:=h3
     simp only[QD]
     rw[←h5]
     simp[OF,h4]
     omega
    rw[eh];exact T2
  ·simp only[r,Ov,Bool.and_false,Nh,Tx,MD]
   refine Mg (hQ _ (xs.take p++(k,b)::xs.drop p) G ⟨_,_,_,u,Y,R,rfl,K,nd1,Z,?_,l,by rw[J,I]⟩ d)
   have nf:(t.place.size+1)*5<t.mask*3:=by
    have:¬(u.fill*5≥u.mask*3):=by
     intro z
     exact r (by unfold tooFull;exact MX z)
    unfold fill at this
    rw[pd,X,v]at this
    simp at this
    omega
   have:=(T.put (h:=hsh prog w k) hl hj (by exact ha) nf).2.2.2.2
   rw[y]at this
   rw[M7,ME,R0,Qc]
   exact this
end
end L2.Hs
namespace L2.Hs
open PySem PySem.SetTable
namespace F2
theorem si_next:Slot "set_iterator" "__next__" "set_iterator.__next__":= .of (owner:="set_iterator") (n:="__next__") (by rw[T0,R1];kernel_rfl) (by decide +kernel) (by decide +kernel) (by decide +kernel)
  (by first|exact .inl (by decide +kernel)|exact .inr (by decide +kernel)) (by rw[Ri];kernel_rfl)
theorem si_iter:Slot "set_iterator" "__iter__" "set_iterator.__iter__":= .of (owner:="set_iterator") (n:="__iter__") (by rw[T0,R1];kernel_rfl) (by decide +kernel) (by decide +kernel) (by decide +kernel)
  (by first|exact .inl (by decide +kernel)|exact .inr (by decide +kernel)) (by rw[Ri];kernel_rfl)
theorem ent_next:entryFor table "set_iterator.__next__"=some Builtin.«set_iterator.__next__»:=entryFor_of_tree (by kernel_rfl)
theorem ent_iter:entryFor table "set_iterator.__iter__"=some Builtin.«dict_keyiterator.__iter__»:=Uq (id':="dict_keyiterator.__iter__") (by kernel_rfl) rfl (by decide +kernel) (by kernel_rfl)
theorem ent_set_iter:entryFor table "set.__iter__"=some Builtin.«frozenset.__iter__»:=Uq (id':="frozenset.__iter__") (by kernel_rfl) rfl (by decide +kernel) (by kernel_rfl)
theorem args_next(a:Mh):argsOk "set_iterator.__next__" ⟨[a],[]⟩:=by unfold argsOk;kernel_rfl
theorem args_iter(a:Mh):argsOk "set_iterator.__iter__" ⟨[a],[]⟩:=by unfold argsOk;kernel_rfl
end F2
end L2.Hs
namespace L2.Hs
open PySem PySem.SetTable
theorem oO{α:Type}:∀{l:List α} {i:Nat} (h:i<l.length),(l[i]::l.eraseIdx i).Perm l
 |[],i,h=>MM h (Oo i)
 |a::l,0,h=> .refl _
 |a::l,i+1,h=>by
  show(l[i]'(by simpa using h)::a::l.eraseIdx i).Perm (a::l)
  exact(List.Perm.swap _ _ _).trans ((oO (by simpa using h)).cons a)
theorem u5{α:Type}(next:Nat->Nat):∀(a k:Nat) (left:List α) (b:Array α),left.length<=a->(S9 next a k left b).toList.Perm (b.toList++left)
 |0,k,left,b,h=>by
  have:left=[]:=Rk.mp (by omega)
  subst this
  unfold S9
  rw[M2]
 |a+1,k,left,b,h=>by
  unfold S9
  cases left with
  |nil=>simp
  |cons d e=>
   have c:next k % (d::e).length<(d::e).length:=Tp _ (by simp)
   rw[Mn c]
   simp only
   refine(u5 next a (k+1) _ _ (by rw[List.length_eraseIdx_of_lt c];omega)).trans ?_
   rw[U5,NF]
   exact List.Perm.append_left _ (oO c)
theorem yn{α:Type}(next:Nat->Nat)(xs:Array α):(Tw next xs).toList.Perm xs.toList:=by
 unfold Tw
 refine(u5 next xs.size 0 xs.toList #[] (by simp)).trans ?_
 simp
section
variable{prog:Program}{w:MY}{A:M8}{E:Mh->Ml->Prop}{s:Ml}
noncomputable def c5(w:MY)(a:Addr)(ep:Nat)(es:Array (Int×Mh)):Array (Int×Mh):=if w.params.followText "set-order"=true then Tw (w.params.setOrder a ep) es else es
theorem jU(w:MY)(a:Addr)(ep:Nat)(es:Array (Int×Mh)):(c5 w a ep es).toList.Perm es.toList:=by
 unfold c5
 split
 ·exact yn _ _
 ·exact .refl _
structure SIt (w:MY) (h:Heap) (I a:Addr) (es:Array (Int×Mh)) (ep:Nat) (t:SetTable) (i:Nat):Prop where
 st:∃o,h.get? a=some o/\o.data= .set es ep t
 it:∃(o:Obj) (sl:Nat),h.get? I=some o/\o.cls= .type "set_iterator"/\o.data= .fields #[.int sl 0,.int i 0,.ref a,.int es.size 0,.int ep 0]/\(w.params.followText "set-order"=false->below t.place sl=i)
theorem ly{M:Ud}{Q:Bool->Ml->Prop}(h:Q (M.w.params.followText "set-order") s):Mz M A setsByText Q E s:=by
 unfold setsByText
 exact on (Qw (Mg h))
theorem yF{I a:Addr}{es:Array (Int×Mh)}{ep:Nat}{t:SetTable}{hs:List Int}{i:Nat}{e:Int×Mh}{Q:Option Mh->Ml->Prop}(T:Tb t hs)(h:t.fits es.size=true)(F:t.plain=true)(G:t.led=!(w.params.followText "set-order"))(x:SIt w s.heap I a es ep t i)(k:I≠a)(l:(c5 w a ep es)[i]?=some e)
  (H:∀h',SIt w h' I a es ep t (i+1)->MT I s.heap h'->Q (some e.2) {s with heap:=h'}):Mz (ML prog w) A (Qh (.ref I)) Q E s:=by
 obtain⟨⟨J,b,c⟩,o,M,n,u,hd,p⟩:=id x
 have y:s.TypeIs (.ref I) "set_iterator":=⟨o,n,u⟩
 unfold Qh
 refine on (Qz (wpAny_callSpecial?_slot (name:=M1 "__next__") y F2.si_next (Ng F2.si_next y F2.ent_next ?_ (F2.args_next _))))
 unfold Builtin.«set_iterator.__next__»
 refine on (Mg ?_)
 refine on (Sc n hd ?_)
 simp only
 refine on (Sz b c h ?_)
 simp only[O8,MD,Nh]
 refine on ?_
 simp only[NG]
 have d:∀nx:Nat,(w.params.followText "set-order"=false->below t.place nx=i+1)->Mz (ML prog w) A.in1 (do
    Uv (My I) 0 (Qi nx)
    Uv (My I) 1 (Qi (i+1))
    ret e.2) (λd s'=>∃v,d=Fin.done (Flow.ret v)/\Mz (ML prog w) A (pure (some v)) Q E s') (λe s'=>Mz (ML prog w) A (do
     if(←Rh e (OH "StopIteration"))=true then pure none else throw e) Q E s') s:=λnx r=>by
  refine on (PD n hd (by simp) ?_)
  have B:(s.heap.update I (Obj.mapFields (·.setIfInBounds 0 (Qi nx)))).get? I=some _:=N8 _ n (RG (Oh hd _))
  refine on (PD B (Oh hd _) (by simp) ?_)
  refine Mg ⟨_,rfl,Mg (H _ ⟨⟨J,?_,c⟩,⟨_,nx,N8 _ B (RG (Oh (Oh hd _) _)),?_,?_,r⟩⟩ ((NH ..).trans (NH ..)))⟩
  ·rw[OI _ _ _ _ (Ne.symm k),OI _ _ _ _ (Ne.symm k)];exact b
  ·rw[Sy,Sy];exact u
  ·rw[Oh (Oh hd _)];simp[Qi]
 unfold setNext
 refine on (NX b c h (on (ly ?_)))
 have C:(ML prog w).w=w:=rfl
 rw[C]
 cases q:w.params.followText "set-order"
 ·have f:c5 w a ep es=es:=by unfold c5;rw[q];rfl
  rw[f]at l
  have K:=p q
  have N:=(Nn.mp l).1
  simp only[MD,Nh]
  have L:t.place.size=es.size:=by
   unfold SS at h
   simp only[MU,OP,Ni]at h
   exact h.1
  rw[Mr (λz=>by
   have D:(!t.plain&&decide (es.size>1))=true:=z
   rw[F]at D
   cases D)]
  refine on ?_
  show Mz _ _ (if(!t.led&&!es.isEmpty)=true then _ else _) _ _ _
  rw[Mr (by rw[G,q];exact Ms)]
  refine Mg (Mg ?_)
  have g:t.place[i]?=some t.place[i]:=getElem?_pos t.place i (by omega)
  rw[K,l,g]
  simp only
  refine d _ λ_=>?_
  obtain⟨b1,b2,b3⟩:=iA (j:=t.place[i]+1) T.rs
  rcases Pe (below t.place (t.place[i]+1)) (i+1)with z|z|z
  ·have:=b3 i _ (by omega) g
   omega
  ·exact z
  ·have m:t.place[i+1]?=some t.place[i+1]:=getElem?_pos t.place (i+1) (by omega)
   have O:=b2 (i+1) _ z m
   have P:=T.rs i (i+1) _ _ (by omega) g m
   omega
 ·have f:c5 w a ep es=Tw (w.params.setOrder a ep) es:=by unfold c5;rw[q];rfl
  rw[f]at l
  simp only[Na,O8,MD,Nh]
  refine on ?_
  unfold setWalk
  refine on (NX b c h (on (ly ?_)))
  rw[C,q]
  simp only[Na]
  refine on (Qw (Mg ?_))
  refine Mg ?_
  rw[show((ML prog w).w.params.setOrder a ep)=w.params.setOrder a ep from rfl,l]
  simp only[Nu]
  exact d _ λz=>by rw[q]at z;cases z
theorem AT{I a:Addr}{es:Array (Int×Mh)}{ep:Nat}{t:SetTable}{hs:List Int}{Q:Option Mh->Ml->Prop}(r:A.handled=none)(T:Tb t hs)(g:t.fits es.size=true)(u:t.plain=true)(y:t.led=!(w.params.followText "set-order"))(x:SIt w s.heap I a es ep t es.size)
  (B:∀h',SH I s.heap h'->Q none {s with heap:=h'}):Mz (ML prog w) A (Qh (.ref I)) Q E s:=by
 obtain⟨⟨D,d,f⟩,o,F,h,C,hd,i⟩:=id x
 have l:s.TypeIs (.ref I) "set_iterator":=⟨o,h,C⟩
 unfold Qh
 refine on (Qz (wpAny_callSpecial?_slot (name:=M1 "__next__") l F2.si_next (Ng F2.si_next l F2.ent_next ?_ (F2.args_next _))))
 unfold Builtin.«set_iterator.__next__»
 refine on (Mg ?_)
 refine on (Sc h hd ?_)
 simp only
 refine on (Sz d f g ?_)
 simp only[O8,MD,Nh]
 refine on ?_
 simp only[NG]
 have c:Mz (ML prog w) A.in1 (do
    Uv (My I) 2 Nl
    let e ←VA (OH "StopIteration") []
    (raiseNew e:Sem Fin)) (λc s'=>∃v,c=Fin.done (Flow.ret v)/\Mz (ML prog w) A (pure (some v)) Q E s') (λe s'=>Mz (ML prog w) A (do
     if(←Rh e (OH "StopIteration"))=true then pure none else throw e) Q E s') s:=by
  refine on (PD h hd (by simp) ?_)
  refine on ?_
  simp only[VA,newTuple]
  refine on (Nx ?_ (by size_fits))
  refine on (m:=Qe _ _) (Py (a:=Nl) (by first|rfl|(simp only[Qe];rfl)) ?_)
  refine Nx ?_ (by size_fits)
  simp only[raiseNew]
  refine on (U4 ?_)
  rw[show A.in1.handled=none from r]
  refine on (Mg (wpAny_throw ?_))
  refine on (Oz (T:="StopIteration") (b:=true) ⟨_,MB _ rfl,rfl⟩ Us ?_)
  exact Mg (B _ (((NH ..).extBut.push _).push _))
 unfold setNext
 refine on (NX d f g (on (ly ?_)))
 have n:(ML prog w).w=w:=rfl
 rw[n]
 have j:(c5 w a ep es).size=es.size:=by rw[←M0,(jU w a ep es).length_eq,M0]
 cases q:w.params.followText "set-order"
 ·simp only[MD,Nh]
  rw[Mr (λz=>by
   have p:(!t.plain&&decide (es.size>1))=true:=z
   rw[u]at p
   cases p)]
  refine on ?_
  show Mz _ _ (if(!t.led&&!es.isEmpty)=true then _ else _) _ _ _
  rw[Mr (by rw[y,q];exact Ms)]
  refine Mg (Mg ?_)
  rw[i q,OR (Mw _)]
  exact c
 ·have k:c5 w a ep es=Tw (w.params.setOrder a ep) es:=by unfold c5;rw[q];rfl
  simp only[Na,O8,MD,Nh]
  refine on ?_
  unfold setWalk
  refine on (NX d f g (on (ly ?_)))
  rw[n,q]
  simp only[Na]
  refine on (Qw (Mg ?_))
  refine Mg ?_
  rw[show((ML prog w).w.params.setOrder a ep)=w.params.setOrder a ep from rfl,←k,OR (by rw[j];exact Mw _)]
  exact c
theorem SIt.at{h h':Heap}{I a:Addr}{es:Array (Int×Mh)}{ep:Nat}{t:SetTable}{i:Nat}(x:SIt w h I a es ep t i)(k:∀b,b=I\/b=a->∀o,h.get? b=some o->h'.get? b=some o):SIt w h' I a es ep t i:=by
 obtain⟨⟨e,c,d⟩,o,f,g,r⟩:=x
 exact⟨⟨e,k a (.inr rfl) e c,d⟩,o,f,k I (.inl rfl) o g,r⟩
theorem zM(q:A.handled=none){I a:Addr}{es:Array (Int×Mh)}{ep:Nat}{t:SetTable}{hs:List Int}(T:Tb t hs)(l:t.fits es.size=true)(m:t.plain=true)(n:t.led=!(w.params.followText "set-order"))(f:I≠a):
  Walks prog w A I [I,a] [I] es.size (λi v=>∃e,(c5 w a ep es)[i]?=some e/\v=e.2) (λi h=>SIt w h I a es ep t i) where
 sub:=λb c=>by simp at c;simp[c]
 frame:=λ_ _ _ st r=>st.at λb c o e=>r b (by simpa using c) o e
 item:=λi s Q E F st d=>by
  have u:(c5 w a ep es).size=es.size:=by rw[←M0,(jU w a ep es).length_eq,M0]
  have p:(c5 w a ep es)[i]?=some (c5 w a ep es)[i]:=getElem?_pos _ i (by omega)
  exact yF T l m n st f p λh' g x=>d _ h' s.toks ⟨_,p,rfl⟩ g λb o c e=>x.extBut b o (λh=>c (by simp[h])) e
 done:=λs Q E st d=>AT q T l m n st λh' j=>d h' s.toks λb o c e=>j b o (λh=>c (by simp[h])) e
 self:=λi s Q E st d=>by
  obtain⟨⟨G,y,z⟩,o,H,B,C,hd,D⟩:=st
  have k:s.TypeIs (.ref I) "set_iterator":=⟨o,B,C⟩
  refine Rw k F2.si_iter (Ng F2.si_iter k F2.ent_iter ?_ (F2.args_iter _))
  show Mz _ _ (ret (.ref I)) _ _ s
  exact Mg ⟨_,rfl,"set_iterator",_,k,F2.si_next.lookup,d⟩
end
end L2.Hs
namespace L2.Hs
open PySem PySem.SetTable PyProof.Rows
section
variable{prog:Program}{w:MY}{A:M8}{E:Mh->Ml->Prop}{s:Ml}
theorem BJ{a:Addr}{o:Obj}{es:Array (Int×Mh)}{ep:Nat}{t:SetTable}{Q:Mh->Ml->Prop}(b:s.heap.get? a=some o)(f:o.cls= .type "set")(hd:o.data= .set es ep t)(c:t.fits es.size=true)(g:t.plain=true)
  (h:Q (.ref s.heap.objs.size) {s with heap:=s.heap.push {cls:= .type "set_iterator",data:= .fields #[.int (0:Nat) 0,.int (0:Nat) 0,.ref a,.int es.size 0,.int ep 0]}}):Mz (ML prog w) A (Sb (.ref a)) Q E s:=by
 have d:s.TypeIs (.ref a) "set":=⟨o,b,f⟩
 refine Rw d F.slot_set_iter (Ng F.slot_set_iter d F2.ent_set_iter ?_ (F.args_set_iter_1 _))
 unfold Builtin.«frozenset.__iter__»
 refine on (Py (a:=a) rfl ?_)
 refine on (on (Sz b hd c (Mg ?_)))
 refine on ?_
 unfold setDrawn
 refine on (NX b hd c (on (ly (Mg ?_))))
 rw[Mr (λz=>by
  have e:(!((ML prog w).w.params.followText "set-order")&&(!t.plain&&decide (es.size>1)))=true:=z
  rw[g]at e
  simp at e)]
 refine on (Mg ?_)
 refine on (wpAny_setEpoch_of b hd c ?_)
 unfold newFields
 refine on (Nx (Mg ⟨_,rfl,"set_iterator",_,⟨_,MB _ rfl,rfl⟩,F2.si_next.lookup,?_⟩))
 exact h
theorem uC{a:Addr}{o:Obj}{es:Array (Int×Mh)}{ep:Nat}{t:SetTable}{hs:List Int}{Q:List Mh->Ml->Prop}(Y:A.handled=none)(L:s.heap.get? a=some o)(y:o.cls= .type "set")(hd:o.data= .set es ep t)(T:Tb t hs)(M:t.fits es.size=true)(N:t.plain=true)(Z:t.led=!(w.params.followText "set-order"))
  (hsz:es.size<=1000)
  (hQ:∀h' O vs,(∀b o,s.heap.get? b=some o->h'.get? b=some o)->s.heap.objs.size<=h'.objs.size->s.toks<=O->vs.Perm (es.toList.map (·.2))->Q vs {s with heap:=h',toks:=O}):Mz (ML prog w) A (collect (.ref a)) Q E s:=by
 unfold collect
 refine on (wpAny_runValue (TY F.entry_proto_collect ?_))
 rw[T5 F.plain_proto_collect _]
 show Mz _ A.in1 (newList []>>=λl=>TR (.builtin "list.__iadd__" ⟨[l,.ref a],[]⟩)) _ _ s
 refine on (Nx ?_)
 refine Mg ⟨plainId_quiet F.plain_list_iadd _,TY F.entry_list_iadd ?_⟩
 rw[T5 F.plain_list_iadd _]
 have ha:=MI L
 have g:(s.heap.push {cls:= .type "list",data:= .seq ([]:List Mh).toArray}).get? a=some o:=Mi _ L
 have B:(s.heap.push {cls:= .type "list",data:= .seq ([]:List Mh).toArray}).get? s.heap.objs.size=some {cls:= .type "list",data:= .seq ([]:List Mh).toArray}:=MB _ rfl
 have r:s.heap.objs.size≠a:=Ou ha
 have x:Si (.ref s.heap.objs.size) (.ref a)=false:=by simp[Si,r]
 have C:(⟨s.heap.push {cls:= .type "list",data:= .seq ([]:List Mh).toArray},s.gens,s.drawn,s.toks,s.os⟩:Ml).TypeIs (.ref a) "set":=⟨o,g,y⟩
 show Mz _ A.in1 (RZ (.ref s.heap.objs.size) (.ref a) (.ref s.heap.objs.size)) _ _ _
 unfold RZ
 refine on (wpAny_typeOf C ?_)
 rw[Mr (by rw[x];decide)]
 refine on (BJ g y hd M N ?_)
 refine on (NI ?_)
 unfold Builtin.List.listLengthHint
 have n:(⟨(s.heap.push {cls:= .type "list",data:= .seq ([]:List Mh).toArray}).push {cls:= .type "set_iterator",data:= .fields #[.int (0:Nat) 0,.int (0:Nat) 0,.ref a,.int es.size 0,.int ep 0]},s.gens,s.drawn,s.toks,s.os⟩:Ml).TypeIs (.ref a) "set":=⟨o,Mi _ g,y⟩
 refine on (Pf n F.slot_set_len.lookup ?_)
 (generalize u:("set.__len__":String)=id0;wp_delta;rw[show splitId id0=some ("set","__len__")from by subst u;decide +kernel];subst u)
 refine on (Oz (b:=true) n (by rw[Ri];kernel_rfl) ?_)
 rw[Mr (by decide)]
 show Mz _ _ (if _ then _ else _) _ _ _
 rw[Mu (by decide)]
 refine on (wpAny_typeOf n ?_)
 refine Mg ?_
 rw[Mu (by decide)]
 refine on (Pz ?_)
 have P:(s.heap.push {cls:= .type "list",data:= .seq ([]:List Mh).toArray}).objs.size=s.heap.objs.size+1:=by rw[size_push']
 generalize h:(s.heap.push {cls:= .type "list",data:= .seq ([]:List Mh).toArray}).push {cls:= .type "set_iterator",data:= .fields #[.int (0:Nat) 0,.int (0:Nat) 0,.ref a,.int es.size 0,.int ep 0]}=d
 have R:d.get? s.heap.objs.size=some (Ph "list" #[] 0):=by rw[←h];exact Mi _ B
 have gI:d.get? (s.heap.objs.size+1)=some {cls:= .type "set_iterator",data:= .fields #[.int (0:Nat) 0,.int (0:Nat) 0,.ref a,.int es.size 0,.int ep 0]}:=by rw[←h,←P];exact MB _ rfl
 have ga:d.get? a=some o:=by rw[←h];exact Mi _ g
 have p:∀b f,s.heap.get? b=some f->d.get? b=some f:=λb f e=>by rw[←h];exact Mi _ (Mi _ e)
 unfold Builtin.List.listTouch
 refine on (on (RB R rfl ?_ (by show 0<=_;omega) (by show 1<=_;omega)))
 obtain⟨S,U⟩:∃S,(d.update s.heap.objs.size (NT λxs=>xs.push Nl)).get? s.heap.objs.size=some (Ph "list" #[Nl] S):=⟨_,get?_update_seq R λxs=>xs.push Nl⟩
 refine RB U rfl ?_ (by show 1<=sizeLine;decide) (by show 0<=_;omega)
 obtain⟨D,V⟩:∃D,((d.update s.heap.objs.size (NT λxs=>xs.push Nl)).update s.heap.objs.size (NT λxs=>xs.pop)).get? s.heap.objs.size=some (Ph "list" #[] D):=⟨_,get?_update_seq U λxs=>xs.pop⟩
 have c:∀b f,b≠s.heap.objs.size->d.get? b=some f->((d.update s.heap.objs.size (NT λxs=>xs.push Nl)).update s.heap.objs.size (NT λxs=>xs.pop)).get? b=some f:=λb f q e=>by
  rw[OI _ _ _ _ q,OI _ _ _ _ q];exact e
 generalize (d.update s.heap.objs.size (NT λxs=>xs.push Nl)).update s.heap.objs.size (NT λxs=>xs.pop)=h4 at V c
 have G:s.heap.objs.size+1≠a:=Ou (Ra ha)
 have st:SIt w h4 (s.heap.objs.size+1) a es ep t 0:=⟨⟨o,c a o (Ne.symm r) ga,hd⟩,_,0,c _ _ (by omega) gI,rfl,rfl,λ_=>by
  have:=iA (j:=0) T.rs
  rcases Nat.eq_zero_or_pos (below t.place 0)with z|z
  ·exact z
  ·have e:=getElem?_pos t.place 0 (by omega)
   have:=this.2.1 0 _ z e
   omega⟩
 have W:=zM (prog:=prog) (w:=w) (A:=A.in1) (I:=s.heap.objs.size+1) (a:=a) (ep:=ep) Y T M N Z G
 show Mz _ _ (TR _) _ _ _
 rw[P]
 refine Mg ⟨plainId_quiet F.plain_extend_loop _,codeAny_extend_loopS W.toS (by rw[Of];omega) s.heap.objs.size (by simp;omega) _ es.size 0 _ #[] D rfl (N2 _) st V (ItemsOf.nil _) λs' k c' hm v m=>?_⟩
 show Mz _ A (load s.heap.objs.size>>=_) _ _ s'
 refine on (wpAny_load v ?_)
 refine Mg ?_
 have H:s'={s with heap:=s'.heap,toks:=s'.toks}:=by
  have x:=hm.gens
  have d:=hm.drawn
  have X:=hm.os
  obtain⟨a1,a2,a3,a4,a5⟩:=s'
  simp only at x d X
  subst x d X
  rfl
 rw[H]
 refine hQ _ _ _ (λb f e=>?_) (Ry (MI v)) hm.toks ?_
 ·have q:=MI e
  exact hm.heap b f (by simp only[MH,NC,P4,not_or];exact⟨M6 q,M6 (Ra q)⟩) (c b f (M6 q) (p b f e))
 ·refine List.Perm.trans (R8 ?_) ((jU w a ep es).map (·.2))
  have J:(c5 w a ep es).size=es.size:=by rw[←M0,(jU w a ep es).length_eq,M0]
  refine Pk (by rw[M0,Mj,M0,J,m.1]) λi q1 q2=>?_
  have K:i<k.size:=by simpa using q1
  obtain⟨e,he,hv⟩:=m.2 i _ (getElem?_pos k i K)
  rw[P9,hv,Pl,P9]
  have:=Nn.mp he
  obtain⟨z1,z2⟩:=this
  rw[z2]
end
end L2.Hs
namespace L2.Hs
open PySem PySem.W PyProof.Rows
section
variable{α β:Type}{lt:Nat->Nat->Bool}{n:Nat}
noncomputable def Rn(lt:Nat->Nat->Bool)(n:Nat):KasT α->(α->Prop)->Prop
 | .ret a,Φ=>Φ a
 | .ask i j k,Φ=>i<n/\j<n/\Rn lt n (k (lt i j)) Φ
theorem Rn.bind{f:α->KasT β}{Φ:β->Prop}:∀{t:KasT α},Rn lt n t (λa=>Rn lt n (f a) Φ)->Rn lt n (t.bind f) Φ
 | .ret a,h=>h
 | .ask i j k,⟨h1,h2,h3⟩=>⟨h1,h2,Rn.bind h3⟩
theorem Rn.mono{Φ Ψ:α->Prop}(b:∀a,Φ a->Ψ a):∀{t:KasT α},Rn lt n t Φ->Rn lt n t Ψ
 | .ret a,h=>b a h
 | .ask i j k,⟨h1,h2,h3⟩=>⟨h1,h2,Rn.mono b h3⟩
theorem Rn.wp{b:Nat->Nat->(Bool->Ml->Prop)->Ml->Prop}{Φ:α->Prop}{Q:α->Ml->Prop}{s:Ml}(c:∀i j,i<n->j<n->∀C:Bool->Ml->Prop,C (lt i j) s->b i j C s)(d:∀a,Φ a->Q a s):∀{t:KasT α},Rn lt n t Φ->t.kasWp b Q s
 | .ret a,h=>d a h
 | .ask i j k,⟨h1,h2,h3⟩=>c i j h1 h2 _ (Rn.wp c d h3)
end
section
variable{rk:Nat->Nat}{n:Nat}
noncomputable abbrev ltR(rk:Nat->Nat)(i j:Nat):Bool:=decide (rk i<rk j)
noncomputable abbrev ky(rk:Nat->Nat)(p:Array Nat)(i:Nat):Nat:=rk (p.getD i 0)
structure Pm (rk:Nat->Nat) (n:Nat) (p:Array Nat):Prop where
 perm:p.toList.Perm (Mv n)
 inj:∀i j,i<n->j<n->rk i=rk j->i=j
theorem Pm.sz{p:Array Nat}(h:Pm rk n p):p.size=n:=by have:=h.perm.length_eq;simpa using this
theorem Pm.lt{p:Array Nat}(h:Pm rk n p){i:Nat}(a:i<n):p.getD i 0<n:=by
 have hs:=h.sz
 have e:p.getD i 0=p[i]:=by simp[OF,show i<p.size by omega]
 rw[e]
 exact MO.mp (h.perm.mem_iff.mp (by simp))
theorem Pm.ne{p:Array Nat}(h:Pm rk n p){i j:Nat}(a:i<j)(b:j<n):ky rk p i≠ky rk p j:=λz=>by
 have hs:=h.sz
 have:=h.inj _ _ (h.lt (show i<n by omega)) (h.lt b) z
 have nd:p.toList.Nodup:=h.perm.nodup_iff.mpr SC
 have c:p.getD i 0=p.toList[i]'(by simp;omega):=by simp[OF,show i<p.size by omega]
 have d:p.getD j 0=p.toList[j]'(by simp;omega):=by simp[OF,show j<p.size by omega]
 rw[c,d]at this
 exact MM this (OA.mp nd i j (by simp;omega) (by simp;omega) a)
theorem Pm.of{p q:Array Nat}(h:Pm rk n p)(a:q.Perm p):Pm rk n q:=⟨(Array.perm_iff_toList_perm.mp a).trans h.perm,h.inj⟩
noncomputable def So(rk:Nat->Nat)(p:Array Nat)(k:Nat):Prop:=∀i j,i<j->j<k->ky rk p i<ky rk p j
noncomputable def De(rk:Nat->Nat)(p:Array Nat)(k:Nat):Prop:=∀i j,i<j->j<k->ky rk p j<ky rk p i
theorem So.succ{p:Array Nat}{k:Nat}(h:So rk p k)(c:1<=k)(b:ky rk p (k-1)<ky rk p k):So rk p (k+1):=λi j a d=>by
 by_cases q:j=k
 ·subst q
  by_cases z:i=j-1
  ·subst z;exact b
  ·exact QA (h i (j-1) (by omega) (by omega)) b
 ·exact h i j a (by omega)
theorem De.succ{p:Array Nat}{k:Nat}(h:De rk p k)(c:1<=k)(b:ky rk p k<ky rk p (k-1)):De rk p (k+1):=λi j a d=>by
 by_cases q:j=k
 ·subst q
  by_cases z:i=j-1
  ·subst z;exact b
  ·exact QA b (h i (j-1) (by omega) (by omega))
 ·exact h i j a (by omega)
theorem ur{p:Array Nat}(P:Pm rk n p):∀(f k:Nat),1<=k->k+f<=n->So rk p k->Rn (ltR rk) n (kas_asc p f k) λm=>k<=m/\m<=k+f/\So rk p m/\(m=k+f\/ky rk p m<ky rk p (m-1))
 |0,k,_,_,h=>⟨Mw k,Mw _,h,.inl rfl⟩
 |f+1,k,h1,h2,h=>by
  refine⟨P.lt (by omega),P.lt (by omega),?_⟩
  by_cases q:ky rk p k<ky rk p (k-1)
  ·rw[show ltR rk (p.getD k 0) (p.getD (k-1) 0)=true from MX q];dsimp only;rw[Mu rfl]
   exact⟨Mw k,by omega,h,.inr q⟩
  ·rw[show ltR rk (p.getD k 0) (p.getD (k-1) 0)=false from M5 q];dsimp only;rw[Mr Ms]
   have:=P.ne (show k-1<k by omega) (show k<n by omega)
   refine Rn.mono (λm hm=>?_) (ur P f (k+1) (by omega) (by omega) (h.succ h1 (by omega)))
   exact⟨by omega,by omega,hm.2.2.1,by rcases hm.2.2.2 with z|z;exact .inl (by omega);exact .inr z⟩
theorem vE{p:Array Nat}(P:Pm rk n p):∀(f k:Nat),1<=k->k+f<=n->De rk p k->Rn (ltR rk) n (kas_desc f p k 0) λr=>r.1=p/\r.2.2=0/\k<=r.2.1/\r.2.1<=k+f/\De rk p r.2.1
 |0,k,_,_,h=>⟨rfl,rfl,Mw k,Mw _,h⟩
 |f+1,k,h1,h2,h=>by
  refine⟨P.lt (by omega),P.lt (by omega),?_⟩
  by_cases q:ky rk p k<ky rk p (k-1)
  ·rw[show ltR rk (p.getD k 0) (p.getD (k-1) 0)=true from MX q];dsimp only;rw[Mu rfl,Mr (Nf 0)]
   refine Rn.mono (λm hm=>?_) (vE P f (k+1) (by omega) (by omega) (h.succ h1 q))
   exact⟨hm.1,hm.2.1,by have:=hm.2.2.1;omega,by have:=hm.2.2.2.1;omega,hm.2.2.2.2⟩
  ·rw[show ltR rk (p.getD k 0) (p.getD (k-1) 0)=false from M5 q];dsimp only;rw[Mr Ms]
   have:=P.ne (show k-1<k by omega) (show k<n by omega)
   refine⟨P.lt (by omega),P.lt (by omega),?_⟩
   rw[show ltR rk (p.getD (k-1) 0) (p.getD k 0)=true from MX (show ky rk p (k-1)<ky rk p k by omega)];dsimp only;rw[Mu rfl]
   exact⟨rfl,rfl,Mw k,by show k<=_;omega,h⟩
theorem vt{p q:Array Nat}{i j:Nat}(h:p[i]?=q[j]?):p.getD i 0=q.getD j 0:=by
 have a:∀(r:Array Nat) (x:Nat),r.getD x 0=(r[x]?).getD 0:=λr x=>by
  by_cases b:x<r.size
  ·simp[OF,b]
  ·simp[OF,b]
 rw[a,a,h]
theorem Im{p:Array Nat}{k:Nat}(a:k<=p.size)(h:De rk p k):So rk (kas_rev p 0 k) k:=λi j b c=>by
 have g:∀x,x<k->(kas_rev p 0 k).getD x 0=p.getD (k-1-x) 0:=λx d=>by
  refine vt ?_
  unfold kas_rev
  rw[getElem?_mirror_all a,Mu (by omega)]
  congr 1
  omega
 show rk _<rk _
 rw[g i (by omega),g j c]
 exact h (k-1-j) (k-1-i) (by omega) (by omega)
theorem zR{p:Array Nat}{k:Nat}(P:Pm rk n p)(b:1<=k)(c:k<=n)(h:De rk p k):Rn (ltR rk) n (kas_tail3 k n p) λr=>Pm rk n r.2/\1<=r.1/\r.1<=n/\So rk r.2 r.1:=by
 have a:Pm rk n (kas_rev p 0 k):=P.of (mirror_perm _ _ _ _)
 unfold kas_tail3
 refine Rn.bind (Rn.mono (λm hm=>?_) (ur a (n-k) k b (by omega) (Im (by rw[P.sz];exact c) h)))
 exact⟨a,by omega,by omega,hm.2.2.1⟩
theorem CA{p:Array Nat}(P:Pm rk n p)(d:1<=n):Rn (ltR rk) n (kas_count n p) λr=>Pm rk n r.2/\1<=r.1/\r.1<=n/\So rk r.2 r.1:=by
 unfold kas_count
 refine Rn.bind (Rn.mono (λm hm=>?_) (ur P (n-1) 1 (Mw 1) (by omega) λi j a b=>by omega))
 obtain⟨a1,a2,a3,a4⟩:=hm
 by_cases q:m=n
 ·rw[Mu (by rw[OP];exact q)]
  exact⟨P,by omega,by omega,a3⟩
 ·rw[Mr (by rw[OP];exact q)]
  have hd:ky rk p m<ky rk p (m-1):=by
   rcases a4 with z|z
   ·omega
   ·exact z
  by_cases q1:m>1
  ·rw[Mu q1]
   refine⟨P.lt (by omega),P.lt (by omega),?_⟩
   rw[show ltR rk (p.getD 0 0) (p.getD (m-1) 0)=true from MX (a3 0 (m-1) (by omega) (by omega))];dsimp only;rw[Mu rfl]
   exact⟨P,by omega,by omega,a3⟩
  ·rw[Mr q1]
   obtain rfl:m=1:=by omega
   unfold kas_descPart
   refine Rn.bind (Rn.mono (λr c=>?_) (vE P (n-(1+1)) (1+1) (by omega) (by omega) λi j a b=>by
    obtain rfl:j=1:=by omega
    obtain rfl:i=0:=by omega
    exact hd))
   obtain⟨rfl,b2,b3,b4,b5⟩:=c
   rw[Mr (by omega)]
   exact zR P (by omega) (by omega) b5
theorem mQ{p:Array Nat}{k:Nat}(P:Pm rk n p)(a:k<n):∀(f l r:Nat),l<=r->r<=k->r-l<=f->(∀i,i<l->ky rk p i<ky rk p k)->(∀i,r<=i->i<k->ky rk p k<ky rk p i)->So rk p k->
  Rn (ltR rk) n (kas_place p k f l r) λm=>m<=k/\(∀i,i<m->ky rk p i<ky rk p k)/\∀i,m<=i->i<k->ky rk p k<ky rk p i
 |0,l,r,h1,h2,h3,ha,hb,_=>by
  obtain rfl:l=r:=by omega
  exact⟨h2,ha,hb⟩
 |f+1,l,r,h1,h2,h3,ha,hb,so=>by
  unfold kas_place
  by_cases q:l≥r
  ·rw[Mu q]
   obtain rfl:l=r:=by omega
   exact⟨h2,ha,hb⟩
  ·rw[Mr q]
   refine⟨P.lt (by omega),P.lt (by omega),?_⟩
   by_cases z:ky rk p k<ky rk p ((l+r)/2)
   ·rw[show ltR rk (p.getD k 0) (p.getD ((l+r)/2) 0)=true from MX z];dsimp only;rw[Mu rfl]
    refine mQ P a f l ((l+r)/2) (by omega) (by omega) (by omega) ha (λi c b=>?_) so
    by_cases w:i=(l+r)/2
    ·subst w;exact z
    ·exact QA z (so _ i (by omega) b)
   ·rw[show ltR rk (p.getD k 0) (p.getD ((l+r)/2) 0)=false from M5 z];dsimp only;rw[Mr Ms]
    have d:=P.ne (show(l+r)/2<k by omega) a
    refine mQ P a f ((l+r)/2+1) r (by omega) h2 (by omega) (λi c=>?_) hb so
    by_cases w:i=(l+r)/2
    ·subst w;omega
    ·exact QA (so i ((l+r)/2) (by omega) (by omega)) (by omega)
theorem zD:∀(f:Nat) {p:Array Nat} {k:Nat},Pm rk n p->k+f=n->So rk p k->Rn (ltR rk) n (kas_bin f p k) λb=>Pm rk n b/\So rk b n
 |0,p,k,P,hk,so=>⟨P,by rw[←hk];exact so⟩
 |f+1,p,k,P,hk,so=>by
  unfold kas_bin
  refine Rn.bind (Rn.mono (λm hm=>?_) (mQ P (by omega) k 0 k (N2 _) (Mw _) (by omega) (λi h=>MM h (Oo i)) (λi l c=>by omega) so))
  obtain⟨l,c,o⟩:=hm
  have r:Pm rk n (bubble p k (k-m)):=P.of (bubble_perm _ _ _)
  refine zD f r (by omega) λi j a s=>?_
  have ks:k<p.size:=by rw[P.sz];omega
  have g:∀x:Nat,(bubble p k (k-m)).getD x 0=p.getD (if x=m then k else if m<x/\x<=k then x-1 else x) 0:=λx=>by
   refine vt ?_
   rw[getElem?_bubble ks (k-m) (by omega)]
   by_cases q:x=m
   ·rw[Mu (by omega),Mu q]
   ·rw[Mr (by omega),Mr q]
    by_cases q2:m<x/\x<=k
    ·rw[Mu (by omega),Mu q2]
    ·rw[Mr (by omega),Mr q2]
  show rk _<rk _
  rw[g i,g j]
  by_cases q1:i=m
  ·rw[Mu q1,Mr (by omega),Mu (by omega)]
   exact o (j-1) (by omega) (by omega)
  ·rw[Mr q1]
   by_cases q2:j=m
   ·rw[Mu q2,Mr (by omega)]
    exact c i (by omega)
   ·rw[Mr q2]
    by_cases d:m<i/\i<=k
    ·rw[Mu d,Mu (by omega)]
     exact so (i-1) (j-1) (by omega) (by omega)
    ·rw[Mr d]
     by_cases e:m<j/\j<=k
     ·rw[Mu e]
      exact so i (j-1) (by omega) (by omega)
     ·rw[Mr e]
      exact so i j a (by omega)
theorem EW(a:1<=n)(inj:∀i j,i<n->j<n->rk i=rk j->i=j):Rn (ltR rk) n (kas_sort n) λp=>Pm rk n p/\So rk p n:=by
 unfold kas_sort
 have P:Pm rk n (List.toArray (Mv n)):=⟨.refl _,inj⟩
 refine Rn.bind (Rn.mono (λr b=>?_) (CA P a))
 obtain⟨a1,a2,a3,a4⟩:=b
 by_cases q:r.1<n
 ·rw[Mu q,Nat.max_eq_left a2]
  exact zD _ a1 (by omega) a4
 ·rw[Mr q]
  obtain rfl:r.1=n:=by omega
  exact⟨a1,a4⟩
end
end L2.Hs
namespace L2.Hs
open PySem PySem.W PyProof.Rows
noncomputable def cg:List Int->List Int->Bool
 |[],[]=>false
 |[],_::_=>true
 |_::_,[]=>false
 |a::as,b::bs=>if a=b then cg as bs else decide (a<b)
theorem hZ:∀x,cg x x=false
 |[]=>rfl
 |a::as=>by unfold cg;rw[Mu rfl];exact hZ as
theorem oz:∀{x y z},cg x y=true->cg y z=true->cg x z=true
 |[],[],_,h,_=>by cases h
 |[],_::_,[],_,h=>by cases h
 |[],_::_,_::_,_,_=>rfl
 |_::_,[],_,h,_=>by cases h
 |_::_,_::_,[],_,h=>by cases h
 |a::as,b::bs,c::cs,h1,h2=>by
  unfold cg at h1 h2⊢
  by_cases q1:a=b
  ·rw[Mu q1]at h1
   by_cases q2:b=c
   ·rw[Mu q2]at h2
    rw[Mu (q1.trans q2)]
    exact oz h1 h2
   ·rw[Mr q2]at h2
    rw[Mr (by rw[q1];exact q2),q1];exact h2
  ·rw[Mr q1]at h1
   have d:=QS h1
   by_cases q2:b=c
   ·rw[Mr (by rw[←q2];exact q1),←q2];exact h1
   ·rw[Mr q2]at h2
    have e:=QS h2
    rw[Mr (by omega)]
    exact MX (by omega)
theorem lQ:∀{x y},cg x y=false->cg y x=false->x=y
 |[],[],_,_=>rfl
 |[],_::_,h,_=>by cases h
 |_::_,[],_,h=>by cases h
 |a::as,b::bs,h1,h2=>by
  unfold cg at h1 h2
  by_cases q:a=b
  ·rw[Mu q]at h1
   rw[Mu q.symm]at h2
   rw[q,lQ h1 h2]
  ·rw[Mr q]at h1
   rw[Mr (Ne.symm q)]at h2
   have:=of_decide_eq_false h1
   have:=of_decide_eq_false h2
   omega
theorem uj{p q:Nat->Bool}:∀{L:List Nat},(∀l∈L,p l=true->q l=true)->∀{i},i∈L->p i=false->q i=true->L.countP p<L.countP q
 |[],_,i,h,_,_=>by cases h
 |a::L,hpq,i,c,h1,h2=>by
  have le:L.countP p<=L.countP q:=List.countP_mono_left λl b=>hpq l (Mo a b)
  rcases MH.mp c with rfl|c
  ·rw[List.countP_cons_of_neg (by rw[h1];exact Ms),List.countP_cons_of_pos h2]
   omega
  ·have ih:=uj (λl b=>hpq l (Mo a b)) c h1 h2
   rw[List.countP_cons,List.countP_cons]
   have:(if p a=true then 1 else 0)<=(if q a=true then 1 else 0):=by
    by_cases z:p a=true
    ·rw[Mu z,Mu (hpq a Mq z)];exact Mw 1
    ·rw[Mr z];exact N2 _
   omega
noncomputable def gG(ks:LI)(i:Nat):Nat:=(Mv ks.length).countP λj=>cg (ks.getD j []) (ks.getD i [])
theorem rD{ks:LI}{i j:Nat}(a:i<ks.length)(h:cg (ks.getD i []) (ks.getD j [])=true):gG ks i<gG ks j:=
 uj (λl _ b=>oz b h) (MO.mpr a) (hZ _) h
theorem yc{ks:LI}{i j:Nat}(b:i<ks.length)(c:j<ks.length):decide (gG ks i<gG ks j)=cg (ks.getD i []) (ks.getD j []):=by
 cases h:cg (ks.getD i []) (ks.getD j [])with
 |true=>exact MX (rD b h)
 |false=>
  refine M5 λz=>?_
  cases a:cg (ks.getD j []) (ks.getD i [])with
  |true=>have:=rD c a;omega
  |false=>
   have e:=lQ h a
   unfold gG at z
   rw[e]at z
   exact Nf _ z
theorem Il{ks:LI}(nd:ks.Nodup){i j:Nat}(a:i<ks.length)(b:j<ks.length)(h:gG ks i=gG ks j):i=j:=by
 have e:ks.getD i []=ks.getD j []:=by
  refine lQ ?_ ?_
  ·cases z:cg (ks.getD i []) (ks.getD j [])with
   |false=>rfl
   |true=>have:=rD a z;omega
  ·cases z:cg (ks.getD j []) (ks.getD i [])with
   |false=>rfl
   |true=>have:=rD b z;omega
 rw[Mp,Mp,Mn a,Mn b]at e
 have c:ks[i]=ks[j]:=e
 rcases Pe i j with z|z|z
 ·exact MM c (OA.mp nd i j a b z)
 ·exact z
 ·exact MM c.symm (OA.mp nd j i b a z)
noncomputable abbrev Up(l:LI):Prop:=l.Pairwise λa b=>cg a b=true
theorem v5:∀{l m:LI},Up l->Up m->(∀x,x∈l↔x∈m)->l=m
 |[],[],_,_,_=>rfl
 |[],b::m,_,_,h=>by have:=(h b).mpr Mq;cases this
 |a::l,[],_,_,h=>by have:=(h a).mp Mq;cases this
 |a::l,b::m,h1,h2,h=>by
  obtain⟨d,f⟩:=PQ.mp h1
  obtain⟨q1,q2⟩:=PQ.mp h2
  have e:a=b:=by
   rcases MH.mp ((h a).mp Mq)with z|z
   ·exact z
   ·rcases MH.mp ((h b).mpr Mq)with w|w
    ·exact w.symm
    ·have:=oz (q1 a z) (d b w)
     rw[hZ]at this;cases this
  subst e
  congr 1
  refine v5 f q2 λx=>⟨λc=>?_,λc=>?_⟩
  ·rcases MH.mp ((h x).mp (Mo a c))with rfl|z
   ·have:=d x c;rw[hZ]at this;cases this
   ·exact z
  ·rcases MH.mp ((h x).mpr (Mo a c))with rfl|z
   ·have:=q1 x c;rw[hZ]at this;cases this
   ·exact z
end L2.Hs
namespace L2.Hs
open PySem PySem.W PyProof.Rows
section
variable{prog:Program}{w:MY}{A:M8}{E:Mh->Ml->Prop}{s:Ml}
theorem vf{b:Bool}{Q:Bool->Ml->Prop}:∀{xs ys:List Int} {us vs:List Mh} (i:Nat),ItemsAre (Ru prog w) xs us->ItemsAre (Ru prog w) ys vs->∀n m:Nat,(decide (n+us.length<m+vs.length)=decide (xs.length<ys.length))->Q (cg xs ys) s->KatLex prog w A true (decide (n+us.length<m+vs.length)) Q (us.zip vs) i s
 |[],ys,us,vs,i,hx,hy,n,m,e,q=>by
  cases hx
  cases hy with
  |nil=>rw[Ss];exact kat_nil (by rw[e];exact q)
  |cons c d=>rw[Ss];exact kat_nil (by rw[e];exact q)
 |x::xs,ys,us,vs,i,hx,hy,n,m,e,q=>by
  cases hx with
  |@cons _ u _ us' c d=>
   cases hy with
   |nil=>rw[List.zip_nil_right];exact kat_nil (by rw[e];exact q)
   |@cons y v ys' vs' h3 h4=>
    obtain⟨g,rfl⟩:=QV c
    obtain⟨h,rfl⟩:=QV h3
    rw[OV]
    refine kat_cons (wpAny_eqBool_int ?_)
    unfold cg at q
    by_cases z:x=y
    ·rw[Mu z]at q
     rw[show(x==y)=true by rw[OP];exact z]
     refine kat_yes ?_
     have f:∀k l:Nat,decide (k+(us'.length+1)<l+(vs'.length+1))=decide (k+1+us'.length<l+1+vs'.length):=λk l=>decide_eq_decide.mpr (by omega)
     rw[MA,MA,f]
     refine vf (b:=b) (i+1) d h4 (n+1) (m+1) ?_ q
     rw[←f,←MA (a:=O5 x g),←MA (a:=O5 y h),e,MA,MA]
     exact decide_eq_decide.mpr (by omega)
    ·rw[Mr z]at q
     rw[show(x==y)=false by rw[TX];exact z]
     refine kat_no ?_
     cases j:(true&&i==0)with
     |true=>exact oneLt_int q
     |false=>exact kat_one _ _ (lt_int (show PySem.W.BoolBack Q (.bool _) s from q))
theorem I0{x y:Addr}{xs ys:List Int}{Q:Bool->Ml->Prop}(i:(IKd prog w).is s.heap xs x)(j:(IKd prog w).is s.heap ys y)(h:Q (cg xs ys) s):Mz (ML prog w) A (keyLt' (tuples' true) (.ref x) (.ref y)) Q E s:=by
 obtain⟨m,n,o,d,k,e,a⟩:=i
 obtain⟨o2,p,q,f,l,g,c⟩:=j
 refine kat_lt d e f g ?_
 have:=vf (A:=A) (b:=true) (Q:=Q) (s:=s) 0 a c 0 0 (by rw[OG,OG,a.length,c.length]) h
 rw[OG,OG,M0,M0]at this
 exact this
theorem uH:∀{ks:List (List Int×Addr)},(∀k∈ks,(IKd prog w).is s.heap k.1 k.2/\1<=k.1.length)->∃fs:List Mh,KatTups s.heap (ks.map λk=>My k.2) fs/\fs.length=ks.length/\∀v∈fs,∃n t,v=O5 n t
 |[],_=>⟨[],trivial,rfl,λv a=>by cases a⟩
 |k::ks,h=>by
  obtain⟨fs,d,f,g⟩:=uH λi j=>h i (Mo k j)
  obtain⟨⟨o,its,n,l,m,hd,c⟩,q⟩:=h k Mq
  have b:=c.length
  have p:0<its.size:=by rw[←M0,←b];omega
  have e:=getElem?_pos its 0 p
  refine⟨its[0]::fs,KatTups.cons l m hd e d,by rw[MA,MA,f],λv a=>?_⟩
  rcases MH.mp a with rfl|a
  ·exact items_int c _ (by rw[←P9];exact NB _)
  ·exact g v a
theorem xW{a:Addr}{ks:List (List Int×Addr)}{n:Nat}{P:PySem.Fin->Ml->Prop}(J:s.heap.get? a=some (Ph "list" (ks.map λk=>My k.2).toArray n))(hk:∀k∈ks,(IKd prog w).is s.heap k.1 k.2/\1<=k.1.length)(nd:(ks.map (·.1)).Nodup)(h64:ks.length<64)
  (h:∀(h':Heap) (l:List (List Int×Addr)) (n':Nat),l.Perm ks->Up (l.map (·.1))->h'.get? a=some (Ph "list" (l.map λk=>My k.2).toArray n')->(∀b o,b≠a->s.heap.get? b=some o->h'.get? b=some o)->P (.done (.ret .none)) {s with heap:=h'}):
  Mz (ML prog w) A (Builtin.«list.sort» ⟨[.ref a],[]⟩) P E s:=by
 have ha:a<s.heap.objs.size:=MI J
 rw[list_sort_plain]
 refine on (listItems_at J rfl ?_)
 refine on (RB J rfl ?_ (by simp[Of];omega) (by simp))
 obtain⟨D,K⟩:∃D,(s.heap.update a (NT λ_=>#[])).get? a=some (Ph "list" #[] D):=⟨_,get?_update_seq J (λ_=>#[])⟩
 refine on (seqEpoch_at K rfl ?_)
 refine on (Se ?_ (by simp[Of];omega))
 refine on (wpAny_newList ?_ (N2 _))
 refine NI ?_
 generalize q:(ks.map λk=>My k.2)=vs at*
 have u:vs.length=ks.length:=by rw[←q,Mj]
 have d:(((s.heap.update a (NT λ_=>#[])).push (Ph "tuple" vs.toArray 0)).push (Ph "list" #[] 0)).get? a=some (Ph "list" #[] D):=by
  rw[Vs _ _ _ (by rw[size_push',Heap.size_update];exact M6 (Ra ha)),Vs _ _ _ (by rw[Heap.size_update];exact M6 ha)]
  exact K
 have keep:∀b o,b≠a->s.heap.get? b=some o->(((s.heap.update a (NT λ_=>#[])).push (Ph "tuple" vs.toArray 0)).push (Ph "list" #[] 0)).get? b=some o:=λb o R e=>by
  refine Mi _ (Mi _ ?_)
  rw[OI _ _ _ _ R];exact e
 show Mz (ML prog w) A _ P E {s with heap:=((s.heap.update a (NT λ_=>#[])).push (Ph "tuple" vs.toArray 0)).push (Ph "list" #[] 0)}
 generalize hh6:((s.heap.update a (NT λ_=>#[])).push (Ph "tuple" vs.toArray 0)).push (Ph "list" #[] 0)=h6 at d keep
 dsimp only
 have L:∀(l:List (List Int×Addr)) (y:Array Mh),l.Perm ks->Up (l.map (·.1))->y=(l.map λk=>My k.2).toArray->P (.done (.ret .none)) {s with heap:=h6.update a (NT λ_=>y)}:=λl y p1 p2 e=>by
  refine h _ l _ p1 p2 (by rw[←e];exact get?_update_seq d λ_=>y) λb o R S=>?_
  rw[OI _ _ _ _ R];exact keep b o R S
 by_cases H:vs.toArray.size<2
 ·rw[Mu H,Mu H]
  refine on (Mg ?_)
  rw[StateT.run_pure]
  refine on (Mg ?_)
  dsimp only
  refine on (seqEpoch_at d rfl ?_)
  have U:((arrOf (SortSt.mk' general' (vs.toArray.zip vs.toArray) #[] 7 none)).map (·.2))=vs.toArray:=by
   show(vs.toArray.zip vs.toArray).map (·.2)=_
   apply Array.toList_inj.mp
   rw[Array.toList_map,Array.toList_zip]
   exact List.map_snd_zip (Mw _)
  rw[U]
  refine on (RB d rfl ?_ (by simp) (by simp[Of];omega))
  simp only[O8,MD,Nh]
  refine Mg (L ks _ (.refl _) ?_ (by rw[q]))
  have M:ks.length<2:=by rw[←u];simpa using H
  match ks,M with
  |[],_=>exact Rx
  |[k],_=>exact Rl _ _
  |_::_::_,M=>simp at M;omega
 ·rw[Mr H,Mr H]
  have h2':2<=ks.length:=by rw[←u];simp at H;omega
  have F:∀k∈ks,(IKd prog w).is h6 k.1 k.2/\1<=k.1.length:=λk V=>by
   obtain⟨⟨o,its,m,W,h3,h4,h5⟩,M⟩:=hk k V
   refine⟨⟨o,its,m,keep _ _ (λz=>?_) W,h3,h4,h5⟩,M⟩
   rw[z,J]at W
   cases W
   exact MM (OH.inj h3) (by decide)
  obtain⟨fs,t1,t2,t3⟩:=uH (s:={s with heap:=h6}) F
  rw[q]at t1
  refine on (kat_kind (T:= .type "int") t1 (by omega) (λv hv=>?_) rfl ?_)
  ·obtain⟨x,t,rfl⟩:=t3 v hv
   exact Looks.of_pure rfl
  show Mz _ _ (StateT.run sortRuns' (SortSt.mk' (tuples' true) (vs.toArray.zip vs.toArray) #[] 7 none)>>=_) _ _ _
  have I:(ks.map (·.1)).length=vs.length:=by rw[Mj,u]
  have at_:∀i,i<vs.length->∃k∈ks,vs.getD i Nl= .ref k.2/\(ks.map (·.1)).getD i []=k.1/\ks[i]?=some k:=λi c=>by
   have f:i<ks.length:=by omega
   refine⟨ks[i],NB f,?_,?_,Mn f⟩
   ·rw[←q,Mp,Mt,Mn f];rfl
   ·rw[Mp,Mt,Mn f];rfl
  refine on (M9 (kat_run (κ:=tuples' true) (ks:=vs) (vs:=vs) (Q:=λg s'=>s'={s with heap:=h6}/\failedOf g=none/\∃p:Array Nat,Pm (gG (ks.map (·.1))) vs.length p/\So (gG (ks.map (·.1))) p vs.length/\arrOf g=p.map (kas_item (vs.toArray.zip vs.toArray)))
   (G:=λp s'=>s'={s with heap:=h6}/\Pm (gG (ks.map (·.1))) vs.length p/\So (gG (ks.map (·.1))) p vs.length) rfl (by omega) (by omega) (λp g s' a1 a2 a3 a4=>⟨a4.1,a3,p,a4.2.1,a4.2.2,a2⟩)
   (Rn.wp (lt:=ltR (gG (ks.map (·.1)))) (n:=vs.length) (λi j c B C hC=>?_) (λp hp=>⟨rfl,hp⟩) (EW (by omega) λi j c B X=>Il nd (by rw[I];exact c) (by rw[I];exact B) X))) (λr s' X=>?_) λ_ _ e=>e)
  ·obtain⟨k1,m1,D,f1,_⟩:=at_ i c
   obtain⟨k2,m2,e2,f2,_⟩:=at_ j B
   unfold kas_ask
   rw[D,e2]
   refine I0 (F k1 m1).1 (F k2 m2).1 ?_
   have:=yc (ks:=ks.map (·.1)) (i:=i) (j:=j) (by rw[I];exact c) (by rw[I];exact B)
   rw[f1,f2]at this
   rw[←this];exact hC
  ·obtain⟨⟨⟩,g⟩:=r
   obtain⟨rfl,hf,p,Y,so,Z⟩:=X
   dsimp only
   have U:(arrOf g).map (·.2)=(p.toList.map λi=>vs.getD i Nl).toArray:=kat_snds rfl Z
   have N:=Y.sz
   rw[U]
   refine on (seqEpoch_at d rfl ?_)
   refine on (RB d rfl ?_ (by simp) (by simp[Of];omega))
   rw[hf]
   simp only[O8,MD,Nh]
   have O:∀i∈p.toList,i<vs.length:=λi c=>MO.mp (Y.perm.mem_iff.mp c)
   refine Mg (L (p.toList.map λi=>ks.getD i ([],0)) _ ?_ ?_ ?_)
   ·refine(Y.perm.map _).trans (R8 ?_)
    rw[u]
    refine Pk (by simp) λi q1 q2=>?_
    rw[Pl,PP,Mp,Mn q2]
    rfl
   ·rw[MK]
    unfold Up
    rw[Q0]
    refine OA.mpr λi j c B hij=>?_
    have f:i<vs.length:=by simpa[N]using c
    have hj':j<vs.length:=by simpa[N]using B
    have gd:∀x (hx:x<p.toList.length),p.getD x 0=p.toList[x]:=λx hx=>by
     have:x<p.size:=by simpa using hx
     simp[OF,this]
    have z:=so i j hij hj'
    unfold ky at z
    rw[gd i c,gd j B]at z
    obtain⟨k1,m1,D,f1,g1⟩:=at_ p.toList[i] (O _ (NB c))
    obtain⟨k2,m2,e2,f2,g2⟩:=at_ p.toList[j] (O _ (NB B))
    have:=yc (ks:=ks.map (·.1)) (i:=p.toList[i]) (j:=p.toList[j]) (by rw[I];exact O _ (NB c)) (by rw[I];exact O _ (NB B))
    rw[MX z,f1,f2]at this
    simp only[QD]
    rw[Mp,Mp,g1,g2]
    exact this.symm
   ·rw[MK]
    congr 1
    refine Nk λi c=>?_
    obtain⟨k1,m1,D,f1,g1⟩:=at_ i (O i c)
    rw[D]
    simp only[QD]
    rw[Mp,g1]
    rfl
end
end L2.Hs
namespace L2.Hs
open PySem PySem.W PyProof.Rows
theorem AG{α β:Type}{f:α->β}{vs g:List β}(p:vs.Perm g):∀{xs:List α},g=xs.map f->∃ks:List α,ks.Perm xs/\vs=ks.map f:=by
 induction p with
 |nil=>
  intro xs e
  cases xs with
  |nil=>exact⟨[],.refl _,rfl⟩
  |cons _ _=>cases e
 |cons x _ ih=>
  intro xs e
  cases xs with
  |nil=>cases e
  |cons a xs=>
   cases e
   obtain⟨ks,c,d⟩:=ih rfl
   exact⟨a::ks,c.cons a,by rw[d];rfl⟩
 |swap x y l=>
  intro xs e
  match xs,e with
  |[],e=>cases e
  |[_],e=>cases e
  |a::b::xs,e=>
   cases e
   exact⟨b::a::xs,.swap _ _ _,rfl⟩
 |trans _ _ ih1 ih2=>
  intro xs e
  obtain⟨ks,c,d⟩:=ih2 e
  obtain⟨h,i,j⟩:=ih1 d
  exact⟨h,i.trans c,j⟩
section
variable{prog:Program}{w:MY}{A:M8}{E:Mh->Ml->Prop}{s:Ml}
theorem wf{a:Addr}{xs:List (List Int×Addr)}{Q:Mh->Ml->Prop}(D:A.handled=none)(S:p6 prog w s.heap a xs)(F:∀x∈xs,1<=x.1.length)(G:xs.length<64)
  (h:∀(l:Addr) (h':Heap) (f u:Nat) (g:List (List Int×Addr)),g.Perm xs->Up (g.map (·.1))->h'.get? l=some (Ph "list" (g.map λk=>My k.2).toArray u)->s.heap.objs.size<=l->(∀b o,s.heap.get? b=some o->h'.get? b=some o)->s.toks<=f->Q (.ref l) {s with heap:=h',toks:=f}):
  Mz (ML prog w) A (call (.builtin "sorted") [.ref a]) Q E s:=by
 obtain⟨o,es,ep,t,H,v,hd,i,y,I,T,J,j⟩:=S
 have B:es.size=xs.length:=by rw[←M0,i,Mj]
 have K:t.fits es.size=true:=T.fits (by rw[Mj,B])
 refine Calls.call_function_entry kind_sorted plain_sorted entry_sorted (args_sorted1 _) ?_
 unfold Builtin.«sorted»
 refine on (m:=checkCount "sorted" 1 1 _) (Mg ?_)
 refine on (uC D H v.1 hd T K J j (by omega) λn f vs keep p htk pv=>?_)
 rw[i,MK]at pv
 obtain⟨ks,q,rfl⟩:=AG pv rfl
 have L:ks.length=xs.length:=q.length_eq
 refine on (wpAny_newList ?_ (by rw[Mj,Of];omega))
 have c:∀b d,s.heap.get? b=some d->(n.push (Ph "list" (ks.map λk=>My k.2).toArray 0)).get? b=some d:=λb d e=>Mi _ (keep b d e)
 have r:(n.push (Ph "list" (ks.map λk=>My k.2).toArray 0)).get? n.objs.size=some (Ph "list" (ks.map λk=>My k.2).toArray 0):=MB _ rfl
 show Mz _ _ _ _ _ {s with heap:=n.push (Ph "list" (ks.map λk=>My k.2).toArray 0),toks:=f}
 refine on (NI (Ng slot_list_sort ⟨_,r,rfl⟩ entry_list_sort (xW r (λk C=>⟨?_,F k (q.mem_iff.mp C)⟩) ((q.map (·.1)).nodup_iff.mpr y) (by omega) λh' g u q1 q2 q3 q4=>⟨_,rfl,?_⟩) (args_list_sort _)))
 ·obtain⟨M,its,m,N,O,P,R⟩:=I k (q.mem_iff.mp C)
  exact⟨M,its,m,c _ _ N,O,P,R⟩
 ·refine Mg ⟨_,rfl,h n.objs.size h' f u g (q1.trans q) q2 q3 p (λb d e=>q4 b d (λz=>?_) (c b d e)) htk⟩
  have:=MI e
  exact MM (z▸this) (Nat.not_lt.mpr p)
end
end L2.Hs
namespace L2.Hs
open PySem PySem.Spec PyProof.Rows
section
variable{prog:Program}{w:MY}
noncomputable def p7(prog:Program)(w:MY)(a:Addr)(xs:List (List Int×Addr))(h:Heap):Prop:=
 ∃o es ep t,h.get? a=some o/\o.ExactSet/\o.data= .set es ep t/\(es.toList=xs.map λx=>(hsh prog w x.1,My x.2))/\(xs.map (·.1)).Nodup/\(Tb t (xs.map λx=>hsh prog w x.1))/\t.plain=true/\t.led=!(w.params.followText "set-order")
noncomputable def lA(prog:Program)(w:MY)(a:Addr)(xs:List (List Int×Addr)):HO:= .ext (p7 prog w a xs)
theorem p7.to{a:Addr}{xs:List (List Int×Addr)}{h:Heap}(S:p7 prog w a xs h)(b:∀x∈xs,(IKd prog w).is h x.1 x.2):p6 prog w h a xs:=by
 obtain⟨o,es,ep,t,c,d,e,f,g,i⟩:=S
 exact⟨o,es,ep,t,c,d,e,f,g,b,i⟩
theorem uQ{a:Addr}{xs:List (List Int×Addr)}{h:Heap}{H:Hp}(S:p7 prog w a xs h):bd prog w H h a (lA prog w a xs):=by
 refine⟨S,?_,λb c z k=>?_⟩
 ·obtain⟨o,_,_,_,e,_⟩:=S
  exact⟨o,e⟩
 ·obtain⟨o,es,ep,t,e,r⟩:=z
  exact⟨o,es,ep,t,k _ e,r⟩
theorem BK{k:List Int}:∀{its:List Mh},ak (k.map V.int) its->ItemsAre (Ru prog w) k its:=by
 induction k with
 |nil=>intro its h;cases h;exact .nil
 |cons i k ih=>
  intro its h
  cases h with
  |cons a b=>
   obtain⟨t,rfl⟩:=a
   exact .cons (by simp[Ru,SD]) (ih b)
end
section
variable{X:Cx}
theorem lU{a:List (Addr×Obj)}{c:St}{H:Hp}{s:Ml}{b:Addr}{k:List Int}(I:Inv X a c H s)(h:SqT X.K H b (k.map V.int)):(IKd X.prog X.w).is s.heap k b:=by
 obtain⟨its,d,⟨o,e,f,n,hd⟩,_⟩:=I.tuple h
 exact⟨o,its.toArray,n,e,f,hd,BK d⟩
theorem tb0{b:Bool}:Tb (.fresh 0 0 b) []:=⟨.inl rfl,rfl,λi j a b h=>by simp[Vj]at*,λi j h=>by simp[Vj]at h,rfl,by show 0*5<7*3;decide,λi h j c=>by simp at c⟩
theorem qa:∀a:List (List Int×Addr),ak (a.map λz=>V.ref z.2) (a.map λk=>My k.2)
 |[]=> .nil
 |_::a=> .cons rfl (qa a)
theorem GK:Mks X (newSet (.type "set")) λD=>lA X.prog X.w D []:=λa s c H E Q I h=>by
 unfold newSet setsByText
 refine on (on (Qw (Mg ?_)))
 dsimp only
 simp only[newObj]
 refine on (wpAny_alloc (Mg (h _ (I.laid (t':=s.toks) (λ_ _ q=>Mi _ q) (Mw _) (uQ ?_)) λb o e=>Mi _ e)))
 exact⟨_,#[],0,_,MB _ rfl,⟨rfl,rfl,rfl⟩,rfl,rfl,.nil,tb0,rfl,rfl⟩
noncomputable def zA(P:Program)(w:MY)(K:Frag)(D:Addr)(e:TE):TB:=λd H Q=>e d H λv c=>∃xs k b,c D=some (lA P w D xs)/\v= .ref b/\SqT K c b (k.map V.int)/\(∀x∈xs,SqT K c x.2 (x.1.map V.int))/\xs.length<63/\
 ∀a,(k∈xs.map (·.1)->a=xs)->(k∉xs.map (·.1)->a.Perm ((k,b)::xs))->Q d (upd c D (lA P w D a))
theorem sT{a:Expr}{gens:List No}{scope:Scope}{pos:Pos}{d:Nat}{D:Addr}{y:TE}(z:X.A.units+1<cLine)(J:gens[d+1]?=none)(L:PE X a y)(l:X.xe=λ_ _=>False):PB X (.S a) gens scope pos d D (zA X.prog X.w X.K D y):=by
 intro c s B H Q I h k Q' E' M
 unfold gB
 rw[J]
 show Mz _ _ ((do let v ←eval a X.env;Pc a.pos;let _ ←call (.builtin "set.add") [.ref D,v])>>=λ_=>k) _ _ _
 have g:=L c s B H _ I h
 rw[l]at g
 refine on (on (M9 g (λu i m=>?_) λ_ _ f=>f.elim))
 obtain⟨v,H1,j,r,xs,N,b,C,rfl,E,G,hn,q⟩:=m
 cases r
 have S:p7 X.prog X.w D xs i.heap:=(j.hok D _ C).1
 have O:p6 X.prog X.w i.heap D xs:=S.to λx h=>lU j (G x h)
 obtain⟨o,es,ep,t,P,R,_⟩:=S
 refine on (N6 (on (Ng F.slot_set_add ⟨o,P,R.1⟩ F.entry_set_add ?_ (F.args_set_add_2 _ _))))
 unfold Builtin.«set.add» Builtin.Frozenset.oneOther
 simp only[List.isEmpty_nil,bind_assoc]
 unfold Builtin.Frozenset.addrOf setAdd
 refine on (Mg ?_)
 try dsimp only
 refine on (Mg ?_)
 try dsimp only
 refine on (NI (on ((IKd X.prog X.w).pyHash z (lU j E) ?_)))
 refine K1 (s:={i with toks:=i.toks+(IKd X.prog X.w).draws N}) z O (lU (s:=i) j E) hn λh' p T U c1 c2=>?_
 show Mz _ _ (ret Nl) _ _ _
 refine Mg ⟨_,rfl,Mg (M _ B _ (j.write (by rw[C];trivial) (.inl rfl) (λb u n e=>(T.2 b n).trans e) ?_ (uQ ?_)) (q p c1 c2))⟩
 all_goals obtain⟨o,es,ep,t,g,m,V,W,Y,G,Z⟩:=U
 ·exact⟨o,g⟩
 ·exact⟨o,es,ep,t,g,m,V,W,Y,Z⟩
noncomputable def kC(c:Addr->HO)(vars:List Str)(caps:List Nat)(d:TI)(e:Addr->It->TB):TE:=λa H Q=>d a H λJ b=>∀D,b D=none->e D J (jG vars caps a) (upd b D (c D)) λ_ f=>Q (.ref D) f
theorem FQ{d a b:Expr}{f:List Expr}{rest:List No}{scope:Scope}{pos:Pos}{j vars:List Str}{caps:List Nat}{g:TG}{tt:TT}{o:Addr->TB}{p:TI}(r:X.calm=true)(S:CmpScope X scope j vars caps)(t:PI X a b p)
  (u:∀(cl:List (Str×Addr)) (C:Addr) (k:List Addr) (s:Ml) (H:Hp),PG (aE X j scope cl C k s H) a g/\dH (aE X j scope cl C k s H) f tt/\∀D,PB (aE X j scope cl C k s H) (.S d) (⟨a,b,f,0⟩::rest) scope pos 0 D (o D))
  (hs:∀x,Nj b X.env x=pure x:=by intro _;rfl):PE X (.SetComp d (⟨a,b,f,0⟩::rest) scope pos) (kC (λD=>lA X.prog X.w D []) vars caps p λD J=>cx J g tt (o D)):=by
 intro i s y H Q I h
 refine OQ (use:=none) rfl hs (S.clo I.ok) S.kind S.loc (M9 (t i s y H _ I h) (λv N z=>M9 z (λB O E=>?_) λ_ _ x=>x) λ_ _ x=>x)
 obtain⟨it,k,P,J,R,e,F,T,l,f2,q⟩:=E
 subst e
 refine gA (c:= .S d) GK (RR:=λacc C=>Uo (ML X.prog X.w) X.A X.xe none _ acc C) r S u F T l f2 q λD C s' G m K ns L M=>?_
 exact⟨m,ns,λh' n=>⟨.ref D,G,K.letgo L n,rfl,M⟩⟩
noncomputable def uU(P:Program)(w:MY)(K:Frag):List V->Hp->VK->Prop:=λxs H Q=>∃a ys,xs=[.ref a]/\H a=some (lA P w a ys)/\(∀x∈ys,SqT K H x.2 (x.1.map V.int)/\1<=x.1.length)/\ys.length<64/\
 ∀(l:Addr) (b:List (List Int×Addr)),H l=none->b.Perm ys->Up (b.map (·.1))->Q (.ref l) (upd H l (.lst (b.map λz=>V.ref z.2)))
theorem uD(e:X.calm=true):cz X (.builtin "sorted") (uU X.prog X.w X.K):=by
 intro c s m H xs us Q I r h
 obtain⟨a,ys,rfl,ha,d,hn,q⟩:=h
 obtain⟨u,rfl,rfl⟩:=jL r
 have S:p7 X.prog X.w a ys s.heap:=(I.hok a _ ha).1
 refine wf (I.ok.hd e) (S.to λx h=>lU I (d x h).1) (λx h=>(d x h).2) hn λl h' f g b p i j hs keep n=>?_
 refine⟨.ref l,_,I.laid (t':=f) (o:= .lst (b.map λz=>V.ref z.2)) keep hs ⟨?_,b.map λk=>My k.2,g,?_,j⟩,rfl,q l b (I.hok.fresh hs) p i⟩
 ·rw[Mj,p.length_eq,Of];omega
 ·exact qa b
end
end L2.Hs
namespace L2.Pu
open PySem PySem.Spec PyProof.Rows L2.Hs
noncomputable def dy(nv:Nat)(caps:List Nat)(it:FL)(tg:TgF)(tt:Dn->M Bool)(b:FL)(a:List D->Option D):FD:=λδ β=>match it δ β with
 |none=>none
 |some (.error C,β1)=>some (.error C,β1)
 |some (.ok ds,β1)=>match cLp tg tt b ds (cSt nv caps δ) β1 with
  |some (.ok os,β2)=>(a os).map λd=>(.ok d,β2)
  |_=>none
section
variable{K:Frag}{E:St->XK}
theorem qd{R:AR}{p:Addr->HO}{c:List D->Option D}{vars:List Str}{caps:List Nat}{it:FL}{g:TG}{tg:TgF}{tt:Dn->M Bool}{N:Addr->TB}{b:FL}(V:cy K g tg)(W:dZ tg)(X:∀D,d4 K R D (N D) b)
  (r0:∀F H D,R.R F (upd H D (p D)) D []) (Y:∀os d,c os=some d->R.Z os) {O:St} {H:Hp} {Q P:VK} (h:tV K (dy vars.length caps it tg tt b c) E O H P)
  (k:∀F u f D os d,Fr F u f->¬F.A D->R.R F u D os->c os=some d->(∀v j,To F u j f->Den K F j d v->P v j)->Q (.ref D) u):
  kC p vars caps (iV K it E) (λD J=>cx J g (tVT K tt E0) (N D)) O H Q:=by
 obtain⟨F,δ,β,fr,S,r,f,e,h⟩:=h
 unfold dy at e
 refine⟨F,δ,β,fr,S,?_⟩
 split at e
 ·cases e
 ·rename_i C β1 q
  cases e
  exact⟨.error C,_,q,h⟩
 ·rename_i ds β1 q
  split at e
  ·rename_i os β2 q2
   cases hd:c os with
   |none=>rw[hd]at e;cases e
   |some d=>
    rw[hd]at e
    cases e
    refine⟨.ok ds,β1,q,λJ B t hJ D m=>?_⟩
    have i:¬F.A D:=t.fr.fresh m
    have nb:∀b l,F.bg=some (b,l)->D≠b/\D≠l:=λb l z=>⟨λw=>i (w▸(fr.bgA b l z).1),λw=>i (w▸(fr.bgA b l z).2.1)⟩
    have T:=t.fr.upd (p D) m
    have G:Fr ⟨λa=>F.A a\/a=D,F.bg⟩ (upd B D (p D)) β1:=by
     refine⟨λa ha z=>?_,λb l z=>let ⟨x,y,w⟩:=fr.bgA b l z;⟨.inl x,.inl y,w⟩,T.fr.bag⟩
     rcases ha with ha|ha
     ·exact T.fr.occ a ha z
     ·subst ha;rw[ai]at z;cases z
    have s:Tr F B ⟨λa=>F.A a\/a=D,F.bg⟩ (upd B D (p D)):=⟨λa ha hs z=>by
     rcases z with z|z
     ·exact ha z
     ·subst z;exact hs m,λa o ha z=>by rw[upd_ne (ne_of_none z m)];exact z,rfl⟩
    refine pC (R:=R) (D:=D) (as:=[]) (os:=os) V W (X D) G (.inr rfl) nb (um (S.tr ((t.tr fr).trans s))) (r0 _ _ _) (hJ.tr s) q2 (Y os d hd) λσ1 j I vk3 L=>?_
    have U:To F B j f:=by
     refine⟨λa o z n=>I.kp a o (by rw[upd_ne (ne_of_none z m)];exact z) (ne_of_none z m) n,λa ha z=>I.fr.occ a (Os ha) z,fr.bgA,I.fr.bag⟩
    exact k F j f D os d U.fr i (R.tr (F:=⟨λa=>F.A a\/a=D,F.bg⟩) L (λ_ z=>z) ⟨λa ha _ z=>ha (Os z),λa o _ z=>z,rfl⟩) hd λv H3 t4 hv=>h v H3 ((t.trans U).trans t4) hv
  ·cases e
noncomputable abbrev tpI(k:List Int):D:= .tup (k.map .int)
theorem pV{F:Fx}{H:Hp}{k:List Int}{v:V}(h:Den K F H (tpI k) v):∃b,v= .ref b/\SqT K H b (k.map V.int):=by
 obtain⟨a,xs,rfl,sq,c⟩:=Den.sqT h
 cases DenL.ints k c
 exact⟨a,rfl,sq⟩
theorem fY{k l:List Int}(h:tpI k=tpI l):k=l:=by
 injection h with h
 exact R6 (λa b z=>by injection z)|>.mp h
theorem kX{α:Type} [BEq α] [LawfulBEq α]:∀{l m:List α},l.Nodup->(∀x∈l,x∈m)->l.length<=m.length
 |[],_,_,_=>N2 _
 |a::l,m,nd,h=>by
  obtain⟨c,d⟩:=Nd.mp nd
  have:=kX (m:=m.erase a) d λx b=>(List.mem_erase_of_ne (λ(z:x=a)=>c (z▸b))).mpr (h x (Mo a b))
  rw[List.length_erase_of_mem (h a Mq)]at this
  have:=List.length_pos_of_mem (h a Mq)
  rw[MA]
  omega
noncomputable def RS(P:Program)(w:MY)(K:Frag):AR where
 R:=λF H D as=>∃xs,H D=some (lA P w D xs)/\(xs.map (·.1)).Nodup/\(∀x∈xs,Den K F H (tpI x.1) (.ref x.2)/\tpI x.1∈as)/\∀d∈as,∃k∈xs.map (·.1),d=tpI k
 Z:=λl=>∃ks:LI,ks.length<63/\∀d∈l,∃k∈ks,d=tpI k
 tr:=λh k t=>by
  obtain⟨xs,a,b,c,f⟩:=h
  exact⟨xs,k _ a,b,λx e=>⟨Den.tr t _ _ (c x e).1,(c x e).2⟩,f⟩
 zp:=λh=>by
  obtain⟨ks,a,b⟩:=h
  exact⟨ks,a,λd hd=>b d (OE _ hd)⟩
theorem BC{P:Program}{w:MY}{D:Addr}{f:Dn->M Pu.D}:d4 K (RS P w K) D (zA P w K D (tV K f E0)) (cEm f):=λF H δ β s N as os Q fr O u G R e S k=>by
 obtain⟨xs,T,nd,j,ha⟩:=R
 obtain⟨d,β1,U,V⟩:=M.bind_inv e
 cases V
 refine⟨F,δ,β,fr,G,E0.run U λv A t I=>?_⟩
 have B:=t.kp D _ T u
 obtain⟨ks,z1,J⟩:=S
 obtain⟨r,W,rfl⟩:=J d (M4 _ Mq)
 obtain⟨b,rfl,sq⟩:=pV I
 have c:∀x∈xs,Den K F A (tpI x.1) (.ref x.2):=λx h=>Den.tr (t.tr fr) _ _ (j x h).1
 have g:xs.length<63:=by
  have:=kX (m:=ks) nd λx C=>by
   obtain⟨y,X,rfl⟩:=MN.mp C
   obtain⟨l,Y,e⟩:=J _ (OE _ (j y X).2)
   rw[fY e];exact Y
  rw[Mj]at this
  omega
 refine⟨xs,r,b,B,rfl,sq,λx h=>?_,g,λi c1 c2=>?_⟩
 ·obtain⟨b',e,q⟩:=pV (c x h)
  cases e;exact q
 have L:ToD F D A (upd A D (lA P w D i)) s:=by
  refine⟨λa o h n _=>by rw[upd_ne n];exact h,λa h q=>?_,fr.bgA,λb l q=>?_⟩
  ·by_cases z:a=D
   ·subst z;rw[ai]at q;cases q
   ·rw[upd_ne z]at q;exact t.fr.occ a h q
  ·rw[upd_ne (u b l q).1.symm,upd_ne (u b l q).2.symm]
   exact t.fr.bag b l q
 have tt:=L.tr t.fr O
 refine k N _ ((t.toD D).trans L) (G.tr ((t.tr fr).trans tt)) ⟨i,ai,?_⟩
 by_cases hm:r∈xs.map (·.1)
 ·cases c1 hm
  refine⟨nd,λx h=>⟨Den.tr tt _ _ (c x h),OE _ (j x h).2⟩,λd hd=>?_⟩
  rcases NL.mp hd with hd|hd
  ·exact ha d hd
  ·exact⟨r,hm,Nb.mp hd⟩
 ·have p:=c2 hm
  refine⟨(p.map (·.1)).nodup_iff.mpr (Nd.mpr ⟨hm,nd⟩),λx h=>?_,λd hd=>?_⟩
  ·rcases MH.mp (p.mem_iff.mp h)with rfl|h
   ·exact⟨Den.tr tt _ _ I,M4 _ Mq⟩
   ·exact⟨Den.tr tt _ _ (c x h),OE _ (j x h).2⟩
  ·rcases NL.mp hd with hd|hd
   ·obtain⟨k2,Z,e⟩:=ha d hd
    exact⟨k2,(p.map (·.1)).mem_iff.mpr (Mo _ Z),e⟩
   ·exact⟨r,(p.map (·.1)).mem_iff.mpr Mq,Nb.mp hd⟩
noncomputable def Srt(ks:LI)(os:List D):Prop:=Up ks/\ks.length<63/\(∀k∈ks,1<=k.length/\tpI k∈os)/\∀d∈os,∃k∈ks,d=tpI k
theorem Srt.eq{ks d:LI}{os:List D}(a:Srt ks os)(b:Srt d os):ks=d:=v5 a.1 b.1 λx=>⟨λh=>by
 obtain⟨l,c,e⟩:=b.2.2.2 _ (a.2.2.1 x h).2
 rw[fY e];exact c,λh=>by
 obtain⟨l,c,e⟩:=a.2.2.2 _ (b.2.2.1 x h).2
 rw[fY e];exact c⟩
open Classical in
noncomputable def iD(os:List D):Option D:=if h:∃ks,Srt ks os then some (.lst (h.choose.map tpI))else none
theorem zZ{ks:LI}{os:List D}(h:Srt ks os):iD os=some (.lst (ks.map tpI)):=by
 have q:∃ks,Srt ks os:=⟨ks,h⟩
 unfold iD
 rw[dif_pos q,q.choose_spec.eq h]
theorem qg{os:List D}{d:D}(h:iD os=some d):∃ks,Srt ks os/\d= .lst (ks.map tpI):=by
 unfold iD at h
 split at h
 ·rename_i q
  cases h
  exact⟨_,q.choose_spec,rfl⟩
 ·cases h
theorem qJ{F:Fx}{H:Hp}:∀{a:List (List Int×Addr)},(∀z∈a,Den K F H (tpI z.1) (.ref z.2))->DenL K F H ((a.map (·.1)).map tpI) (a.map λz=>V.ref z.2)
 |[],_=>DenL.nil
 |z::a,h=>DenL.cons (h z Mq) (qJ λx b=>h x (Mo z b))
end
section
variable{X:Cx}{E:St->XK}{elt target iter:Expr}{ifs:List Expr}{rest:List No}{scope:Scope}{pos p pos':Pos}{Nc vars:List Str}{caps:List Nat}{g:TG}{tb:Addr->TB}
theorem zP{it:FL}{tg:TgF}{tt:Dn->M Bool}{b:FL}(i:Gl X "sorted")(hm:X.mg "sorted"=none)(o:X.calm=true)(S:CmpScope X scope Nc vars caps)(r:PI X target iter (iV X.K it E))
  (t:∀(cl:List (Str×Addr)) (C:Addr) (j:List Addr) (s:Ml) (H:Hp),PG (aE X Nc scope cl C j s H) target g/\dH (aE X Nc scope cl C j s H) ifs (tVT X.K tt E0)/\∀D,PB (aE X Nc scope cl C j s H) (.S elt) (⟨target,iter,ifs,0⟩::rest) scope pos 0 D (tb D))
  (u:cy X.K g tg) (A:dZ tg) (B:∀D,d4 X.K (RS X.prog X.w X.K) D (tb D) b) (hs:∀x,Nj iter X.env x=pure x:=by intro _;rfl):
  PE X (.Call (.Name "sorted" p) [.SetComp elt (⟨target,iter,ifs,0⟩::rest) scope pos] [] pos') (tV X.K (dy vars.length caps it tg tt b iD) E):=
 (jR (uD o) i hm (by kernel_rfl) (bh (FQ o S r t hs) dW)).imp λV H Q h=>by
  refine qd (Q:=λv G=>uU X.prog X.w X.K [v] G Q) u A B (λF H D=>⟨[],ai,.nil,λx a=>MM a (by simp),λd hd=>MM hd (by simp)⟩) (λos d e=>?_) h λF W I D os d fr J L e q=>?_
  ·obtain⟨ks,s,_⟩:=qg e
   exact⟨ks,s.2.1,s.2.2.2⟩
  ·obtain⟨ks,s,rfl⟩:=qg e
   obtain⟨xs,N,nd,a,ha⟩:=L
   have k:∀x∈xs,x.1∈ks:=λx h=>by
    obtain⟨l,f,e⟩:=s.2.2.2 _ (a x h).2
    rw[fY e];exact f
   have hn:xs.length<64:=by
    have:=kX (m:=ks) nd λy c=>by
     obtain⟨x,h,rfl⟩:=MN.mp c
     exact k x h
    rw[Mj]at this
    have:=s.2.1
    omega
   refine⟨D,xs,rfl,N,λx h=>?_,hn,λl O f n P=>?_⟩
   ·obtain⟨Y,e,q⟩:=pV (a x h).1
    cases e;exact⟨q,(s.2.2.1 _ (k x h)).1⟩
   ·have R:ks=O.map (·.1):=v5 s.1 P λy=>by
     refine⟨λc=>?_,λc=>?_⟩
     ·obtain⟨k2,T,e⟩:=ha _ (s.2.2.1 y c).2
      rw[fY e]
      exact(n.map (·.1)).mem_iff.mpr T
     ·obtain⟨x,h,rfl⟩:=MN.mp ((n.map (·.1)).mem_iff.mp c)
      exact k x h
    rw[R]at q
    exact q _ _ (fr.upd _ f) (Den.newL fr f (qJ λz U=>(a z (n.mem_iff.mp U)).1))
end
end L2.Pu
namespace L2.Hs
open PySem PySem.Spec PyProof.Rows
section
variable{prog:Program}{w:MY}{A:M8}{E:Mh->Ml->Prop}{s:Ml}
noncomputable def IsP(prog:Program)(w:MY)(h:Heap)(k:KyD)(a:Addr):Prop:=∃o n t b,h.get? a=some o/\o.cls= .type "tuple"/\o.data= .seq #[.int k.1 t,.ref b] n/\(IKd prog w).is h k.2 b
theorem IsP.ty{k:KyD}{a:Addr}(x:IsP prog w s.heap k a):s.TypeIs (.ref a) "tuple":=let ⟨o,_,_,_,ho,hc,_⟩:=x;⟨o,ho,hc⟩
theorem IsP.inj{h:Heap}{a:Addr}{x y:KyD}(f:IsP prog w h x a)(g:IsP prog w h y a):x=y:=by
 obtain⟨o,n,t,b,i,_,hd,j⟩:=f
 obtain⟨k,p,t',q,d,_,c,e⟩:=g
 obtain rfl:o=k:=MQ (i.symm.trans d)
 rw[hd]at c
 simp only[Data.seq.injEq,Array.mk.injEq,Pi,O5.injEq,My.injEq]at c
 obtain⟨⟨⟨l,_⟩,m,_⟩,_⟩:=c
 subst m
 exact P0 l ((IKd prog w).inj j e)
theorem Jn(k:List Int):hsh prog w k=hI k:=by unfold hsh hI;show tupleKeyHash _ _=_;unfold tupleKeyHash;rfl
theorem Jo{k:KyD}{a:Addr}{Q:Int->Ml->Prop}(g:A.units+1<cLine)(f:IsP prog w s.heap k a)(h:Q (hB true k) {s with toks:=s.toks+(k.2.length+3)}):Mz (ML prog w) A (pyHash (.ref a)) Q E s:=by
 have c:=f.ty
 obtain⟨o,n,t,b,i,_,hd,j⟩:=f
 unfold pyHash
 first|unfold pyHashByItsType|skip
 refine on (wpAny_cRoomFor_or (.inr (by omega)) ?_)
 refine on (Pf c F.slot_tuple_hash.lookup ?_)
 show Mz _ _ (if(some (Value.builtin "tuple.__hash__")==some Nl)=true then _ else _) Q E s
 rw[Mr (by rw[beq_builtin_none];exact Ms)]
 refine on (Pf c F.slot_tuple_hash.lookup ?_)
 show Mz _ _ (callSpecialIfBoundUnlessNone? (.ref a) "__hash__" _>>=_) Q E s
 refine on (wpAny_callSpecialIfBoundUnlessNone?_slot c F.slot_tuple_hash (Ng F.slot_tuple_hash c F.entry_tuple_hash ?_ (F.args_tuple_hash_1 _)))
 show Mz _ _ (Builtin.Tuple.tupleItemsOf (.ref a)>>=_) _ _ s
 refine on (SK i hd ?_)
 refine on ?_
 rw[←PL]
 simp only[O3,Pg]
 refine on (on (wpAny_pyHash_int ?_))
 refine Mg (on (on ((IKd prog w).pyHash g j ?_)))
 refine Mg (Mg ?_)
 have h':Q (hB true k) {s with toks:=s.toks+1+(k.2.length+1)+1}:=by
  have e:s.toks+1+(k.2.length+1)+1=s.toks+(k.2.length+3):=by omega
  rw[e];exact h
 refine wpAny_ret_mkInt ?_
 generalize l:Qa _=z
 have m:hB true k=reduceHash z:=by rw[←l,show(IKd prog w).hash k.2=hI k.2 from Jn k.2];rfl
 rw[m]at h'
 show Mz _ _ (if(decide (-(2:Int)^63<=z)&&decide (z<2^63))=true then _ else _) Q E _
 unfold reduceHash at h'
 by_cases d:(decide (-(2:Int)^63<=z)&&decide (z<2^63))=true
 ·rw[Mu d]
  rw[Mu d]at h'
  exact Mg h'
 ·rw[Mr d]
  rw[Mr d]at h'
  exact on (Pz (Mg h'))
theorem eq_p{x y:KyD}{a b:Addr}{Q:Bool->Ml->Prop}(q:A.units+1<cLine)(d:IsP prog w s.heap x a)(f:IsP prog w s.heap y b)(h:Q (decide (x=y)) s):Mz (ML prog w) A (eqBool (.ref a) (.ref b)) Q E s:=by
 unfold eqBool
 try with_reducible refine NI ?_
 show Mz _ _ (if(My a==My b)=true then _ else _) Q E s
 by_cases c:(My a==My b)=true
 ·rw[Mu c]
  have e:a=b:=by have:=eq_of_beq c;injection this
  subst e
  obtain rfl:=d.inj f
  exact on (Pz (Mg (by simpa using h)))
 ·rw[Mr c]
  refine on (wpAny_richCompare_same_room (op:= .Eq) d.ty f.ty F.slot_tuple_eq
   (Ng F.slot_tuple_eq d.ty F.entry_tuple_eq ?_ (F.args_tuple_eq_2 _ _)) (by omega))
  have j:=f.ty
  obtain⟨r,t,u,v,k,_,l,m⟩:=d
  obtain⟨z,B,C,D,n,_,o,p⟩:=f
  show Mz _ _ (Rh (.ref b) (.type "tuple")>>=_) _ _ s
  refine on (Oz j R3 ?_)
  simp only[NE,MD,Nh]
  refine on (SK k l ?_)
  refine on (SK n o ?_)
  refine on ?_
  simp only[OV,Ss,O3,Pg]
  refine on (on ((Ru prog w).eqBool (a:=x.1) (b:=y.1) (by simp[Ru,SD]) (by simp[Ru,SD]) ?_))
  by_cases g:x.1=y.1
  ·rw[MX g]
   refine Mg (on (on ((IKd prog w).eqBool q m p ?_)))
   by_cases i:x.2=y.2
   ·rw[MX i]
    rw[MX (P0 g i)]at h
    exact Mg (Mg (Mg ⟨_,rfl,(λe=>nomatch e),NJ h⟩))
   ·rw[M5 i]
    rw[M5 (λe=>i (Nq _ e))]at h
    exact on (Mg (Mg (Mg (Mg ⟨_,rfl,(λe=>nomatch e),NJ h⟩))))
  ·rw[M5 g]
   rw[M5 (λe=>g (Nq _ e))]at h
   exact on (Mg (Mg (Mg (Mg ⟨_,rfl,(λe=>nomatch e),NJ h⟩))))
theorem FI{k:List Int}{a:Addr}{m:Nat}{Q:Bool->Ml->Prop}(f:(IKd prog w).is s.heap k a)(h:Q true s):Mz (ML prog w) A (Vm (m+1) (.ref a)) Q E s:=by
 have g:=TV f
 obtain⟨o,c,n,i,_,hd,j⟩:=f
 unfold Vm
 refine on (Pf g F.slot_tuple_eq.lookup ?_)
 show Mz _ _ (Rh (.ref a) (.type "tuple")>>=_) _ _ s
 refine on (Oz g R3 ?_)
 simp only[NE,MD,Nh]
 refine on (N0 i hd ?_)
 refine on ?_
 show Mz _ _ (forIn c _ _) _ _ s
 rw[←PL]
 refine RH _ (λrest r s'=>r.1=none/\s'=s/\∀v∈rest,carriedByValue v=true) _ ?_ ?_ _ _ ⟨rfl,rfl,j.byValue⟩
 ·rintro v rest r s' ⟨d,rfl,b⟩
  rw[eqIsQuiet_byValue _ (b v Mq)]
  refine on (Mg ?_)
  simp only[NE,MD,Nh]
  exact Mg ⟨rfl,rfl,λu e=>b u (Mo _ e)⟩
 ·rintro⟨r1,l⟩ s' ⟨d,rfl,_⟩
  simp only at d
  subst d
  exact Mg h
theorem FJ{k:KyD}{a:Addr}{Q:Bool->Ml->Prop}(c:IsP prog w s.heap k a)(h:Q true s):Mz (ML prog w) A (Vm 8 (.ref a)) Q E s:=by
 have d:=c.ty
 obtain⟨o,n,t,b,e,_,hd,f⟩:=c
 unfold Vm
 refine on (Pf d F.slot_tuple_eq.lookup ?_)
 show Mz _ _ (Rh (.ref a) (.type "tuple")>>=_) _ _ s
 refine on (Oz d R3 ?_)
 simp only[NE,MD,Nh]
 refine on (N0 e hd ?_)
 refine on ?_
 show Mz _ _ (forIn #[O5 k.1 t,My b] _ _) _ _ s
 rw[←PL]
 simp only[O3,Pg]
 rw[eqIsQuiet_byValue _ (v:= .int k.1 t) rfl]
 exact on (on (Mg (Mg (on (on (FI (m:=6) f (Mg (Mg (Mg h)))))))))
noncomputable def PKd(prog:Program)(w:MY):HeapKind prog w KyD where
 is:=IsP prog w
 hash:=hB true
 draws:=λk=>k.2.length+3
 room:=λA=>A.units+1<cLine
 inj:=λd e=>d.inj e
 keeps:=λx i hd hs=>by
  obtain⟨j,n,t,b,c,l,a,m⟩:=x
  refine⟨j,n,t,b,(hs.2 _ ?_).trans c,l,a,(IKd prog w).keeps m i hd hs⟩
  rintro rfl
  obtain rfl:=MQ (c.symm.trans i)
  rw[hd]at a;exact nomatch a
 pyHash:=λf g h=>Jo f g h
 eqBool:=λf d e h=>eq_p f d e h
 quiet:=λg h=>FJ g h
end
end L2.Hs
namespace L2.Hs
open PySem PySem.Spec PyProof.Rows
section
variable{prog:Program}{w:MY}
noncomputable def FKd(prog:Program)(w:MY):HeapKind prog w KyD where
 is:=λh k a=>k.1=0/\(IKd prog w).is h k.2 a
 hash:=hB false
 draws:=λk=>k.2.length+1
 room:=λA=>A.units+1<cLine
 inj:=λc d=>P0 (c.1.trans d.1.symm) ((IKd prog w).inj c.2 d.2)
 keeps:=λx i hd hs=>⟨x.1,(IKd prog w).keeps x.2 i hd hs⟩
 pyHash:=λf g h=>(IKd prog w).pyHash (Nat.lt_of_succ_lt f) g.2 h
 eqBool:=λ{A E s x y a b Q} f c d h=>(IKd prog w).eqBool (Nat.lt_of_succ_lt f) c.2 d.2 (by
  have e:decide (x.2=y.2)=decide (x=y):=by
   by_cases q:x.2=y.2
   ·rw[MX q,MX (P0 (c.1.trans d.1.symm) q)]
   ·rw[M5 q,M5 (λz=>q (Nq _ z))]
  rw[e];exact h)
 quiet:=λg h=>(IKd prog w).quiet g.2 h
noncomputable def KB(prog:Program)(w:MY):Bool->HeapKind prog w KyD
 |true=>PKd prog w
 |false=>FKd prog w
theorem vj{b:Bool}:(KB prog w b).hash=hB b:=by cases b<;>rfl
theorem pE{b:Bool}{A:M8}(h:A.units+1<cLine):(KB prog w b).room A:=by cases b<;>exact h
noncomputable def KyS(K:Frag)(H:Hp):Bool->KyD->Addr->Prop
 |true,k,c=>∃e,SqT K H c [.int k.1,.ref e]/\SqT K H e (k.2.map V.int)
 |false,k,c=>k.1=0/\SqT K H c (k.2.map V.int)
noncomputable abbrev XY(x:KyD×Addr×V)(y:KyD×Addr×Mh):Prop:=x.1=y.1/\x.2.1=y.2.1/\aC x.2.2 y.2.2
theorem o3:∀{xs:List (KyD×Addr×V)} {ys:List (KyD×Addr×Mh)},Re XY xs ys->xs.map (·.1)=ys.map (·.1)
 |_,_,.nil=>rfl
 |_,_,.cons h t=>by rw[ME,ME,h.1,o3 t]
theorem xB:∀{xs:List (KyD×Addr×V)} {ys:List (KyD×Addr×Mh)},Re XY xs ys->∀y∈ys,∃x∈xs,XY x y
 |_,_,.nil,y,h=>by cases h
 |_,_,.cons (a:=a) h t,y,b=>by
  rcases MH.mp b with rfl|b
  ·exact⟨a,Mq,h⟩
  ·obtain⟨x,c,e⟩:=xB t y b
   exact⟨x,Mo _ c,e⟩
noncomputable def lkV(xs:List (KyD×Addr×V))(k:KyD):Option V:=(xs.find? λx=>decide (x.1=k)).map (·.2.2)
theorem o4{k:KyD}:∀{xs:List (KyD×Addr×V)} {ys:List (KyD×Addr×Mh)},Re XY xs ys->gR (lkV xs k) ((Uj ys k).map (·.2))
 |_,_,.nil=>by simp[lkV,Uj,gR]
 |_,_,.cons (a:=a) (b:=b) h t=>by
  have ih:=o4 (k:=k) t
  unfold lkV Uj at ih⊢
  rw[Qo,Qo,←h.1]
  by_cases q:a.1=k
  ·rw[MX q];exact h.2.2
  ·rw[M5 q];exact ih
theorem uE{x:KyD×Addr×V}{y:KyD×Addr×Mh}(h:XY x y):∀{xs:List (KyD×Addr×V)} {ys:List (KyD×Addr×Mh)},Re XY xs ys->Re XY (xs++[x]) (ys++[y])
 |_,_,.nil=> .cons h .nil
 |_,_,.cons h' t=> .cons h' (uE h t)
end
section
variable{X:Cx}{pins:List (Addr×Obj)}{σ:St}{H:Hp}{s:Ml}
theorem rH{b:Bool}{k:KyD}{c:Addr}(I:Inv X pins σ H s)(h:KyS X.K H b k c):(KB X.prog X.w b).is s.heap k c:=by
 cases b with
 |true=>
  obtain⟨e,a,d⟩:=h
  obtain⟨its,f,⟨o,g,i,n,hd⟩,_⟩:=I.tuple a
  obtain⟨j,l,rfl,⟨t,rfl⟩,rfl⟩:=rm f
  exact⟨o,n,t,e,g,i,hd,lU I d⟩
 |false=>exact⟨h.1,lU I h.2⟩
theorem big{pins:List (Addr×Obj)}{σ:St}{H:Hp}{s:Ml}(I:Inv X pins σ H s):Qv<s.heap.objs.size:=QA (by decide) (show Oe<s.heap.objs.size from(I.mod.glob.keeps I.bk).lt)
theorem oP{b:Bool}{a:Addr}{ep:Nat}{xs:List (KyD×Addr×V)}(I:Inv X pins σ H s)(d:H a=some (dj a b ep xs))(e:∀x∈xs,KyS X.K H b x.1 x.2.1):∃ys,s.heap.DictOfH (KB X.prog X.w b) a ys/\Re XY xs ys/\ys.length<=sizeLine/\(a==Qv)=false:=by
 obtain⟨o,es,ys,f,g,h,i,j,k,l,c⟩:xy a b ep xs s.heap:=(I.hok a _ d).1
 refine⟨ys,⟨o,es,ep,f,g,h,?_,λy m=>?_,j⟩,c,l,k⟩
 ·rw[i];unfold entryOfKey;rw[vj]
 ·obtain⟨x,n,p,q,_⟩:=xB c y m
  rw[←p,←q];exact rH I (e x n)
noncomputable def Ip(K:Frag):R2:=λx y H Q=>∃a b ep xs k c v,x= .ref a/\y= .ref c/\H a=some (dj a b ep xs)/\(∀x∈xs,KyS K H b x.1 x.2.1)/\KyS K H b k c/\lkV xs k=some v/\Q v H
theorem yW(l:X.A.units+2<cLine):IxR X (Ip X.K):=by
 intro g i pins s σ H x y v u Q I m n h hs
 obtain⟨a,b,ep,xs,k,c,o,rfl,rfl,t,w,z,B,q⟩:=h
 cases m
 cases n
 obtain⟨ys,d,p,_,_⟩:=oP I t w
 have f:=o4 (k:=k) p
 rw[B]at f
 cases e:Uj ys k with
 |none=>rw[e]at f;exact f.elim
 |some r=>
  rw[e]at f
  exact RQ (x:=r.2) d.typeIs PySem.F.slot_dict_getitem.lookup (wpAny_getItem_heap (Q:=λj s'=>j=r.2/\EP X pins σ Q j s') (pE l) (rH I z) d e ⟨rfl,o,H,I.tok _,f,q⟩) hs
theorem tz{b:Bool}:Mks X newDict λD=>dj D b 0 []:=λpins s σ H E Q I h=>Nx (h _ (I.laid (t':=s.toks) (λ_ _ q=>Mi _ q) (Mw _) (vJ ⟨_,#[],[],MB _ rfl,⟨rfl,rfl,rfl⟩,rfl,rfl,.nil,beq_eq_false_iff_ne.mpr (Ne.symm (M6 (big I))),N2 _,.nil⟩)) λb o e=>Mi _ e)
noncomputable def zB(K:Frag)(b:Bool)(D:Addr)(e f:TE):TB:=λσ H Q=>e σ H λx g=>f σ g λy a=>∃ep xs k c,x= .ref c/\a D=some (dj D b ep xs)/\(∀x∈xs,KyS K a b x.1 x.2.1)/\KyS K a b k c/\k∉xs.map (·.1)/\xs.length<sizeLine/\∀d,Q σ (upd a D (dj D b d (xs++[(k,c,y)])))
theorem jS{i j:Expr}{gens:List No}{scope:Scope}{pos:Pos}{d:Nat}{D:Addr}{b:Bool}{z B:TE}(L:X.A.units+1<cLine)(M:gens[d+1]?=none)(N:PE X i z)(O:PE X j B)(a:X.xe=λ_ _=>False):PB X (.D i j) gens scope pos d D (zB X.K b D z B):=by
 intro pins s σ H Q I h k Q' E' P
 unfold gB
 rw[M]
 show Mz _ _ (emC (.D i j) (.ref D) X.env>>=λ_=>k) _ _ _
 unfold emC
 have C:=N pins s σ H _ I h
 rw[a]at C
 refine on (on (M9 C (λu R S=>?_) λ_ _ f=>f.elim))
 obtain⟨v,T,U,r,q1⟩:=S
 have E:=O pins R σ T _ U q1
 rw[a]at E
 refine on (NI (M9 E (λu2 s2 V=>?_) λ_ _ f=>f.elim))
 obtain⟨v2,H2,l,W,Y,xs,m,c,rfl,F,Z,hc,hn,hl,q⟩:=V
 cases r
 obtain⟨ys,dd,p,hz,t⟩:=oP l F Z
 have G:=o3 p
 have e0:Uj ys m=none:=by
  cases e:Uj ys m with
  |none=>rfl
  |some r=>
   exfalso
   unfold Uj at e
   cases w:ys.find? (λx=>decide (x.1=m))with
   |none=>rw[w]at e;cases e
   |some y=>
    have:=List.find?_some w
    exact hn (by rw[G];exact MN.mpr ⟨y,List.mem_of_find?_eq_some w,QS this⟩)
 refine on (N6 (NI (wpAny_dictSet_heap (pE L) (rH l hc) dd (λh' d' sb=>?_) hz)))
 rw[storedH_new e0]at d'
 obtain⟨o,es,ep,J,g2,g3,g4,g5,g6⟩:=d'
 have g:ys.length=xs.length:=by rw[←Mj (f:=(·.1)),←G,Mj]
 refine P _ σ _ (l.write (by rw[F];trivial) (.inl rfl) (λb u n e=>(sb.2 b n).trans e) ⟨o,J⟩ (vJ ⟨o,es,_,J,g2,g3,?_,g6,t,?_,uE ⟨rfl,rfl,W⟩ p⟩)) (q ep)
 ·rw[g4];unfold entryOfKey;rw[vj]
 ·rw[MJ,g,Np];omega
theorem AL{b:Bool}{k l a d:Expr}{f:List Expr}{rest:List No}{scope:Scope}{pos:Pos}{i vars:List Str}{caps:List Nat}{g:TG}{tt:TT}{p:Addr->TB}{r:TI}(t:X.calm=true)(S:CmpScope X scope i vars caps)(u:PI X a d r)
  (y:∀(cl:List (Str×Addr)) (C:Addr) (j:List Addr) (s:Ml) (H:Hp),PG (aE X i scope cl C j s H) a g/\dH (aE X i scope cl C j s H) f tt/\∀D,PB (aE X i scope cl C j s H) (.D k l) (⟨a,d,f,0⟩::rest) scope pos 0 D (p D))
  (hs:∀x,Nj d X.env x=pure x:=by intro _;rfl):PE X (.DictComp k l (⟨a,d,f,0⟩::rest) scope pos) (kC (λD=>dj D b 0 []) vars caps r λD J=>cx J g tt (p D)):=by
 intro pins s σ H Q I h
 refine OQ (use:=none) rfl hs (S.clo I.ok) S.kind S.loc (M9 (u pins s σ H _ I h) (λv N z=>M9 z (λB O E=>?_) λ_ _ x=>x) λ_ _ x=>x)
 obtain⟨it,j,P,J,R,e,F,T,n,f2,q⟩:=E
 subst e
 refine gA (c:= .D k l) tz (RR:=λacc C=>Uo (ML X.prog X.w) X.A X.xe none _ acc C) t S y F T n f2 q λD C s' G m K ns L M=>?_
 exact⟨m,ns,λh' o=>⟨.ref D,G,K.letgo L o,rfl,M⟩⟩
end
end L2.Hs
namespace L2.Pu
open PySem PySem.Spec PyProof.Rows L2.Hs
noncomputable def dK:Bool->KyD->D
 |true,k=> .tup [.int k.1,tpI k.2]
 |false,k=>tpI k.2
noncomputable def KyZ(b:Bool)(k:KyD):Prop:=b=false->k.1=0
theorem Jw{b:Bool}{k l:KyD}(a:KyZ b k)(c:KyZ b l)(h:dK b k=dK b l):k=l:=by
 cases b with
 |true=>
  simp only[dK,D.tup.injEq,Pi,D.int.injEq,and_true]at h
  exact P0 h.1 (fY (Nq D.tup h.2))
 |false=>exact P0 ((a rfl).trans (c rfl).symm) (fY h)
section
variable{K:Frag}{F:Fx}{H:Hp}{E:St->XK}
theorem ue{ds:List D}{v:V}(h:Den K F H (.tup ds) v):∃a xs,v= .ref a/\TQ K F H a xs/\DenL K F H ds xs:=by
 unfold Den at h
 exact h
theorem nA{ds:List D}{a:Addr}{xs:List V}(h:TQ K F H a xs)(hd:DenL K F H ds xs):Den K F H (.tup ds) (.ref a):=by
 unfold Den
 exact⟨a,xs,rfl,h,hd⟩
theorem TQ.sq{c:Addr}{xs:List V}(h:TQ K F H c xs):SqT K H c xs:=h.imp (·.2) id
theorem gT.s{b:Bool}{k:KyD}{c:Addr}(h:gT K F H b k c):KyS K H b k c:=by
 cases b with
 |true=>
  obtain⟨e,a,d⟩:=h
  exact⟨e,a.sq,d.sq⟩
 |false=>exact⟨h.1,h.2.sq⟩
theorem gT.z{b:Bool}{k:KyD}{c:Addr}(h:gT K F H b k c):KyZ b k:=λe=>by subst e;exact h.1
theorem wV{b:Bool}{k:KyD}{v:V}(g:KyZ b k)(h:Den K F H (dK b k) v):∃c,v= .ref c/\gT K F H b k c:=by
 cases b with
 |true=>
  obtain⟨a,xs,rfl,q,d⟩:=ue h
  obtain⟨i,j,rfl,d1,d2⟩:=DenL.two d
  cases d1.int
  obtain⟨e,ys,rfl,q2,f⟩:=ue d2
  cases DenL.ints k.2 f
  exact⟨a,rfl,e,q,q2⟩
 |false=>
  obtain⟨a,xs,rfl,q,d⟩:=ue h
  cases DenL.ints k.2 d
  exact⟨a,rfl,g rfl,q⟩
theorem LF{b:Bool}{k:KyD}{c:Addr}(h:gT K F H b k c):Den K F H (dK b k) (.ref c):=by
 cases b with
 |true=>
  obtain⟨e,a,d⟩:=h
  exact nA a (DenL.cons rfl (DenL.cons (nA d (DenL.ofInts k.2)) DenL.nil))
 |false=>exact nA h.2 (DenL.ofInts k.2)
noncomputable abbrev pKD(b:Bool)(p:KyD×D):D:= .tup [dK b p.1,p.2]
noncomputable def Dk(b:Bool)(kvs:List (KyD×D))(os:List D):Prop:=os=kvs.map (pKD b)/\(kvs.map (·.1)).Nodup/\kvs.length<=sizeLine/\∀p∈kvs,KyZ b p.1
theorem FX{b:Bool}{p q:KyD×D}(a:KyZ b p.1)(c:KyZ b q.1)(h:pKD b p=pKD b q):p=q:=by
 simp only[pKD,D.tup.injEq,Pi,and_true]at h
 exact P0 (Jw a c h.1) h.2
theorem jT{b:Bool}:∀{l m:List (KyD×D)},(∀p∈l,KyZ b p.1)->(∀p∈m,KyZ b p.1)->l.map (pKD b)=m.map (pKD b)->l=m
 |[],[],_,_,_=>rfl
 |[],_::_,_,_,h=>by cases h
 |_::_,[],_,_,h=>by cases h
 |p::l,q::m,hl,hm,h=>by
  rw[ME,ME,Pi]at h
  rw[FX (hl p Mq) (hm q Mq) h.1,jT (λx a=>hl x (Mo _ a)) (λx a=>hm x (Mo _ a)) h.2]
theorem Dk.eq{b:Bool}{l m:List (KyD×D)}{os:List D}(x:Dk b l os)(y:Dk b m os):l=m:=jT x.2.2.2 y.2.2.2 (x.1.symm.trans y.1)
open Classical in
noncomputable def gQ(b:Bool)(os:List D):Option D:=if h:∃kvs,Dk b kvs os then some (.dct b (h.choose.map (·.1)) (h.choose.map (·.2)))else none
theorem vK{b:Bool}{kvs:List (KyD×D)}{os:List D}(h:Dk b kvs os):gQ b os=some (.dct b (kvs.map (·.1)) (kvs.map (·.2))):=by
 have q:∃kvs,Dk b kvs os:=⟨kvs,h⟩
 unfold gQ
 rw[dif_pos q,q.choose_spec.eq h]
theorem uh{b:Bool}{os:List D}{d:D}(h:gQ b os=some d):∃kvs,Dk b kvs os/\d= .dct b (kvs.map (·.1)) (kvs.map (·.2)):=by
 unfold gQ at h
 split at h
 ·rename_i q
  cases h
  exact⟨_,q.choose_spec,rfl⟩
 ·cases h
noncomputable def RD(K:Frag)(b:Bool):AR where
 R:=λF H D as=>∃ep,∃a:List ((KyD×Pu.D)×Addr×V),as=a.map (λz=>pKD b z.1)/\H D=some (dj D b ep (a.map λz=>(z.1.1,z.2)))/\∀z∈a,gT K F H b z.1.1 z.2.1/\Den K F H z.1.2 z.2.2
 Z:=λl=>∃kvs more,Dk b kvs (l++more)
 tr:=λh k t=>by
  obtain⟨ep,a,e,f,c⟩:=h
  exact⟨ep,a,e,k _ f,λz d=>⟨(c z d).1.tr t,Den.tr t _ _ (c z d).2⟩⟩
 zp:=λh=>by
  obtain⟨kvs,more,h⟩:=h
  exact⟨kvs,_,by rw[←NF];exact h⟩
noncomputable def pZ(f g:FD):FL:=λδ=>M.bind (f δ) λk=>M.bind (g δ) λv=>M.ret [.tup [k,v]]
theorem mV{b:Bool}{D:Addr}{f g:Dn->M Pu.D}:d4 K (RD K b) D (zB K b D (tV K f E0) (tV K g E0)) (pZ f g):=λF H δ β C σ as os Q fr hA A G hR e hz k=>by
 obtain⟨ep,d,rfl,hD,B⟩:=hR
 obtain⟨R,β1,e1,e2⟩:=M.bind_inv e
 obtain⟨S,β2,e3,e4⟩:=M.bind_inv e2
 cases e4
 obtain⟨kvs,more,I,T,z3,U⟩:=hz
 have J:∀p∈d.map (·.1),KyZ b p.1:=λp r=>by
  obtain⟨z,h,rfl⟩:=MN.mp r
  exact(B z h).1.z
 have L:d.length<kvs.length:=by
  have:=Nq RK I
  simp at this
  omega
 have ez:(d.map (·.1)).map (pKD b)=(kvs.take d.length).map (pKD b):=by
  rw[R0,←I,NF,List.take_append_of_le_length (by simp),OU (by simp),MK];rfl
 have ek:=jT J (λp r=>U p (UE r)) ez
 have N:pKD b kvs[d.length]= .tup [R,S]:=by
  have V:(kvs.map (pKD b))[d.length]?=some (.tup [R,S]):=by
   rw[←I,NF,N4 (by simp)];simp
  rw[Mt,Mn L]at V
  exact MQ V
 have u:=U _ (NB L)
 generalize r:kvs[d.length]=p at N u
 obtain⟨j,vv⟩:=p
 simp only[pKD,Pu.D.tup.injEq,Pi,and_true]at N
 obtain⟨rfl,rfl⟩:=N
 have w:j∉d.map (·.1.1):=λhm=>by
  have h2:kvs.take d.length++(j,vv)::kvs.drop (d.length+1)=kvs:=by
   rw[←r,←N7 L,P7]
  rw[←h2,←ek,M7,ME,Sm]at T
  refine T.2.2 j ?_ j Mq rfl
  rw[MK];exact hm
 refine⟨F,δ,β,fr,G,E0.run e1 λv H1 t hv=>⟨F,δ,β1,t.fr,G.tr (t.tr fr),E0.run e3 λW X m O=>?_⟩⟩
 have P:=Den.tr (m.tr t.fr) _ _ hv
 obtain⟨c,rfl,Y⟩:=wV u P
 have i:=(t.tr fr).trans (m.tr t.fr)
 refine⟨ep,_,j,c,rfl,m.kp D _ (t.kp D _ hD A) A,λx h=>?_,Y.s,?_,?_,λy=>?_⟩
 ·obtain⟨z,h',rfl⟩:=MN.mp h
  exact((B z h').1.tr i).s
 ·rw[MK];exact w
 ·rw[Mj];omega
 have Z:ToD F D X (upd X D (dj D b y ((d.map λz=>(z.1.1,z.2))++[(j,c,W)]))) C:=by
  refine⟨λa o h n _=>by rw[upd_ne n];exact h,λa h q=>?_,fr.bgA,λb l q=>?_⟩
  ·by_cases z:a=D
   ·subst z;rw[ai]at q;cases q
   ·rw[upd_ne z]at q;exact m.fr.occ a h q
  ·rw[upd_ne (A b l q).1.symm,upd_ne (A b l q).2.symm]
   exact m.fr.bag b l q
 have tt:=Z.tr m.fr hA
 refine k σ _ (((t.trans m).toD D).trans Z) (G.tr (i.trans tt)) ⟨y,d++[((j,vv),c,W)],by rw[M7];rfl,by rw[M7];exact ai,λz h=>?_⟩
 rcases NL.mp h with h|h
 ·exact⟨(B z h).1.tr (i.trans tt),Den.tr (i.trans tt) _ _ (B z h).2⟩
 ·cases Nb.mp h
  exact⟨Y.tr tt,Den.tr tt _ _ O⟩
theorem ug{F:Fx}{H:Hp}{α:Type}{f:α->D}{g:α->V}:∀{a:List α},(∀z∈a,Den K F H (f z) (g z))->DenL K F H (a.map f) (a.map g)
 |[],_=>DenL.nil
 |z::a,h=>DenL.cons (h z Mq) (ug λx b=>h x (Mo z b))
end
theorem ud{K:Frag}{E:St->XK}{kb:Bool}{vars:List Str}{caps:List Nat}{g:TG}{f:Addr->TB}{it:FL}{tg:TgF}{tt:Dn->M Bool}{b:FL}(j:cy K g tg)(k:dZ tg)(l:∀D,d4 K (RD K kb) D (f D) b){i:St}{H:Hp}{Q:VK}(h:tV K (dy vars.length caps it tg tt b (gQ kb)) E i H Q):
  kC (λD=>dj D kb 0 []) vars caps (iV K it E) (λD J=>cx J g (tVT K tt E0) (f D)) i H Q:=by
 refine qd j k l (λF H D=>⟨0,[],rfl,ai,λx a=>MM a (by simp)⟩) (λos d e=>?_) h λF v m D os d fr c n e q=>?_
 ·obtain⟨kvs,s,_⟩:=uh e
  exact⟨kvs,[],by rw[M2];exact s⟩
 ·obtain⟨kvs,s,rfl⟩:=uh e
  obtain⟨ep,o,rfl,r,a⟩:=n
  have t:kvs=o.map (·.1):=jT s.2.2.2 (λp u=>by
   obtain⟨z,h,rfl⟩:=MN.mp u
   exact(a z h).1.z) (by rw[←s.1,MK];rfl)
  refine q _ _ (To.refl fr) ?_
  unfold Den
  subst t
  refine⟨D,ep,_,rfl,⟨c,r⟩,by simp,λx h=>?_,?_⟩
  ·obtain⟨z,h',rfl⟩:=MN.mp h
   exact(a z h').1
  ·rw[MK,MK]
   exact ug λz h=>(a z h).2
section
variable{X:Cx}{E:St->XK}{ke ve target iter:Expr}{ifs:List Expr}{rest:List No}{scope:Scope}{pos:Pos}{Nc vars:List Str}{caps:List Nat}{g:TG}{tb:Addr->TB}
theorem EN{kb:Bool}{it:FL}{tg:TgF}{tt:Dn->M Bool}{b:FL}(c:X.calm=true)(S:CmpScope X scope Nc vars caps)(d:PI X target iter (iV X.K it E))
  (e:∀(cl:List (Str×Addr)) (C:Addr) (a:List Addr) (s:Ml) (H:Hp),PG (aE X Nc scope cl C a s H) target g/\dH (aE X Nc scope cl C a s H) ifs (tVT X.K tt E0)/\∀D,PB (aE X Nc scope cl C a s H) (.D ke ve) (⟨target,iter,ifs,0⟩::rest) scope pos 0 D (tb D))
  (f:cy X.K g tg) (i:dZ tg) (j:∀D,d4 X.K (RD X.K kb) D (tb D) b) (hs:∀x,Nj iter X.env x=pure x:=by intro _;rfl):
  PE X (.DictComp ke ve (⟨target,iter,ifs,0⟩::rest) scope pos) (tV X.K (dy vars.length caps it tg tt b (gQ kb)) E):=
 (AL (b:=kb) c S d e hs).imp λk H Q h=>ud f i j h
end
end L2.Pu
namespace L2.Pu
open PySem PySem.Spec PyProof.Rows L2.Hs
noncomputable def gD:List D->Option (List Int)
 |[]=>some []
 | .int i::r=>(gD r).map (i::·)
 |_=>none
noncomputable def j4:Bool->D->Option KyD
 |false,.tup ds=>(gD ds).map λl=>(0,l)
 |true,.tup [.int i,.tup ds]=>(gD ds).map λl=>(i,l)
 |_,_=>none
theorem o5:∀(l:List Int),gD (l.map .int)=some l
 |[]=>rfl
 |i::l=>by show(gD (l.map .int)).map _=_;rw[o5 l];rfl
theorem tupI_inv:∀{ds:List D} {l:List Int},gD ds=some l->ds=l.map .int
 |[],l,h=>by cases h;rfl
 | .int i::r,l,h=>by
  have h':(gD r).map (i::·)=some l:=h
  cases q:gD r with
  |none=>rw[q]at h';cases h'
  |some m=>rw[q]at h';cases h';rw[tupI_inv q];rfl
 | .non::_,_,h=>by cases h
 | .bl _::_,_,h=>by cases h
 | .str _::_,_,h=>by cases h
 | .ty _::_,_,h=>by cases h
 | .txt::_,_,h=>by cases h
 | .lst _::_,_,h=>by cases h
 | .tup _::_,_,h=>by cases h
 | .scr _::_,_,h=>by cases h
 | .obj _ _ _::_,_,h=>by cases h
 | .bag::_,_,h=>by cases h
 | .adr _::_,_,h=>by cases h
 | .dct _ _ _::_,_,h=>by cases h
theorem vi{b:Bool}{k:KyD}(h:KyZ b k):j4 b (dK b k)=some k:=by
 cases b with
 |true=>show(gD _).map _=_;rw[o5];rfl
 |false=>show(gD _).map _=_;rw[o5];exact Nq some (P0 (h rfl).symm rfl)
theorem tP{b:Bool}{d:D}{k:KyD}(h:j4 b d=some k):KyZ b k/\d=dK b k:=by
 unfold j4 at h
 split at h
 ·rename_i ds
  cases q:gD ds with
  |none=>rw[q]at h;cases h
  |some l=>rw[q]at h;cases h;exact⟨λ_=>rfl,by rw[tupI_inv q];rfl⟩
 ·rename_i i ds
  cases q:gD ds with
  |none=>rw[q]at h;cases h
  |some l=>rw[q]at h;cases h;exact⟨λz=>(by cases z),by rw[tupI_inv q];rfl⟩
 ·cases h
noncomputable def lkD(ks:List KyD)(vs:List D)(k:KyD):Option D:=((ks.zip vs).find? λp=>decide (p.1=k)).map (·.2)
section
variable{K:Frag}{F:Fx}{H:Hp}{E:St->XK}
noncomputable def RelD(K:Frag)(F:Fx)(H:Hp):Option D->Option V->Prop
 |none,v=>v=none
 |some d,v=>∃u,v=some u/\Den K F H d u
theorem tK{k:KyD}:∀{xs:List (KyD×Addr×V)} {vs:List D},DenL K F H vs (xs.map (·.2.2))->RelD K F H (lkD (xs.map (·.1)) vs k) (lkV xs k)
 |[],vs,_=>by unfold lkD lkV;rfl
 |x::xs,vs,h=>by
  cases vs with
  |nil=>cases h
  |cons d vs=>
   obtain⟨u,r,e,a,b⟩:=h
   rw[ME,Pi]at e
   obtain⟨rfl,rfl⟩:=e
   have ih:=tK (k:=k) b
   unfold lkD lkV at ih⊢
   rw[ME,OV,Qo,Qo]
   by_cases q:x.1=k
   ·rw[MX q];exact⟨_,rfl,a⟩
   ·rw[M5 q];exact ih
noncomputable def xj:D->D->Option D
 | .dct b ks vs,y=>(j4 b y).bind (lkD ks vs)
 |_,_=>none
theorem LS:aR K (Ip K) xj:=λF H β Q d1 d2 d v w fr g h e k=>by
 unfold xj at e
 split at e
 ·rename_i b ks vs
  cases q:j4 b d2 with
  |none=>rw[q]at e;cases e
  |some f=>
   rw[q]at e
   have i:lkD ks vs f=some d:=e
   obtain⟨j,rfl⟩:=tP q
   obtain⟨c,rfl,l⟩:=wV j h
   unfold Den at g
   obtain⟨a,ep,xs,rfl,m,rfl,n,o⟩:=g
   have:=tK (k:=f) o
   rw[i]at this
   obtain⟨u,p,r⟩:=this
   exact⟨a,b,ep,xs,f,c,u,rfl,rfl,m.2,λx t=>(n x t).s,l.s,p,k u H (To.refl fr) r⟩
 ·cases e
noncomputable def Lx(K:Frag):V->List V->Hp->VK->Prop:=λx ys H Q=>∃a b ep xs k c z,x= .ref a/\ys=[.ref c,z]/\H a=some (dj a b ep xs)/\(∀x∈xs,KyS K H b x.1 x.2.1)/\KyS K H b k c/\Q ((lkV xs k).getD z) H
end
section
variable{X:Cx}{E:St->XK}{o e:Expr}{es:List Expr}{apos cpos:Pos}
theorem GJ(m:X.A.units+2<cLine):MtR X "dict.get" (Lx X.K):=by
 intro j s G H x xs v us Q I n r h
 obtain⟨a,b,ep,ys,k,c,z,rfl,rfl,t,u,B,q⟩:=h
 cases n
 obtain⟨J,C,rfl,r1,D⟩:=rm r
 cases r1
 obtain⟨i,d,p,_,hs⟩:=oP I t u
 have f:=o4 (k:=k) p
 refine call_meetsIn TK d.typeIs PySem.F.entry_dict_get (PySem.F.args_dict_get_3 _ _ _) (meetsH_dict_get_default (KB X.prog X.w b) a c hs C) ⟨pE m,k,i,rH I B,d,_,H,I.tok _,?_,q⟩
 cases l:lkV ys k with
 |none=>
  rw[l]at f
  cases g:(Uj i k).map (·.2)with
  |none=>exact D
  |some w=>rw[g]at f;exact f.elim
 |some y=>
  rw[l]at f
  cases g:(Uj i k).map (·.2)with
  |none=>rw[g]at f;exact f.elim
  |some w=>rw[g]at f;exact f
noncomputable def xi(f:FD)(g:FL):FD:=λδ=>M.bind (f δ) λd=>match d with
 | .dct b ks vs=>M.bind (g δ) λas=>M.ofO (match as with
  |[k,z]=>(j4 b k).map λk=>(lkD ks vs k).getD z
  |_=>none)
 |_=>M.fail
theorem Lj{f:FD}{g:FL}(hu:X.A.units+2<cLine)(ho:PE X o (tV X.K f E))(ha:PA X (e::es) (tVA X.K g E))
  (n:PX o "get" X.env (eval o X.env)=eval o X.env:=by rfl)
  (y:((NZ cpos (Mx (e::es) X.env)).all (λx=>!x.1)&&(OK cpos (NW [] X.env)).all (λx=>x.1.isSome)
   &&decide ((e::es).length+([]:List QZ).length+(if([]:List QZ).isEmpty then 0 else 1)<30))=true:=by rfl)
  (p:(apos.endLine==cpos.line)=true:=by rfl) (hs:Mx (e::es) X.env=(false,eval e X.env)::Mx es X.env:=by rfl) (m:(NZ cpos (Mx es X.env)).any (·.1)=false:=by rfl):
  PE X (.Call (.Attribute o "get" apos) (e::es) [] cpos) (tV X.K (xi f g) E):=by
 intro j s C H Q I h
 obtain⟨F,δ,β,fr,vk,h⟩:=h
 refine VC n y p rfl (thn (ho j s C H _ I ⟨F,δ,β,fr,vk,(run.bind (R:=Den X.K F) h)⟩) λv s1 h1=>?_)
 obtain⟨x,H1,I1,r1,d,β1,t,hd,q1⟩:=h1
 have fail:∀{J:M D},J=M.fail->run (Den X.K F) F E C J H1 Q β1->False:=λ{J} e r=>by
  obtain⟨r,β',e',_⟩:=r
  rw[e]at e';cases e'
 cases d<;>first|exact(fail rfl q1).elim|skip
 rename_i b ks vs
 have B:=hd
 unfold Den at B
 obtain⟨a,ep,xs,rfl,L,rfl,hk,dl⟩:=B
 cases r1
 obtain⟨ys,dd,_,_,_⟩:=oP I1 L.2 λx N=>(hk x N).s
 refine⟨"dict","dict.get",Ti,TK,PySem.F.type_dict_get,dd.typeIs,λb e=>?_,?_⟩
 ·cases e
  obtain⟨ob,_,_,g1,g2,_⟩:=dd
  exact⟨ob,g1,g2.2.1⟩
 have hA:=ha cpos j s1 C H1 _ I1 ⟨F,δ,β1,t.fr,vk.tr (t.tr fr),run.bind (R:=DenL X.K F) q1⟩
 rw[hs]at hA⊢
 refine Ro (by show(false||(NZ cpos (Mx es X.env)).any (·.1))=false;rw[m]<;>rfl) (Ua (thn hA λus s2 h2=>?_))
 obtain⟨ws,G,I2,r2,as,β2,t2,O,q2⟩:=h2
 obtain⟨z,w,kf⟩:=run.ofO q2
 have tt:=t2.tr t.fr
 split at w
 ·rename_i k zz
  cases P:j4 b k with
  |none=>rw[P]at w;cases w
  |some i=>
   rw[P]at w
   cases w
   obtain⟨hz,rfl⟩:=tP P
   obtain⟨w1,S,rfl,T,U⟩:=DenL.two O
   obtain⟨c,rfl,kc⟩:=wV hz T
   have V:=DenL.tr tt _ _ dl
   have W:∀x∈xs,KyS X.K G b x.1 x.2.1:=λx N=>((hk x N).tr tt).s
   refine GJ hu j s2 C G (.ref a) [.ref c,S] (.ref a) us Q I2 rfl r2 ⟨a,b,ep,xs,i,c,S,rfl,rfl,tt.kp a _ L.1 L.2,W,kc.s,?_⟩
   refine kf _ G (To.refl t2.fr) ?_
   show Den X.K F G ((lkD (xs.map (·.1)) vs i).getD zz) ((lkV xs i).getD S)
   have l:=tK (k:=i) V
   cases q:lkD (xs.map (·.1)) vs i with
   |none=>
    rw[q]at l
    have Y:lkV xs i=none:=l
    rw[Y];exact U
   |some d=>
    rw[q]at l
    obtain⟨u,Y,Z⟩:=l
    rw[Y];exact Z
 ·cases w
end
end L2.Pu
namespace L2.Hs
open PySem PySem.Spec PyProof.Rows
section
variable{prog:Program}{w:MY}{A:M8}{E:Mh->Ml->Prop}{s:Ml}{d it v:Addr}{od:Obj}{es:Array DictEntry}{ep i:Nat}{ok ov:Mh}
theorem xt{Q:Mh->Ml->Prop}(a:s.TypeIs (.ref d) "dict")(hd:(d==Qv)=false)(h:Q (.ref s.heap.objs.size) {s with heap:=s.heap.push {cls:= .type "dict_items",data:= .fields #[.ref d]}}):Mz (ML prog w) A (call (.builtin "dict.items") [.ref d]) Q E s:=by
 refine Ng F.slot_dict_items a F.entry_dict_items ?_ (F.args_dict_items_1 _)
 unfold Builtin.«dict.items»
 refine on ?_
 unfold Builtin.Dict.noArgs
 refine on (wpAny_notOrdered_dict a ?_)
 show Mz _ _ (pure d) _ _ s
 refine Mg ?_
 show Mz _ _ (SG d>>=_) _ _ s
 unfold SG
 rw[Mr (by rw[hd];exact Ms)]
 exact on (Mg (on (Nx (Mg ⟨_,rfl,h⟩))))
theorem wZ{Q:Mh->Ml->Prop}(a:s.heap.IsItemsView v d)(e:s.heap.get? d=some od)(hd:od.data= .dict es ep)
  (h:Q (.ref s.heap.objs.size) {s with heap:=s.heap.push {cls:= .type "dict_itemiterator",data:= .fields #[.none,.bool false,.ref d,.int 0 0,.int es.size 0,.int ep 0,.none,.none]}}):Mz (ML prog w) A (Sb (.ref v)) Q E s:=by
 obtain⟨o,b,f,c⟩:=id a
 refine Rw a.typeIs UO (Ng UO a.typeIs F.entry_dict_items_iter ?_ (F.args_dict_items_iter_1 _))
 unfold Builtin.«dict_items.__iter__»
 refine on (Mg (on ?_))
 unfold Builtin.Dict_items.dictOf
 refine on (ND b c (x:= .ref d) rfl (Mg (on ?_)))
 unfold Builtin.Dict_items.newIterator
 refine on (Td e hd (on (T1 e hd ?_)))
 simp only[show PF "dict_itemiterator"=true from by decide,Na]
 refine Nx (Mg ⟨_,rfl,"dict_itemiterator",_,⟨_,MB _ rfl,rfl⟩,NV.lookup,?_⟩)
  (by simp only[sizeOk,QH,MG,MJ,MA,On,Of];omega)
 simpa[Qi,QH]using h
theorem wX{Q:Mh->Ml->Prop}(a:Rc s.heap it d i es.size ep ok ov)(h:Q (.ref it) s):Mz (ML prog w) A (Sb (.ref it)) Q E s:=by
 have c:s.TypeIs (.ref it) "dict_itemiterator":=⟨_,a,rfl⟩
 refine Rw c Tg (Ng Tg c (b:=Builtin.«dict_keyiterator.__iter__») (Uq (id':="dict_keyiterator.__iter__") (by kernel_rfl) rfl (by decide +kernel) (by kernel_rfl)) ?_ (F.args_dict_itemiterator_iter_1 _))
 show Mz _ _ (ret (.ref it)) _ _ s
 exact Mg ⟨_,rfl,"dict_itemiterator",_,c,NV.lookup,h⟩
theorem wY{e:DictEntry}{Q:Option Mh->Ml->Prop}(m:Rc s.heap it d i es.size ep ok ov)(T:s.heap.get? d=some od)(hd:od.data= .dict es ep)(P:es[i]?=some e)
  (U:∀h',IsItemIterOut h' it d (i+1) es.size ep e.key e.val s.heap.objs.size->h'.get? s.heap.objs.size=some {cls:= .type "tuple",data:= .seq #[e.key,e.val]}->h'.objs.size=s.heap.objs.size+1->
   (∀b o,b≠it->s.heap.get? b=some o->h'.get? b=some o)->Q (some (.ref s.heap.objs.size)) {s with heap:=h'}):Mz (ML prog w) A (Qh (.ref it)) Q E s:=by
 obtain⟨n,g,L,M,os⟩:=s
 have u:Shared.TypeIs ⟨n,g,L,M,os⟩ (.ref it) "dict_itemiterator":=⟨_,m,rfl⟩
 have N:i<es.size:=by
  rcases Sx i es.size with h|h
  ·exact h
  ·simp[OR h]at P
 obtain rfl:es[i]=e:=by rw[QG N]at P;exact MQ P
 unfold Qh
 refine on (Qz (wpAny_callSpecial?_slot (name:=M1 "__next__") u NV
  (Ng NV u SV ?_ (SL _))))
 refine on (Mg (on (on ?_)))
 first|refine on (O1 u (Mg ?_))|refine on (PR u (Mg ?_))
 refine on (Sc m rfl ?_)
 simp only[show PF "dict_itemiterator"=true from by decide,Na]
 show Mz _ _ (if(My d==Nl)=true then _ else _) _ _ _
 rw[Mr (show ¬((My d==Nl)=true)from Ms)]
 refine on (Mg (on (Td T hd ?_)))
 rw[Mr (by simp)]
 refine on (Mg (on (T1 T hd ?_)))
 rw[Mr (by simp)]
 refine Mg ?_
 simp only[show ¬((i:Int)<0)from by omega,Nh,NG,QG N]
 refine on ?_
 first|refine on (O1 u (Mg ?_))|refine on (PR u (Mg ?_))
 refine on (RT u ?_)
 show Mz _ _ (Uv (.ref it) 3 (Qi ((i:Int)+1))>>=_) _ _ ⟨n,g,L,M,os⟩
 refine on (NM m (by simp) λa c f=>?_)
 replace f:MT it n a:=f
 replace c:Rc a it d (i+1) es.size ep ok ov:=by
  have e:((i+1:Nat):Int)=(i:Int)+1:=by omega
  unfold Rc;rw[e];simpa[Qi]using c
 have l:Shared.TypeIs ⟨a,g,L,M,os⟩ (.ref it) "dict_itemiterator":=⟨_,c,rfl⟩
 refine on (NI (on (RT l (on (RT l ?_)))))
 show Mz _ _ (Q6 (.ref it) 6 es[i].key es[i].val) _ _ ⟨a,g,L,M,os⟩
 unfold Q6
 refine on (Se ?_)
 have j:Rc (a.push {cls:= .type "tuple",data:= .seq #[es[i].key,es[i].val]}) it d (i+1) es.size ep ok ov:=Mi _ c
 have k:a.objs.size=n.objs.size:=f.1
 have R:it≠n.objs.size:=M6 (MI m)
 have y:(a.push {cls:= .type "tuple",data:= .seq #[es[i].key,es[i].val]}).get? n.objs.size=some {cls:= .type "tuple",data:= .seq #[es[i].key,es[i].val]}:=by rw[←k];exact MB _ rfl
 have z:(a.push {cls:= .type "tuple",data:= .seq #[es[i].key,es[i].val]}).objs.size=n.objs.size+1:=by rw[Nv,k]
 have B:∀b o,b≠it->n.get? b=some o->(a.push {cls:= .type "tuple",data:= .seq #[es[i].key,es[i].val]}).get? b=some o:=λb o O e=>Mi _ (f.extBut b o O e)
 generalize a.push {cls:= .type "tuple",data:= .seq #[es[i].key,es[i].val]}=h₂ at*
 show Mz _ _ (QI (.ref it)>>=_) _ _ ⟨h₂,g,L,M,os⟩
 rw[k]
 refine on ?_
 unfold QI
 refine on (ND j rfl (x:= .none) rfl (Mg ?_))
 simp only[Na]
 refine on (ND j rfl (x:=ok) rfl (on (ND j rfl (x:=ov) rfl ?_)))
 refine on (NM j (by simp) λp C D=>?_)
 refine on (NM C (by simp) λq F G=>?_)
 refine on (NM F (by simp) λr H I=>?_)
 refine on (NM H (by simp) λt J K=>?_)
 have S:=((show MT it h₂ p from D).trans (show MT it p q from G)).trans ((show MT it q r from I).trans (show MT it r t from K))
 exact on (Sd (Mg (Mg ⟨_,rfl,Mg (U t J (S.extBut _ _ R.symm y) (by rw[S.1,z]) λb o O e=>S.extBut b o O (B b o O e))⟩)))
theorem yX{Q:Option Mh->Ml->Prop}(g:A.handled=none)(c:Rc s.heap it d i es.size ep ok ov)(f:s.heap.get? d=some od)(hd:od.data= .dict es ep)(h:es.size<=i)
  (j:∀h',SH it s.heap h'->Q none {s with heap:=h'}):Mz (ML prog w) A (Qh (.ref it)) Q E s:=by
 have e:s.TypeIs (.ref it) "dict_itemiterator":=⟨_,c,rfl⟩
 unfold Qh
 refine on (Qz (wpAny_callSpecial?_slot (name:=M1 "__next__") e NV
  (Ng NV e SV ?_ (SL _))))
 refine on (Mg (on (on ?_)))
 first|refine on (O1 e (Mg ?_))|refine on (PR e (Mg ?_))
 refine on (Sc c rfl ?_)
 simp only[show PF "dict_itemiterator"=true from by decide,Na]
 show Mz _ _ (if(My d==Nl)=true then _ else _) _ _ s
 rw[Mr (show ¬((My d==Nl)=true)from Ms)]
 refine on (Mg (on (Td f hd ?_)))
 rw[Mr (by simp)]
 refine on (Mg (on (T1 f hd ?_)))
 rw[Mr (by simp)]
 refine Mg ?_
 simp only[show ¬((i:Int)<0)from by omega,Nh,NG,OR h]
 refine on ?_
 first|refine on (O1 e (Mg ?_))|refine on (PR e (Mg ?_))
 show Mz _ _ (Uv (.ref it) 2 .none>>=_) _ _ s
 refine on (PD c rfl (by simp) ?_)
 show Mz _ _ (VA (.type "StopIteration") []>>=_) _ _ _
 refine on ?_
 simp only[VA,newTuple]
 refine on (Nx ?_ (by size_fits))
 refine on (m:=Qe _ _) (Py (a:=Nl) (by first|rfl|(simp only[Qe];rfl)) ?_)
 refine Nx ?_ (by size_fits)
 simp only[raiseNew]
 refine on (U4 ?_)
 rw[show A.in1.handled=none from g]
 refine on (Mg (wpAny_throw ?_))
 refine on (Oz (T:="StopIteration") (b:=true) ⟨_,MB _ rfl,rfl⟩ Us ?_)
 exact Mg (j _ (((NH ..).extBut.push _).push _))
end
end L2.Hs
namespace L2.Pu
open PySem PySem.Spec PyProof.Rows L2.Hs
noncomputable def Iti(a:Addr)(ep n:Nat):It:=
 ⟨λi H=>∃b xs,H a=some (dj a b ep xs)/\xs.length=n/\i<n,
  λi H v c=>∃p x,H p=none/\v= .ref p/\c=upd H p (.tup [.ref x.1,x.2])/\∀b xs,H a=some (dj a b ep xs)->(xs[i]?).map (·.2)=some x,
  λi H=>∃b xs,H a=some (dj a b ep xs)/\xs.length=n/\i=n⟩
theorem CP:∀{xs:List (KyD×Addr×V)} {ys:List (KyD×Addr×Mh)} {i:Nat} {y:KyD×Addr×Mh},Re XY xs ys->ys[i]?=some y->∃x,xs[i]?=some x/\XY x y
 |_,_,0,_,.cons h t,e=>by cases e;exact⟨_,rfl,h⟩
 |_,_,i+1,_,.cons h t,e=>CP (i:=i) t e
 |_,_,0,_,.nil,e=>by cases e
 |_,_,_+1,_,.nil,e=>by cases e
section
variable{X:Cx}{pins:List (Addr×Obj)}{σ:St}{H:Hp}{s:Ml}{a:Addr}{b:Bool}{ep i:Nat}{xs:List (KyD×Addr×V)}
theorem oQ(I:Inv X pins σ H s)(h:H a=some (dj a b ep xs)):∃(o:Obj) (es:Array DictEntry),s.heap.get? a=some o/\o.data= .dict es ep/\es.size=xs.length/\o.ExactDict/\(a==Qv)=false/\∀(i:Nat) (e:DictEntry),es[i]?=some e->∃x,xs[i]?=some x/\e.key= .ref x.2.1/\aC x.2.2 e.val:=by
 obtain⟨o,es,ys,j,k,l,d,u,m,v,g⟩:xy a b ep xs s.heap:=(I.hok a _ h).1
 have n:ys.length=xs.length:=by rw[←Mj (f:=(·.1)),←o3 g,Mj]
 refine⟨o,es,j,l,by rw[←M0,d,Mj,n],k,m,λi e c=>?_⟩
 rw[←O6,d,Mt]at c
 cases q:ys[i]? with
 |none=>rw[q]at c;cases c
 |some y=>
  rw[q]at c
  cases c
  obtain⟨x,p,_,r,t⟩:=CP g q
  exact⟨x,p,by rw[r],t⟩
theorem v8{P:Program}{w:MY}{K:Frag}{f:List Expr}{x1}{pos:Pos}(a it:Addr)(n ep:Nat):
  Turn P w K (.Tuple f x1 pos) (Iti a ep n) [it] it (λi h=>∃ok d,Rc h it a i n ep ok d) where
 mem:=by simp
 obj:=λi h st b c=>by
  obtain⟨ok,d,e⟩:=st
  cases Nb.mp c
  exact⟨_,e,λv q=>by cases q⟩
 keep:=λi h h' st k=>by
  obtain⟨ok,d,e⟩:=st
  exact⟨ok,d,k it (by simp) _ e⟩
 item:=by
  intro X p r t G i pins s σ H E I g st A
  subst p r t
  obtain⟨ok,d,e⟩:=st
  obtain⟨b,xs,B,S,J⟩:=A
  obtain⟨o,es,j,l,T,h4,h5,U⟩:=oQ I B
  have hn:n=es.size:=by omega
  subst hn
  have C:es[i]?=some es[i]:=QG J
  refine wY e j l C λh' V W sz kp=>⟨_,rfl,wpAny_letOwnedTupleGo_items (s:={s with heap:=h'}) V λD Y L=>?_⟩
  obtain⟨x,ex,M,N⟩:=U i _ C
  have O:s.heap.objs.size≠it:=Ou (MI e)
  have Z:Inv X pins σ (upd H s.heap.objs.size (.tup [.ref x.2.1,x.2.2])) {s with heap:=D,toks:=s.toks}:=
   Inv.turnNew I g (λb u c q=>L.extBut b u (λz=>c (by rw[z];simp)) (kp b u (λz=>c (by rw[z];simp)) q)) (Mw _) ⟨by show 2<=sizeLine;decide,[es[i].key,es[i].val],.cons M (.cons N .nil),_,L.extBut _ _ O W,rfl,_,rfl⟩
  refine⟨.ref s.heap.objs.size,_,Z,rfl,⟨s.heap.objs.size,x.2,I.hok.fresh (Mw _),rfl,rfl,λb' xs' F=>?_⟩,⟨_,_,Y⟩,λb c=>?_⟩
  ·obtain⟨o',es',Q,R,_,_,_,g6⟩:=oQ I F
   rw[j]at Q;cases Q
   rw[l]at R;cases R
   obtain⟨y,ey,m,fv⟩:=g6 i _ C
   rw[ey]
   rw[M]at m
   injection m with m
   exact Nq some (P0 m.symm (aC.inj fv N))
  ·cases Nb.mp c
   rw[upd_ne O.symm];exact(g _ c).1
 done:=by
  intro X p r t G i pins s σ H E I g st A
  subst p r t
  obtain⟨ok,d,e⟩:=st
  obtain⟨b,xs,B,S,J⟩:=A
  obtain⟨o,es,j,l,T,_⟩:=oQ I B
  have hn:n=es.size:=by omega
  subst hn
  refine yX (I.ok.hd G) e j l (by omega) λh' kp=>⟨rfl,Inv.turnL (t':=s.toks) I g λb o c q=>kp b o (λz=>c (by rw[z];simp)) q⟩
 self:=λ_ _ _ _ _ st h=>by
  obtain⟨ok,d,e⟩:=st
  exact wX (es:=(MC n (⟨0,.none,.none⟩:DictEntry)).toArray) (by rw[MG,NO];exact e) h
end
section
variable{X:Cx}{E:St->XK}{K:Frag}{o:Expr}{apos cpos tpos:Pos}{elts:List Expr}{x1:Nat}
noncomputable def iItm(to:TE):TI:=λd H R=>to d H λx c=>∃a b ep xs,x= .ref a/\c a=some (dj a b ep xs)/\R (Iti a ep xs.length) c
theorem AF{to:TE}(r:PE X o to)(d:PX o "items" X.env (eval o X.env)=eval o X.env:=by rfl)(f:(apos.endLine==cpos.line)=true:=by rfl):PI X (.Tuple elts x1 tpos) (.Call (.Attribute o "items" apos) [] [] cpos) (iItm to):=by
 intro c s m H R I h
 refine wpAny_Call_method0_late d f (thn (r c s m H _ I h) λv g i=>?_)
 obtain⟨x,n,p,r1,a,b,ep,xs,rfl,t,q⟩:=i
 cases r1
 obtain⟨j,es,i,u,w,k,y,_⟩:=oQ p t
 refine⟨"dict","dict.items",Ti,PySem.F.slot_dict_items,PySem.F.type_dict_items,⟨j,i,k.1⟩,λb e=>?_,?_⟩
 ·cases e;exact⟨j,i,k.2.1⟩
 refine Ro rfl (PySem.evalArgs_none (xt ⟨j,i,k.1⟩ y ?_))
 have l:Inv X c m n {g with heap:=g.heap.push {cls:= .type "dict_items",data:= .fields #[.ref a]},toks:=g.toks}:=p.kept λb o e=>Mi _ e
 refine wZ (s:={g with heap:=g.heap.push {cls:= .type "dict_items",data:= .fields #[.ref a]}}) ⟨_,MB _ rfl,rfl,rfl⟩ (Mi _ i) u ?_
 rw[w]
 exact⟨_,[_],_,_,n,rfl,l.kept (t':=g.toks) λb o e=>Mi _ e,v8 a _ _ ep,⟨_,_,MB _ rfl⟩,λb z=>by
  cases Nb.mp z
  exact l.fpOk (Mw _) (l.hok.fresh (Mw _)),q⟩
noncomputable def itmD:D->Option (List D)
 | .dct b ks vs=>some (Sn (λk v=> .tup [dK b k,v]) ks vs)
 |_=>none
theorem yY{F:Fx}{H:Hp}{b:Bool}{ks:List KyD}{vs:List D}{a:Addr}{ep:Nat}{xs:List (KyD×Addr×V)}(w:¬F.A a)(z:H a=some (dj a b ep xs))(g:ks=xs.map (·.1))(B:∀x∈xs,gT K F H b x.1 x.2.1)(h:DenL K F H vs (xs.map (·.2.2))):ItD K (Iti a ep xs.length) F H (Sn (λk v=> .tup [dK b k,v]) ks vs):=λM j β2 t fr i=>by
 have C:vs.length=xs.length:=by rw[h.length,Mj]
 have G:ks.length=xs.length:=by rw[g,Mj]
 have c:=t.kp a _ w z
 refine⟨λd hd=>?_,λe=>⟨b,xs,c,rfl,by rw[e,UP,G,C,Nat.min_self]⟩⟩
 have e:i<xs.length:=by
  have:=(MF.mp hd).1
  rw[UP]at this
  omega
 refine⟨⟨b,xs,c,rfl,e⟩,λy N I=>?_⟩
 obtain⟨p,x,l,rfl,rfl,J⟩:=I
 have m:=J b xs c
 rw[Mn e]at m
 have f:xs[i].2=x:=MQ m
 subst f
 have n:bv j (upd j p (.tup [.ref xs[i].2.1,xs[i].2.2])):=bv.upd l
 obtain⟨v,q⟩:∃v,vs[i]?=some v:=⟨_,Mn (by omega)⟩
 have L:ks[i]?=some xs[i].1:=by rw[g,Mt,Mn e];rfl
 rw[List.getElem?_zipWith,L,q]at hd
 cases hd
 have d2:=DenL.tr t _ _ h
 obtain⟨u,r,du⟩:=d2.get q
 rw[Mt,Mn e]at r
 cases r
 have s:=(fr.same n).tr fr
 exact⟨n,nA (.inl ⟨fr.fresh l,.inl ai⟩) (DenL.cons (Den.tr s _ _ (LF ((B _ (NB e)).tr t))) (DenL.cons (Den.tr s _ _ du) DenL.nil))⟩
noncomputable def IW(f:FD):FL:=λδ=>M.bind (f δ) λd=>M.ofO (itmD d)
theorem GX{f:FD}(j:PE X o (tV X.K f E))(b:PX o "items" X.env (eval o X.env)=eval o X.env:=by rfl)(c:(apos.endLine==cpos.line)=true:=by rfl):PI X (.Tuple elts x1 tpos) (.Call (.Attribute o "items" apos) [] [] cpos) (iV X.K (IW f) E):=
 (AF j b c).imp λr H R g=>ex6 g λF δ β fr l h=>⟨F,δ,β,fr,l,(run.bind (R:=Den X.K F) h).mono λv m g=>by
  obtain⟨d,β1,t,hd,r1⟩:=g
  obtain⟨ds,e,k⟩:=run.ofO r1
  cases d<;>first|(cases e;done)|skip
  cases e
  unfold Den at hd
  obtain⟨a,ep,xs,rfl,i,n,p,q⟩:=hd
  exact⟨a,_,ep,xs,rfl,i.2,k _ m (To.refl t.fr) (yY i.1 i.2 n p q)⟩⟩
end
end L2.Pu
namespace L2.Hs
open PySem PySem.Spec PyProof.Rows
theorem vb:mroOf (.type "reversed")=pure [.type "reversed",.type "object"]:=by rw[mroOf_type];kernel_rfl
theorem AZ:typeLookup (.type "reversed") "__new__"=pure (some (.builtin "reversed.__new__")):=by rw[T0,R1];kernel_rfl
theorem AU:Bind.madeBy (.type "reversed")=pure (some "reversed.__new__"):=madeBy_type vb AZ (by decide +kernel)
theorem EU:isSubtype (.type "reversed") (.type "reversed")=pure true:=by rw[Ri];kernel_rfl
theorem zY:isSubtype (.type "range_iterator") (.type "reversed")=pure false:=by rw[Ri];kernel_rfl
theorem HB:entryFor table "reversed.__new__"=some Builtin.«reversed.__new__»:=entryFor_of_tree (by kernel_rfl)
section
variable{prog:Program}{w:MY}{A:M8}{E:Mh->Ml->Prop}{s:Ml}
theorem CB{r:Addr}{n:Int}{t u v:Tok}{Q:Mh->Ml->Prop}(a:IsRange s.heap r 0 n 1 t u v)(j:0<=n)(g:n<2^62)
  (h:Q (.ref s.heap.objs.size) {s with heap:=s.heap.push {cls:= .type "range_iterator",data:= .fields #[Qi (n-1),Qi n,Qi (-1)]}}):Mz (ML prog w) A (call (.type "reversed") [.ref r]) Q E s:=by
 refine Qx (TZ ?_)
 show Mz _ _ (callAny (.type "reversed") _) _ _ _
 refine Mg ⟨R5 _ (by decide +kernel),TY F.entry_type_call ?_⟩
 rw[Around.under_plain (weight_type_call_type "reversed" [.ref r] []) (units_type_call_type "reversed" [.ref r] [])]
 have g:(OH "reversed"==OH "type")=false:=by decide +kernel
 have k:((U9 "reversed").bind (·.mro.findSome? λt=>(U9 t).bind λb=>if b.noNew then some true else if b.attrs.any (·.1=="__new__")then some false else none)).getD false=false:=by decide +kernel
 have e:=vb
 have c:=AU
 have i:checkTypeCall "reversed" ⟨[.ref r],[]⟩=pure ():=by kernel_rfl
 repeat (any_goals (first|assumption|wp_step))
 refine QB (by decide +kernel) HB (Py (show Tu "reversed.__new__" ⟨[.type "reversed",.ref r],[]⟩=pure () by kernel_rfl) ?_)
 have f:s.TypeIs (.ref r) "range":=⟨_,a,rfl⟩
 unfold Builtin.«reversed.__new__»
 repeat (any_goals (first|assumption|wp_step))
 refine Py EU (Mg ?_)
 refine on (m:=QY _ _ _) ?_
 refine Py (show QY "reversed" (OH "reversed") ⟨[.type "reversed",.ref r],[]⟩=pure ()from rfl) ?_
 refine on (m:=checkCount "reversed" 1 1 _) (Mg ?_)
 show Mz _ _ (specialOf (.ref r) (M1 "__reversed__")>>=_) _ _ s
 refine on (Pf f F.slot_range_reversed.lookup ?_)
 show Mz _ _ (bindSpecial (.builtin "range.__reversed__") (.ref r)>>=_) _ _ s
 refine on (Py (F.slot_range_reversed.bind _) ?_)
 show Mz _ _ (rule "reversed.__new__.own-method">>=_) _ _ s
 refine on (Pz (on (wpAny_runValue (QB F.slot_range_reversed.plain F.entry_range_reversed (F.slot_range_reversed.check _ _ _ _ _ _ _ _ f (F.args_range_reversed_1 _) ?_)))))
 unfold Builtin.«range.__reversed__»
 refine on (m:=selfOnly "range.__reversed__" _) (Mg (on ?_))
 unfold Builtin.Range.rangeFields
 refine on (ND a rfl (x:= .int 0 t) rfl (on (m:=asInt? _) (Mg ?_)))
 refine on (ND a rfl (x:= .int n u) rfl (on (m:=asInt? _) (Mg ?_)))
 refine on (ND a rfl (x:= .int 1 v) rfl (on (m:=asInt? _) (Mg (Mg ?_))))
 have hn:Sj 0 n 1=n:=by rw[rangeSize_one];split<;>omega
 simp only[hn]
 have d:(Nr 0&&Nr n&&Nr 1&&Nr (-1)&&Nr (0-1)&&Nr n)=true:=by
  have:Nr n=true:=by unfold Nr;simp;omega
  rw[this];decide
 simp only[d,Na,NE,MD,Nh]
 rw[show(0:Int)+(n-1)*1=n-1 by omega]
 refine on (Nx (Mg (Mg ?_)))
 exact on (Oz (T:="range_iterator") (b:=false) ⟨_,MB _ rfl,rfl⟩ zY (on (Pz (Mg h))))
end
end L2.Hs
namespace L2.Pu
open PySem PySem.Spec PyProof.Rows L2.Hs
noncomputable def Itd(n:Nat):It:=⟨λi _=>i<n,λi H v a=>v= .int ((n:Int)-1-i)/\a=H,λi _=>n<=i⟩
theorem uv{P:Program}{w:MY}{K:Frag}{tg:Expr}(it:Addr)(n:Nat):Turn P w K tg (Itd n) [it] it (λi h=>TD h it ((n:Int)-1+(i:Nat)*-1) ((n:Int)-(i:Nat)) (-1)) where
 mem:=by simp
 obj:=λi h st b c=>by
  cases Nb.mp c
  exact⟨_,st,λv z=>by
   have B:Data.fields _=Data.cell v:=z
   cases B⟩
 keep:=λi h h' st k=>k it (by simp) _ st
 item:=by
  intro X g j l m i a s y H E I f st p
  subst g j l
  obtain⟨q,f1,f2,r,u,x⟩:=f it (by simp)
  refine(Walks.range (prog:=X.prog) (w:=X.w) (I.ok.hd m) it ((n:Int)-1) (-1) n).item i s _ _ p st λv h' A C d D=>?_
  obtain⟨t,rfl⟩:=C
  have F:Inv X a y H {s with heap:=h',toks:=A}:=I.turned (λb o c e=>D b o (by simpa using c) e) q f1 r u x
  exact⟨_,rfl,rL (s:={s with heap:=h',toks:=A}) (n:="range_iterator") d rfl rfl (by decide) ⟨.int ((n:Int)-1-i),H,F,⟨t,by rw[show(n:Int)-1+(i:Int)*-1=(n:Int)-1-i by omega]⟩,⟨rfl,rfl⟩,d,λb c=>(f b c).1⟩⟩
 done:=by
  intro X g j l m i a s y H E I f st p
  subst g j l
  obtain⟨q,f1,f2,r,u,x⟩:=f it (by simp)
  exact VD (I.ok.hd m) st (by have:n<=i:=p;omega) λh' G=>⟨rfl,I.turned (t':=s.toks) (λb o c e=>G b o c e) q f1 r u x⟩
 self:=λ_ _ _ _ _ st h=>RU st h
section
variable{X:Cx}{E:St->XK}{K:Frag}{tg:Expr}
noncomputable def L5(a:TA):TI:=λb H R=>a b H λvs c=>∃j:Int,vs=[.int j]/\0<=j/\j<2^62/\R (Itd j.toNat) c
theorem yo{a:Expr}{m:TA}{p pos v f:Pos}(g:Gl X "reversed")(i:X.mg "reversed"=none)(w:Gl X "range")(hm:X.mg "range"=none)(ha:PA X [a] m)(hs:Mx [a] X.env=[(false,eval a X.env)]:=by rfl)
  (k:Mx [.Call (.Name "range" p) [a] [] pos] X.env=[(false,eval (.Call (.Name "range" p) [a] [] pos) X.env)]:=by rfl):PI X tg (.Call (.Name "reversed" v) [.Call (.Name "range" p) [a] [] pos] [] f) (L5 m):=by
 intro c s n H R I h
 refine Call_ (eV I g i PyProof.Rows.Boot.«reversed» (NK ?_ k rfl))
 refine UM (Call_ (eV I w hm boot_range (NK (thn (ha pos c s n H _ I h) λus d y=>?_) hs rfl)))
 obtain⟨vs,r,z,r1,j,rfl,q1,q2,q⟩:=y
 obtain⟨u,rfl,t,rfl⟩:=jL r1
 refine call_range_1 (U6 (CB (IsRange.new ..) q1 q2 (RU (x:=j-1) (left:=j) (step:=-1) (MB _ rfl) ?_)))
 have l:Inv X c n r {d with heap:=d.heap.push {cls:= .type "range",data:= .fields #[.int 0 d.toks,.int j t,.int 1 (d.toks+1)]},toks:=d.toks+1+1}:=z.kept λb o e=>Mi _ e
 refine⟨_,[_],_,_,r,rfl,l.kept (t':=d.toks+1+1) λb o e=>Mi _ e,uv _ j.toNat,?_,λb A=>?_,q⟩
 ·show TD _ _ (((j.toNat:Nat):Int)-1+((0:Nat):Int)*-1) (((j.toNat:Nat):Int)-((0:Nat):Int)) (-1)
  rw[show((j.toNat:Nat):Int)-1+((0:Nat):Int)*-1=j-1 by omega,show((j.toNat:Nat):Int)-((0:Nat):Int)=j by omega]
  exact MB _ rfl
 ·cases Nb.mp A
  exact l.fpOk (Mw _) (l.hok.fresh (Mw _))
noncomputable def g0(n:Nat):List D:=(Mv n).map λ(i:Nat)=> .int ((n:Int)-1-i)
theorem w4{F:Fx}{H:Hp}{n:Nat}:ItD K (Itd n) F H (g0 n):=λe f β2 t fr i=>by
 refine⟨λd hd=>?_,λa=>?_⟩
 ·unfold g0 at hd
  have a:i<n:=by
   have:=(MF.mp hd).1
   simpa using this
  rw[Mt,NS a]at hd
  cases hd
  exact⟨a,λx g ⟨b,c⟩=>by subst b c;exact⟨bv.refl _,rfl⟩⟩
 ·show n<=i
  rw[a]
  simp[g0]
noncomputable def nU:List D->Option (List D)
 |[.int j]=>if(decide (0<=j)&&decide (j<2^62))=true then some (g0 j.toNat)else none
 |_=>none
theorem BP{a:Expr}{g:FL}{p pos m b:Pos}(c:Gl X "reversed")(d:X.mg "reversed"=none)(n:Gl X "range")(hm:X.mg "range"=none)(ha:PA X [a] (tVA X.K g E))(hs:Mx [a] X.env=[(false,eval a X.env)]:=by rfl)
  (f:Mx [.Call (.Name "range" p) [a] [] pos] X.env=[(false,eval (.Call (.Name "range" p) [a] [] pos) X.env)]:=by rfl):PI X tg (.Call (.Name "reversed" m) [.Call (.Name "range" p) [a] [] pos] [] b) (iV X.K (aT nU g) E):=
 (yo c d n hm ha hs f).imp λs H R i=>ex6 i λF δ β fr o h=>⟨F,δ,β,fr,o,(run.bind (R:=DenL X.K F) h).mono λvs q i=>by
  obtain⟨ds,β1,t,hd,r1⟩:=i
  obtain⟨l,e,k⟩:=run.ofO r1
  unfold nU at e
  split at e
  ·split at e
   ·rename_i j
    cases e
    simp only[MU,Ni]at j
    obtain⟨v,rfl,r⟩:=DenL.one hd
    cases r.int
    exact⟨_,rfl,j.1,j.2,k _ q (To.refl t.fr) w4⟩
   ·cases e
  ·cases e⟩
end
section
variable{X:Cx}{E:St->XK}{K:Frag}{e m:Expr}{te tm:TE}{pos p2:Pos}
theorem AE(a:List Mh):Vq a.toArray none none (some (-1))=a.reverse.toArray:=by
 have b:Px none none (some (-1)) a.toArray.size=((a.length:Int)-1,-1,-1):=by simp[Px]
 unfold Vq
 rw[b]
 refine Nq _ ?_
 have c:sliceRange ((a.length:Int)-1) (-1) (-1)=(Mv a.length).map λk=>a.length-1-k:=by
  unfold sliceRange
  have d:(if(-1:Int)>0 then(if(a.length:Int)-1< -1 then(-1-((a.length:Int)-1)+-1-1)/ -1 else 0)else(if(a.length:Int)-1>-1 then((a.length:Int)-1- -1- -1-1)/(- -1)else 0)).toNat=a.length:=by
   rw[Mr (by decide)]
   split
   ·rw[show(- -1:Int)=1 by decide,Int.ediv_one];omega
   ·omega
  simp only[d]
  exact Nk λk _=>by omega
 show(sliceRange ((a.length:Int)-1) (-1) (-1)).filterMap _=_
 rw[c,List.filterMap_map]
 rcases a with _|⟨x,r⟩
 ·rfl
 generalize j:x::r=a
 rw[t7 (g:=λk=>a.getD (a.length-1-k) x) λk f=>by
  have:k<a.length:=MO.mp f
  simp only[QD,RE]
  rw[Mp,Mn (by omega)];rfl]
 refine Pk (by simp) λi h l=>?_
 have n:i<a.length:=by simpa using h
 rw[Pl,PP,UD,Mp,Mn (by omega)]
 rfl
noncomputable def tRev(K:Frag)(te tm:TE):TE:=λc H Q=>te c H λx d=>tm c d λy b=>∃a xs,x= .ref a/\y= .int (-1)/\SqL K b a xs/\∀p,b p=none->Q (.ref p) (upd b p (.lst xs.reverse))
theorem IF(l:PE X e te)(hm:PE X m tm):PE X (.Subscript e (.Slice none none (some m) p2) pos) (tRev X.K te tm):=by
 intro c s f H Q I h
 refine Subscript_ (thn (l c s f H _ I h) λv n o=>?_)
 obtain⟨x,p,r,r1,q1⟩:=o
 refine wpAny_Slice ?_
 rw[UZ]
 refine Mg (Mg ?_)
 rw[evalPart_some]
 refine thn (hm c n f p _ r q1) λu d z=>?_
 obtain⟨y,B,g,C,a,xs,rfl,rfl,sq,q⟩:=z
 cases r1
 obtain⟨t,rfl⟩:=C
 obtain⟨its,i,pl,j⟩:=g.list sq
 have k:Inv X c f B {d with heap:=d.heap.push {cls:= .type "slice",data:= .fields #[.none,.none,.int (-1) t]}}:=g.kept (t':=d.toks) λb D q=>Mi _ q
 show Mz (ML X.prog X.w) X.A (U2 e (.Slice none none (some m) p2) (.ref a) (.ref d.heap.objs.size)) (EP X c f Q) X.xe {d with heap:=d.heap.push {cls:= .type "slice",data:= .fields #[.none,.none,.int (-1) t]}}
 refine tail_any (ops:=[.ref a,.ref d.heap.objs.size]) (pl.isList.push _).typeIs slot_list_getitem.lookup (U3 (pl.isList.push _) (SM ..) .none .none (.int (-1) t) (by simp) ?_ (by rw[MG,←i.length];exact j)) (by with_unfolding_all rfl)
 rw[AE]
 exact⟨.ref _,_,k.lnew (t':=d.toks) (its:=its.reverse) (ys:=xs.reverse) i.reverse (by rw[Qq];exact j),rfl,q _ (k.hok.fresh (Mw _))⟩
noncomputable def wt:D->D->Option D
 | .lst ds,.int (-1)=>some (.lst ds.reverse)
 |_,_=>none
theorem DenL.reverse{F:Fx}{H:Hp}:∀{ds:List D} {xs:List V},DenL K F H ds xs->DenL K F H ds.reverse xs.reverse
 |[],xs,h=>by have q:xs=[]:=h;subst q;exact DenL.nil
 |d::ds,xs,h=>by
  obtain⟨x,r,rfl,a,b⟩:=h
  rw[Q1,Q1]
  exact DenL.append (DenL.reverse b) (DenL.cons a DenL.nil)
theorem CT{f g:FD}(o:PE X e (tV X.K f E))(hm:PE X m (tV X.K g E)):PE X (.Subscript e (.Slice none none (some m) p2) pos) (tV X.K (f2 wt f g) E):=
 (IF o hm).imp λs H Q b=>ex6 b λF δ β fr l h=>⟨F,δ,β,fr,l,(run.bind (R:=Den X.K F) h).mono λv u b=>ex5 b λd β1 t hd r1=>⟨F,δ,β1,t.fr,l.tr (t.tr fr),(run.bind (R:=Den X.K F) r1).mono λw x b=>ex5 b λd2 β2 i j q=>by
  obtain⟨z,c,k⟩:=run.ofO q
  unfold wt at c
  split at c
  ·cases c
   obtain⟨a,xs,rfl,sq,r⟩:=Den.sqL (Den.tr (i.tr t.fr) _ _ hd)
   cases j.int
   exact⟨a,xs,rfl,rfl,sq,λp n=>k _ _ (i.fr.upd _ n) (Den.newL i.fr n (DenL.reverse r))⟩
  ·cases c⟩⟩
end
end L2.Pu
namespace L2.Pu
open PySem
theorem hu2{A:M8}{k:Nat}(a:Room k A):A.units+2<cLine:=Og (Va (by decide:2<=64) _) a.units
open PySem.Spec PyProof.Rows L2.Hs
section
variable{X:Cx}{E:St->XK}{ke ve target iter:Expr}{ifs:List Expr}{rest:List No}{scope:Scope}{pos:Pos}{Nc vars:List Str}{caps:List Nat}{g:TG}{tb:Addr->TB}
theorem FK{kb:Bool}{tt:TT}{y:TI}{i:Nat}{x:Str}{b d:Pos}(B:X.N.Nodup)(k:X.N[i]?=some x)(F:Loc X.env.scope x)(G:X.calm=true)(S:CmpScope X scope Nc vars caps)(K:PI X target iter y)
  (L:∀(cl:List (Str×Addr)) (C:Addr) (j:List Addr) (s:Ml) (H:Hp),PG (aE X Nc scope cl C j s H) target g/\dH (aE X Nc scope cl C j s H) ifs tt/\∀D,PB (aE X Nc scope cl C j s H) (.D ke ve) (⟨target,iter,ifs,0⟩::rest) scope pos 0 D (tb D))
  (l:P5 (.DictComp ke ve (⟨target,iter,ifs,0⟩::rest) scope pos) (some (.Name x b)) d.line X.env=pure true:=by rfl)
  (hs:∀x,Nj iter X.env x=pure x:=by intro _;rfl) (M:X.fn x=true\/X.env.scope.names.lookup x=some .local:=by first|exact .inl rfl|exact .inr rfl|assumption):
  PS X (.Assign [.Name x b] (.DictComp ke ve (⟨target,iter,ifs,0⟩::rest) scope pos) d) (i6 (kC (λD=>dj D kb 0 []) vars caps y λD J=>cx J g tt (tb D)) (ef i)):=by
 intro f s O H D I h
 rw[exec_Assign_Name_used _ _ _ _ l]
 refine on (N6 (on ?_))
 show Mz _ X.A (do let _ ←comprehension (.DictComp ke ve (⟨target,iter,ifs,0⟩::rest) scope pos) scope X.env _ newDict false (eval iter X.env) (some (QO (.Name x b) X.env))) _ _ s
 refine on (M9 (OQ (use:=some (QO (.Name x b) X.env)) (Q:=λ_ s'=>SP X f D .next s') rfl hs (S.clo I.ok) S.kind S.loc
  (M9 (K f s O H _ I h) (λv s1 P=>M9 P (λR U n=>?_) λ_ _ e=>e) λ_ _ e=>e)) (λ_ s' V=>Mg (Mg V)) λ_ _ e=>e)
 obtain⟨it,j,tn,J,H2,e,o,T,p,f2,q⟩:=n
 subst e
 refine gA (c:= .D ke ve) tz (RR:=λacc C=>Uo (ML X.prog X.w) X.A X.xe (some (QO (.Name x b) X.env)) _ acc C) G S L o T p f2 q λA C s' W m Y ns r Z=>?_
 show Mz _ X.A (QO (.Name x b) X.env (.ref A)) _ _ s'
 refine Tc (kH Y B k F (v:= .ref A) rfl (λU o n=>?_) M)
 obtain⟨a,sb,ha⟩:=n
 have t:C≠a:=by
  rcases ha with rfl|ha
  ·exact r.2.1
  ·exact λz=>r.2.2.2.1 x a ha z.symm
 exact⟨m,ns.sameBut sb t,λh' u=>⟨_,W,o.letgo r u,Z⟩⟩
theorem x6{kb:Bool}{it:FL}{tg:TgF}{tt:Dn->M Bool}{b:FL}{i:Nat}{x:Str}{a c:Pos}(j:X.N.Nodup)(d:X.N[i]?=some x)(k:Loc X.env.scope x)(l:X.calm=true)(S:CmpScope X scope Nc vars caps)(m:PI X target iter (iV X.K it E))
  (n:∀(cl:List (Str×Addr)) (C:Addr) (f:List Addr) (s:Ml) (H:Hp),PG (aE X Nc scope cl C f s H) target g/\dH (aE X Nc scope cl C f s H) ifs (tVT X.K tt E0)/\∀D,PB (aE X Nc scope cl C f s H) (.D ke ve) (⟨target,iter,ifs,0⟩::rest) scope pos 0 D (tb D))
  (o:cy X.K g tg) (p:dZ tg) (q:∀D,d4 X.K (RD X.K kb) D (tb D) b)
  (e:P5 (.DictComp ke ve (⟨target,iter,ifs,0⟩::rest) scope pos) (some (.Name x a)) c.line X.env=pure true:=by rfl)
  (hs:∀x,Nj iter X.env x=pure x:=by intro _;rfl) (r:X.fn x=true\/X.env.scope.names.lookup x=some .local:=by first|exact .inl rfl|exact .inr rfl|assumption):
  PS X (.Assign [.Name x a] (.DictComp ke ve (⟨target,iter,ifs,0⟩::rest) scope pos) c) (tG X.K X.H₀ (aG i (dy vars.length caps it tg tt b (gQ kb))) E):=
 aM ((FK (kb:=kb) j d k l S m n e hs r).imp λD t H h=>ud o p q h)
end
theorem Li{X:Cx}{E:St->XK}{f g:FD}{b a:Expr}{pos:Pos}(ha:PE X b (tV X.K f E))(c:PE X a (tV X.K g E))(hs:p8 a:=by exact λ_ _=>rfl):PE X (.Subscript b a pos) (tV X.K (f2 ixD f g) E):=cB bj cV ha c hs
end L2.Pu
namespace L2.Pu
open PySem L2.Hs
noncomputable def j6(k:List Int):LI->LI
 |[]=>[k]
 |x::l=>if cg k x=true then k::x::l else if k=x then x::l else x::j6 k l
theorem insU_mem{k y:List Int}:∀{l:LI},y∈j6 k l↔y=k\/y∈l
 |[]=>by simp[j6]
 |x::l=>by
  unfold j6
  split
  ·simp
  ·split
   ·rename_i h
    subst h
    simp
   ·rw[MH,insU_mem,MH]
    exact or_left_comm
theorem vo{k:List Int}:∀{l:LI},Up l->Up (j6 k l)
 |[],_=>by unfold j6;exact Rl _ _
 |x::l,h=>by
  obtain⟨b,c⟩:=PQ.mp h
  unfold j6
  split
  ·rename_i q
   refine PQ.mpr ⟨λy a=>?_,h⟩
   rcases MH.mp a with rfl|a
   ·exact q
   ·exact oz q (b y a)
  ·split
   ·exact h
   ·rename_i q1 q2
    refine PQ.mpr ⟨λy a=>?_,vo c⟩
    rcases insU_mem.mp a with rfl|a
    ·cases q:cg x y with
     |true=>rfl
     |false=>exact MM (lQ (by simpa using q1) q) q2
    ·exact b y a
noncomputable def kI(ks:LI):LI:=ks.foldr j6 []
theorem lL:∀ks,Up (kI ks)
 |[]=> .nil
 |k::ks=>vo (lL ks)
theorem dS{y:List Int}:∀{ks:LI},y∈kI ks↔y∈ks
 |[]=>by simp[kI]
 |k::ks=>by
  show y∈j6 k (kI ks)↔_
  rw[insU_mem,dS,MH]
theorem CW{l:LI}(h:Up l):l.Nodup:=h.imp λ{a b} q e=>by
 subst e
 rw[hZ]at q;cases q
theorem Ib{ks:LI}(b:∀k∈ks,1<=k.length){m:LI}(hm:m.length<63)(c:∀k∈ks,k∈m):iD (ks.map tpI)=some (.lst ((kI ks).map tpI)):=by
 refine zZ ⟨lL ks,Og (kX (CW (lL ks)) λx e=>c x (dS.mp e)) hm,λk a=>⟨b k (dS.mp a),MN.mpr ⟨k,dS.mp a,rfl⟩⟩,λd hd=>?_⟩
 obtain⟨k,a,rfl⟩:=MN.mp hd
 exact⟨k,dS.mpr a,rfl⟩
end L2.Pu
namespace L2.Nt
noncomputable def sm{α:Type}(l:List α)(f:α->Nat):Nat:=(l.map f).sum
section
variable{α β:Type}
theorem xX{f:α->Nat}:sm [] f=0:=rfl
theorem bY{a:α}{l:List α}{f:α->Nat}:sm (a::l) f=f a+sm l f:=by unfold sm;rw[ME,MZ]
theorem sB{l m:List α}{f:α->Nat}:sm (l++m) f=sm l f+sm m f:=by unfold sm;rw[M7,List.sum_append]
theorem sm_congr{f g:α->Nat}:∀{l:List α},(∀a∈l,f a=g a)->sm l f=sm l g
 |[],_=>rfl
 |a::l,h=>by rw[bY,bY,h a Mq,sm_congr λb c=>h b (Mo a c)]
theorem xY{g:β->α}{f:α->Nat}{l:List β}:sm (l.map g) f=sm l λb=>f (g b):=by unfold sm;rw[MK];rfl
theorem uO{g:β->List α}{f:α->Nat}:∀{l:List β},sm (l.flatMap g) f=sm l λb=>sm (g b) f
 |[]=>rfl
 |b::l=>by rw[N3,sB,bY,uO]
theorem jh:∀{l:List α},(sm l λ_=>0)=0
 |[]=>rfl
 |a::l=>by rw[bY,jh]
theorem sC{f g:α->Nat}:∀{l:List α},(sm l λa=>f a+g a)=sm l f+sm l g
 |[]=>rfl
 |a::l=>by rw[bY,bY,bY,sC];omega
theorem nG{c:Nat}{f:α->Nat}:∀{l:List α},(sm l λa=>c*f a)=c*sm l f
 |[]=>rfl
 |a::l=>by rw[bY,bY,nG,Nat.mul_add]
theorem o9{f:α->β->Nat}{m:List β}:∀{l:List α},(sm l λa=>sm m (f a))=sm m λb=>sm l λa=>f a b
 |[]=>jh.symm
 |a::l=>by
  rw[bY,o9,←sC]
  exact sm_congr λb _=>(bY (f:=λa=>f a b)).symm
end
theorem rB{f:Nat->Nat}{m:Nat}:∀{n:Nat},m<=n->sm (Mv (m+1)) f=sm (Mv (n+1)) λa=>if a<=m then f a else 0
 |0,h=>by
  obtain rfl:m=0:=by omega
  exact sm_congr λa ha=>by
   have:=MO.mp ha
   rw[Mu (by omega)]
 |n+1,h=>by
  rcases Sx m (n+1)with q|q
  ·rw[O4 (n:=n+1),sB,←rB (by omega:m<=n),bY,xX,Mr (by omega)]
   omega
  ·obtain rfl:m=n+1:=by omega
   exact sm_congr λa ha=>by
    have:=MO.mp ha
    rw[Mu (by omega)]
noncomputable def aO:List Nat->Nat->List (List Nat)
 |[],0=>[[]]
 |[],_+1=>[]
 |x::r,c=>(Mv (min x c+1)).flatMap λa=>(aO r (c-a)).map (a::·)
noncomputable def less(r v:List Nat):List Nat:=Sn (·-·) r v
theorem kz{x c:Nat}{r:List Nat}{f:List Nat->Nat}:sm (aO (x::r) c) f=sm (Mv (min x c+1)) λa=>sm (aO r (c-a)) λv=>f (a::v):=by
 show sm ((Mv (min x c+1)).flatMap λa=>(aO r (c-a)).map (a::·)) f=_
 rw[uO]
 exact sm_congr λa _=>xY
noncomputable def two(r:List Nat)(c d:Nat)(f:List Nat->List Nat->Nat):Nat:=sm (aO r c) λv=>sm (aO (less r v) d) (f v)
theorem sr{x c d:Nat}{r:List Nat}{f:List Nat->List Nat->Nat}:two (x::r) c d f=sm (Mv (x+1)) λa=>sm (Mv (x+1)) λb=>if a<=c/\b<=d/\a+b<=x then two r (c-a) (d-b) (λv u=>f (a::v) (b::u))else 0:=by
 unfold two
 rw[kz,rB (Nat.min_le_left x c)]
 refine sm_congr λa ha=>?_
 have g:=MO.mp ha
 by_cases q:a<=c
 ·rw[Mu (by omega)]
  have e:(sm (aO r (c-a)) λv=>sm (aO (less (x::r) (a::v)) d) (f (a::v)))=sm (aO r (c-a)) λv=>sm (Mv (x+1)) λb=>if b<=min (x-a) d then sm (aO (less r v) (d-b)) (λu=>f (a::v) (b::u))else 0:=by
   refine sm_congr λv _=>?_
   show sm (aO ((x-a)::less r v) d) _=_
   rw[kz,rB (by omega:min (x-a) d<=x)]
  rw[e,o9]
  refine sm_congr λb h=>?_
  by_cases q2:b<=d/\a+b<=x
  ·rw[Mu ⟨q,q2⟩]
   exact sm_congr λv _=>Mu (by omega)
  ·rw[Mr (λz=>q2 z.2)]
   exact(sm_congr λv _=>Mr (by omega)).trans jh
 ·rw[Mr (by omega)]
  exact((sm_congr λb _=>Mr (λz=>q z.1)).trans jh).symm
theorem sk:∀{r:List Nat} {c d:Nat} {f:List Nat->List Nat->Nat},two r c d f=two r d c λv u=>f u v
 |[],0,0,f=>rfl
 |[],0,_+1,f=>rfl
 |[],_+1,0,f=>rfl
 |[],_+1,_+1,f=>rfl
 |x::r,c,d,f=>by
  rw[sr,sr,o9]
  refine sm_congr λb _=>sm_congr λa _=>?_
  by_cases q:a<=c/\b<=d/\a+b<=x
  ·rw[Mu q,Mu ⟨q.2.1,q.1,by omega⟩,sk]
  ·rw[Mr q,Mr (λz=>q ⟨z.2.1,z.1,by omega⟩)]
noncomputable def tabs:List Nat->List Nat->Nat
 |_,[]=>1
 |r,c::cs=>sm (aO r c) λv=>tabs (less r v) cs
theorem qw:∀(r v u:List Nat),less (less r v) u=less (less r u) v
 |[],_,_=>by simp[less]
 |_::_,[],u=>by cases u<;>simp[less]
 |_::_,_::_,[]=>by simp[less]
 |x::r,a::v,b::u=>by
  show(x-a-b)::less (less r v) u=(x-b-a)::less (less r u) v
  rw[qw r v u]
  congr 1
  omega
theorem xM{cs ds:List Nat}(p:cs.Perm ds):∀r,tabs r cs=tabs r ds:=by
 induction p with
 |nil=>intro r;rfl
 |cons c _ ih=>intro r;exact sm_congr λv _=>ih _
 |swap c d l=>
  intro r
  show two r d c (λv u=>tabs (less (less r v) u) l)=two r c d (λv u=>tabs (less (less r v) u) l)
  rw[sk]
  exact sm_congr λv _=>sm_congr λu _=>Nq (tabs · l) (qw r u v)
 |trans _ _ ih1 ih2=>intro r;rw[ih1,ih2]
theorem zS(r cs:List Nat):tabs r cs.reverse=tabs r cs:=xM (List.reverse_perm cs) r
end L2.Nt
namespace L2.Nt
open L2.Pu
noncomputable def ch:Nat->Nat->Nat
 |_,0=>1
 |0,_+1=>0
 |n+1,k+1=>ch n k+ch n (k+1)
theorem oS:∀{n k:Nat},n<k->ch n k=0
 |0,k+1,_=>by simp[ch]
 |n+1,k+1,h=>by
  show ch n k+ch n (k+1)=0
  rw[oS (by omega),oS (by omega)]
theorem pY(n:Nat):ch n 0=1:=by cases n<;>rfl
theorem vL:∀n,ch n n=1
 |0=>rfl
 |n+1=>by
  show ch n n+ch n (n+1)=1
  rw[vL n,oS (by omega)]
theorem xg(n:Nat):facN (n+1)=(n+1)*facN n:=OZ (facN n) (n+1)
theorem lu:∀n a b:Nat,a+b=n->ch (a+b) a*(facN a*facN b)=facN (a+b)
 |n,0,b,_=>by rw[pY];simp[facN]
 |n,a+1,0,_=>by rw[Nat.add_zero,vL];simp[facN]
 |0,a+1,b+1,h=>by omega
 |n+1,a+1,b+1,h=>by
  have c:=lu n a (b+1) (by omega)
  have d:=lu n (a+1) b (by omega)
  have e:a+1+(b+1)=(a+b+1)+1:=by omega
  have f:a+(b+1)=a+b+1:=by omega
  have g:a+1+b=a+b+1:=by omega
  rw[f]at c
  rw[g]at d
  rw[e]
  show(ch (a+b+1) a+ch (a+b+1) (a+1))*(facN (a+1)*facN (b+1))=facN (a+b+1+1)
  rw[xg (a+b+1),UQ]
  have i:ch (a+b+1) a*(facN (a+1)*facN (b+1))=(a+1)*facN (a+b+1):=by
   rw[←c,xg a];simp only[Ql,P3,OZ]
  have j:ch (a+b+1) (a+1)*(facN (a+1)*facN (b+1))=(b+1)*facN (a+b+1):=by
   rw[←d,xg b];simp only[Ql,P3,OZ]
  rw[i,j,←UQ,show a+1+(b+1)=a+b+1+1 by omega]
theorem lM{f:Nat->Nat}{n:Nat}:sm (Mv (n+1)) f=f 0+sm (Mv n) λa=>f (a+1):=by
 rw[Rt,bY,xY]
theorem zO:∀(x y c:Nat),(sm (Mv (c+1)) λa=>ch x a*ch y (c-a))=ch (x+y) c
 |0,y,c=>by
  rw[lM,pY,Nat.one_mul,Nat.sub_zero,OG]
  have:(sm (Mv c) λa=>ch 0 (a+1)*ch y (c-(a+1)))=0:=(sm_congr λa _=>by rw[oS (by omega),Nat.zero_mul]).trans jh
  rw[this];rfl
 |x+1,y,0=>by rw[lM];simp[pY,xX]
 |x+1,y,c+1=>by
  have b:=zO x y (c+1)
  have d:=zO x y c
  rw[lM]at b
  rw[lM]
  have e:(sm (Mv (c+1)) λa=>ch (x+1) (a+1)*ch y (c+1-(a+1)))=(sm (Mv (c+1)) λa=>ch x a*ch y (c-a))+sm (Mv (c+1)) λa=>ch x (a+1)*ch y (c+1-(a+1)):=by
   rw[←sC]
   refine sm_congr λa _=>?_
   show(ch x a+ch x (a+1))*_=_
   rw[UQ,Nat.add_sub_add_right]
  rw[e,d]
  have f:x+1+y=x+y+1:=by omega
  rw[f]
  show _=ch (x+y) c+ch (x+y) (c+1)
  rw[←b,pY,pY]
  omega
theorem vdm(x y c:Nat):(sm (Mv (min x c+1)) λa=>ch x a*ch y (c-a))=ch (x+y) c:=by
 rw[rB (Nat.min_le_right x c),←zO]
 refine sm_congr λa ha=>?_
 have:=MO.mp ha
 by_cases q:a<=x
 ·rw[Mu (by omega)]
 ·rw[Mr (by omega),oS (by omega),Nat.zero_mul]
noncomputable def pc:List Nat->List Nat->Nat
 |x::r,a::v=>ch x a*pc r v
 |_,_=>1
theorem yt:∀(r:List Nat) (c:Nat),sm (aO r c) (pc r)=ch r.sum c
 |[],0=>rfl
 |[],c+1=>rfl
 |x::r,c=>by
  rw[kz,MZ,←vdm]
  exact sm_congr λa _=>by rw[←yt r (c-a),←nG];rfl
theorem jK:∀{r:List Nat} {c:Nat} {v:List Nat},v∈aO r c->v.sum=c/\(less r v).sum+c=r.sum/\v.length=r.length/\pr (r.map facN)=pc r v*(pr (v.map facN)*pr ((less r v).map facN))
 |[],0,v,h=>by cases Nb.mp h;exact⟨rfl,rfl,rfl,rfl⟩
 |[],c+1,v,h=>by cases h
 |x::r,c,v,h=>by
  have h':v∈(Mv (min x c+1)).flatMap λa=>(aO r (c-a)).map (a::·):=h
  obtain⟨a,ha,d⟩:=ON.mp h'
  obtain⟨u,e,rfl⟩:=MN.mp d
  have f:=MO.mp ha
  obtain⟨g,i,j,k⟩:=jK e
  refine⟨by rw[MZ,g];omega,?_,by rw[MA,j,MA],?_⟩
  ·show((x-a)::less r u).sum+c=_
   rw[MZ,MZ,←i];omega
  ·show facN x*pr (r.map facN)=(ch x a*pc r u)*((facN a*pr (u.map facN))*(facN (x-a)*pr ((less r u).map facN)))
   have b:=lu x a (x-a) (by omega)
   rw[show a+(x-a)=x by omega]at b
   rw[k,←b]
   simp only[Ql,P3,OZ]
noncomputable def mu:List Nat->Nat
 |[]=>1
 |x::r=>ch (x+r.sum) x*mu r
theorem k4:∀r:List Nat,mu r*pr (r.map facN)=facN r.sum
 |[]=>rfl
 |x::r=>by
  show(ch (x+r.sum) x*mu r)*(facN x*pr (r.map facN))=facN (x::r).sum
  rw[MZ,←lu _ x r.sum rfl,←k4 r]
  simp only[Ql,P3,OZ]
theorem uZ(r:List Nat):0<pr (r.map facN):=sQ λx a=>by
 obtain⟨n,_,rfl⟩:=MN.mp a
 exact l3 n
theorem IX(r:List Nat):facN r.sum/pr (r.map facN)=mu r:=by rw[←k4,Nat.mul_div_cancel _ (uZ r)]
noncomputable def dls:List Nat->List Nat->Nat
 |_,[]=>1
 |r,c::cs=>sm (aO r c) λv=>mu v*dls (less r v) cs
theorem CO:∀{r:List Nat},r.sum=0->mu r=1
 |[],_=>rfl
 |x::r,h=>by
  rw[MZ]at h
  obtain rfl:x=0:=by omega
  show ch _ 0*mu r=1
  rw[pY,CO (by omega)]
theorem uc:∀(cs r:List Nat),r.sum=cs.sum->dls r cs=mu r
 |[],r,h=>(CO h).symm
 |c::cs,r,h=>by
  rw[MZ]at h
  refine Nat.eq_of_mul_eq_mul_right (uZ r) ?_
  rw[k4]
  show sm (aO r c) (λv=>mu v*dls (less r v) cs)*_=_
  rw[OZ,←nG]
  have e:(sm (aO r c) λv=>pr (r.map facN)*(mu v*dls (less r v) cs))=sm (aO r c) λv=>(facN c*facN (r.sum-c))*pc r v:=by
   refine sm_congr λv a=>?_
   obtain⟨b,f,g,d⟩:=jK a
   rw[uc cs (less r v) (by omega),d]
   have m1:=k4 v
   have m2:=k4 (less r v)
   rw[b]at m1
   rw[show(less r v).sum=r.sum-c by omega]at m2
   rw[←m1,←m2]
   simp only[Ql,P3,OZ]
  rw[e,nG,yt,OZ]
  have:=lu r.sum c (r.sum-c) (by omega)
  rw[show c+(r.sum-c)=r.sum by omega]at this
  exact this
end L2.Nt
namespace L2.Nt
open L2.Pu
noncomputable def LeN:List Nat->List Nat->Prop
 |[],[]=>True
 |a::v,x::r=>a<=x/\LeN v r
 |_,_=>False
theorem LeN.refl:∀r,LeN r r
 |[]=>trivial
 |_::r=>⟨Mw _,LeN.refl r⟩
theorem LeN.tr:∀{u v r:List Nat},LeN u v->LeN v r->LeN u r
 |[],[],[],_,_=>trivial
 |_::_,_::_,_::_,h,q=>⟨MS h.1 q.1,h.2.tr q.2⟩
 |[],_::_,_,h,_=>h.elim
 |_::_,[],_,h,_=>h.elim
 |[],[],_::_,_,q=>q.elim
 |_::_,_::_,[],_,q=>q.elim
theorem LeN.len:∀{v r:List Nat},LeN v r->v.length=r.length
 |[],[],_=>rfl
 |_::_,_::_,h=>Nq (·+1) h.2.len
 |[],_::_,h=>h.elim
 |_::_,[],h=>h.elim
theorem LeN.less:∀{v r:List Nat},LeN v r->LeN (less r v) r
 |[],[],_=>trivial
 |a::v,x::r,h=>⟨Nat.sub_le x a,h.2.less⟩
 |[],_::_,h=>h.elim
 |_::_,[],h=>h.elim
theorem LeN.pr:∀{v r:List Nat},LeN v r->L2.Pu.pr (v.map (·+1))<=L2.Pu.pr (r.map (·+1))
 |[],[],_=>Mw _
 |_::_,_::_,h=>Nat.mul_le_mul (Nat.succ_le_succ h.1) h.2.pr
 |[],_::_,h=>h.elim
 |_::_,[],h=>h.elim
theorem LeN.sum:∀{v r:List Nat},LeN v r->v.sum<=r.sum
 |[],[],_=>Mw _
 |_::_,_::_,h=>by rw[MZ,MZ];exact Nat.add_le_add h.1 h.2.sum
 |[],_::_,h=>h.elim
 |_::_,[],h=>h.elim
theorem hX:∀{r:List Nat} {c:Nat} {v:List Nat},v∈aO r c->LeN v r
 |[],0,v,h=>by cases Nb.mp h;exact trivial
 |[],c+1,v,h=>by cases h
 |x::r,c,v,h=>by
  have h':v∈(Mv (min x c+1)).flatMap λa=>(aO r (c-a)).map (a::·):=h
  obtain⟨a,ha,b⟩:=ON.mp h'
  obtain⟨u,d,rfl⟩:=MN.mp b
  have e:=MO.mp ha
  exact⟨by omega,hX d⟩
theorem mT:∀{r v:List Nat},LeN v r->v∈aO r v.sum
 |[],[],_=>Nb.mpr rfl
 |x::r,a::v,h=>by
  refine ON.mpr ⟨a,MO.mpr (by rw[MZ];have:=h.1;omega),MN.mpr ⟨v,?_,rfl⟩⟩
  rw[MZ,Nat.add_sub_cancel_left]
  exact mT h.2
 |[],_::_,h=>h.elim
 |_::_,[],h=>h.elim
theorem lZ{α a:Type}{f:α->List a}{n:Nat}:∀{l:List α},(∀x∈l,(f x).length<=n)->(l.flatMap f).length<=l.length*n
 |[],_=>by simp
 |x::l,h=>by
  rw[N3,MJ,MA,Nat.succ_mul,Ue]
  exact Nat.add_le_add (lZ λy b=>h y (Mo _ b)) (h x Mq)
theorem mD:∀(r:List Nat) (c:Nat),(aO r c).length<=pr (r.dropLast.map (·+1))
 |[],0=>Mw _
 |[],_+1=>N2 _
 |[x],c=>by
  have h:aO [x] c=(Mv (min x c+1)).flatMap λa=>(aO [] (c-a)).map (a::·):=rfl
  rw[h,O4,RV,MJ]
  have e:((Mv (min x c)).flatMap λa=>(aO [] (c-a)).map (a::·))=[]:=by
   refine Rj.mpr λa ha=>?_
   have:=MO.mp ha
   obtain⟨n,hn⟩:∃n,c-a=n+1:=⟨c-a-1,by omega⟩
   rw[hn];rfl
  rw[e]
  cases q:c-min x c<;>simp[aO,q,pr]
 |x::y::r,c=>by
  have h:=lZ (l:=Mv (min x c+1)) (f:=λa=>(aO (y::r) (c-a)).map (a::·)) (n:=pr ((y::r).dropLast.map (·+1))) λa _=>by rw[Mj];exact mD (y::r) (c-a)
  rw[MR]at h
  refine MS h ?_
  show _<=(x+1)*pr ((y::r).dropLast.map (·+1))
  exact UR _ (by omega)
theorem zN{r:List Nat}{m:Nat}(h:r.sum<m):aO r m=[]:=List.eq_nil_iff_forall_not_mem.mpr λv a=>by
 have:=jK a
 omega
noncomputable def nxt(x a:Nat)(b:List Nat×Nat):List (List Nat×Nat):=(Mv (min x b.2+1-(b.2-a))).map λi=>(b.1++[b.2-a+i],b.2-(b.2-a+i))
noncomputable def stg(r:List Nat)(c:Nat):Nat->List (List Nat×Nat)
 |0=>[([],c)]
 |k+1=>(stg r c k).flatMap (nxt (r.getD k 0) (r.drop (k+1)).sum)
theorem BU{b:Type}{f:Nat->List b}{lo n:Nat}(h:∀a<lo,f a=[]):(Mv n).flatMap f=(Mv (n-lo)).flatMap λi=>f (lo+i):=by
 rcases Nat.le_total lo n with q|q
 ·have e:lo+(n-lo)=n:=by omega
  conv=>lhs;rw[←e,List.range_add,RV,Rj.mpr λa ha=>h a (MO.mp ha),NA]
  rw[List.flatMap_map]
 ·rw[show n-lo=0 by omega,Rj.mpr λa ha=>h a (by have:=MO.mp ha;omega)]
  rfl
theorem xb{α β a:Type}{f:α->List β}{g:β->List a}(l:List α):(l.flatMap f).flatMap g=l.flatMap λx=>(f x).flatMap g:=List.flatMap_assoc
theorem uN(r:List Nat)(c:Nat):∀k,k<=r.length->((stg r c k).flatMap λb=>(aO (r.drop k) b.2).map (b.1++·))=aO r c
 |0,_=>by simp[stg]
 |k+1,h=>by
  rw[←uN r c k (by omega)]
  show((stg r c k).flatMap (nxt (r.getD k 0) (r.drop (k+1)).sum)).flatMap _=_
  rw[xb]
  refine Nq (List.flatMap · (stg r c k)) (funext λb=>?_)
  rw[N7 (show k<r.length by omega),Mp,Mn (show k<r.length by omega)]
  show(nxt r[k] (r.drop (k+1)).sum b).flatMap _=((Mv (min r[k] b.2+1)).flatMap λa=>(aO (r.drop (k+1)) (b.2-a)).map (a::·)).map (b.1++·)
  rw[OM,BU (lo:=b.2-(r.drop (k+1)).sum) λa ha=>by rw[zN (by omega)];rfl]
  unfold nxt
  rw[List.flatMap_map]
  refine Nq (List.flatMap · _) (funext λi=>?_)
  rw[MK]
  exact Nk λv _=>by simp
theorem EV(r:List Nat)(c:Nat):((stg r c r.length).filter λb=>decide ((b.2:Int)=0)).map (·.1)=aO r c:=by
 rw[←uN r c r.length (Mw _),List.drop_length]
 generalize stg r c r.length=l
 induction l with
 |nil=>rfl
 |cons b l ih=>
  rw[N3,SB,←ih]
  cases q:b.2 with
  |zero=>simp[aO]
  |succ n=>simp only[aO,Oj,NA];rw[Mr (by simp;omega)]
theorem uM(r:List Nat)(c:Nat):∀k,k<=r.length->(stg r c k).length<=pr ((r.take k).map (·+1))
 |0,_=>Mw _
 |k+1,h=>by
  have e:r[k]?=some r[k]:=Mn (by omega)
  rw[lN e]
  refine MS (lZ (n:=r[k]+1) λb _=>?_) (UR _ (uM r c k (by omega)))
  unfold nxt
  rw[Mj,MR,Mp,e]
  show min r[k] b.2+1-_<=_
  omega
theorem DJ(r:List Nat)(k:Nat):pr ((r.take k).map (·+1))<=pr (r.map (·+1)):=by
 conv=>rhs;rw[←P7 k r,M7,yk]
 exact T9 _ (sQ λx a=>by
  obtain⟨n,_,rfl⟩:=MN.mp a
  omega)
theorem xT(r:List Nat)(c:Nat):∀k,∀b∈stg r c k,b.2<=c/\b.1.length=k
 |0,b,h=>by cases Nb.mp h;exact⟨Mw _,rfl⟩
 |k+1,b,h=>by
  obtain⟨d,hd,a⟩:=ON.mp (show b∈(stg r c k).flatMap (nxt (r.getD k 0) (r.drop (k+1)).sum)from h)
  obtain⟨i,_,rfl⟩:=MN.mp a
  obtain⟨q1,q2⟩:=xT r c k d hd
  exact⟨by show d.2-_<=c;omega,by rw[MJ,q2];rfl⟩
end L2.Nt
namespace L2.Nt
open L2.Pu
noncomputable def nxI(L:List (List Nat))(c:Nat):LI:=L.flatMap λr=>(aO r c).map λv=>nI (less r v)
noncomputable def nxL(L:List (List Nat))(c:Nat):List (List Nat):=(kI (nxI L c)).map λk=>k.map Int.toNat
theorem rF(l:List Nat):(nI l).map Int.toNat=l:=by
 rw[MK]
 exact(Nk λx _=>rfl).trans (List.map_id l)
theorem oq{l m:List Nat}(h:nI l=nI m):l=m:=by rw[←rF l,h,rF]
theorem jw{L:List (List Nat)}{c:Nat}{k:List Int}:k∈nxI L c↔∃r∈L,∃v∈aO r c,k=nI (less r v):=by
 unfold nxI
 constructor
 ·intro h
  obtain⟨r,a,h⟩:=ON.mp h
  obtain⟨v,b,rfl⟩:=MN.mp h
  exact⟨r,a,v,b,rfl⟩
 ·rintro⟨r,a,v,b,rfl⟩
  exact ON.mpr ⟨r,a,MN.mpr ⟨v,b,rfl⟩⟩
theorem wH(L:List (List Nat))(c:Nat):(nxL L c).map nI=kI (nxI L c):=by
 unfold nxL
 rw[MK]
 refine(Nk λk a=>?_).trans (List.map_id _)
 obtain⟨r,_,v,_,rfl⟩:=jw.mp (dS.mp a)
 show nI ((nI _).map Int.toNat)=_
 rw[rF];rfl
theorem pA{L:List (List Nat)}{c:Nat}{u:List Nat}:u∈nxL L c↔∃r∈L,∃v∈aO r c,u=less r v:=by
 constructor
 ·intro h
  have:nI u∈kI (nxI L c):=by rw[←wH];exact MN.mpr ⟨u,h,rfl⟩
  obtain⟨r,a,v,b,e⟩:=jw.mp (dS.mp this)
  exact⟨r,a,v,b,oq e⟩
 ·rintro⟨r,a,v,b,rfl⟩
  exact MN.mpr ⟨nI (less r v),dS.mpr (jw.mpr ⟨r,a,v,b,rfl⟩),rF _⟩
theorem yI{α a:Type}{f:α->a}{l:List α}(h:(l.map f).Nodup):l.Nodup:=(Q0.mp h).imp λq e=>q (Nq f e)
theorem yJ{α c:Type}{f:α->c}(inj:∀a b,f a=f b->a=b){l:List α}(h:l.Nodup):(l.map f).Nodup:=Q0.mpr (h.imp λq e=>q (inj _ _ e))
theorem IU(L:List (List Nat))(c:Nat):(nxL L c).Nodup:=yI (f:=nI) (by rw[wH];exact CW (lL _))
noncomputable def lvl(rs cs:List Nat):Nat->List (List Nat)
 |0=>[rs]
 |k+1=>nxL (lvl rs cs k) (cs.getD k 0)
theorem tJ(rs cs:List Nat):∀k,(lvl rs cs k).Nodup
 |0=>Rl _ _
 |k+1=>IU _ _
theorem qI{cs:List Nat}{k:Nat}(h:k<cs.length):cs.drop k=cs.getD k 0::cs.drop (k+1):=by
 rw[N7 h,Mp,Mn h];rfl
theorem jx{rs cs:List Nat}(hs:rs.sum=cs.sum):∀k,k<=cs.length->∀r∈lvl rs cs k,LeN r rs/\r.sum=(cs.drop k).sum
 |0,_,r,h=>by cases Nb.mp h;exact⟨LeN.refl _,hs⟩
 |k+1,hk,u,h=>by
  obtain⟨r,b,v,a,rfl⟩:=pA.mp (show u∈nxL (lvl rs cs k) (cs.getD k 0)from h)
  obtain⟨q1,q2⟩:=jx hs k (by omega) r b
  have q3:=(jK a).2.1
  rw[q2,qI (by omega),MZ]at q3
  exact⟨(hX a).less.tr q1,by omega⟩
theorem GL{rs cs:List Nat}(hs:rs.sum=cs.sum){k:Nat}(a:k<=cs.length):(lvl rs cs k).length<=pr (rs.dropLast.map (·+1)):=
 MS (kX (tJ rs cs k) (m:=aO rs (cs.drop k).sum) λr b=>by
  obtain⟨c,d⟩:=jx hs k a r b
  rw[←d];exact mT c) (mD _ _)
theorem GG{rs cs:List Nat}(hs:rs.sum=cs.sum)(d:1<=rs.length)(e:pr (rs.dropLast.map (·+1))<63){k:Nat}(f:k<cs.length):iD ((nxI (lvl rs cs k) (cs.getD k 0)).map tpI)=some (.lst ((lvl rs cs (k+1)).map λr=>tpI (nI r))):=by
 refine(Ib (m:=(aO rs (cs.drop (k+1)).sum).map nI) ?_ (by rw[Mj];exact Og (mD _ _) e) ?_).trans ?_
 ·intro x a
  obtain⟨r,b,v,c,rfl⟩:=jw.mp a
  rw[Mj,((hX c).less.tr (jx hs k (by omega) r b).1).len];exact d
 ·intro x a
  obtain⟨r,b,v,c,rfl⟩:=jw.mp a
  obtain⟨q1,q2⟩:=jx hs (k+1) f (less r v) (pA.mpr ⟨r,b,v,c,rfl⟩)
  exact MN.mpr ⟨less r v,by rw[←q2];exact mT q1,rfl⟩
 ·rw[←wH,MK];rfl
noncomputable def kys(rs cs:List Nat)(n:Nat):List (Int×List Int):=(Mv n).flatMap λk=>(lvl rs cs k).map λr=>((k:Int),nI r)
theorem yU(rs cs:List Nat):∀n,(kys rs cs n).Nodup
 |0=>List.nodup_nil
 |n+1=>by
  unfold kys
  rw[O4,RV,N3,List.flatMap_nil,M2]
  refine Sm.mpr ⟨yU rs cs n,yJ (λr s e=>oq (Su.mp e).2) (tJ rs cs n),λx a y b e=>?_⟩
  subst e
  obtain⟨k,c,h⟩:=ON.mp a
  obtain⟨r,_,rfl⟩:=MN.mp h
  obtain⟨s,_,e⟩:=MN.mp b
  have:=(Su.mp e).1
  have d:=MO.mp c
  simp only at this
  omega
end L2.Nt
set_option maxHeartbeats 8000000
namespace Law
open PySem L2 L2.Pu
open L2.Hs (sT yW jS)
noncomputable def top(i:Nat):Stmt:=PySem.Challenge.pw_edgetally_k16_whole_dealings_closed.main.body.getD i (.Pass ⟨0,0,0,0⟩)
noncomputable abbrev x9:Stmt:=top 13
noncomputable abbrev kM:Stmt:=top 14
noncomputable abbrev kN:Stmt:=top 15
noncomputable abbrev ii:Stmt:=top 16
noncomputable abbrev mt:Stmt:=top 18
noncomputable abbrev x5:Stmt:=top 19
noncomputable abbrev nQ:Stmt:=top 20
noncomputable abbrev ql:Stmt:=top 22
noncomputable abbrev kj:Stmt:=top 23
noncomputable abbrev kn:Stmt:=top 24
noncomputable abbrev qj:Stmt:=top 25
noncomputable abbrev mq:Stmt:=top 26
noncomputable abbrev qo:Stmt:=top 27
noncomputable abbrev mv:Stmt:=top 28
noncomputable abbrev kK:Stmt:=top 31
noncomputable abbrev gU:Stmt:=top 32
noncomputable abbrev gW:Stmt:=top 33
noncomputable abbrev jk:Stmt:=top 34
noncomputable abbrev ij:Stmt:=top 35
noncomputable abbrev kq:Stmt:=top 36
noncomputable abbrev iI:Stmt:=top 37
noncomputable abbrev uS:Stmt:=top 40
noncomputable abbrev sK:Stmt:=top 41
noncomputable abbrev sJ:Stmt:=top 42
noncomputable abbrev sL:Stmt:=top 43
noncomputable abbrev sH:Stmt:=top 44
noncomputable abbrev qm:Stmt:=top 45
noncomputable abbrev nP:Stmt:=top 46
noncomputable abbrev mr:Stmt:=top 47
noncomputable abbrev jl:Stmt:=top 48
noncomputable abbrev kr:Stmt:=top 49
noncomputable abbrev sI:Stmt:=top 50
noncomputable abbrev jp:Stmt:=am (top 38) 0
noncomputable abbrev jo:Stmt:=am (top 38) 8
noncomputable abbrev iJ:Stmt:=am (top 38) 6
noncomputable abbrev kO:Stmt:=am (top 38) 7
noncomputable abbrev nN:Stmt:=top 51
noncomputable abbrev kD:Stmt:=am (top 2) 0
noncomputable abbrev nF:Stmt:=am (top 3) 0
noncomputable abbrev kF:Stmt:=am (top 4) 0
noncomputable abbrev kE:Stmt:=am (top 7) 0
set_option genSizeOf false in
set_option genInjectivity false in
structure Ad where
 Aa:Addr
 Ab:Addr
 Ac:FuncData
 Ae:Addr
 Af:Addr
 Ag:FuncData
 Ah:Addr
 Ai:Addr
 Aj:FuncData
 Ak:Addr
 Al:Addr
 Am:FuncData
 An:Addr
 Ao:Addr
 Aq:FuncData
 Ar:Addr
 As:FuncData
 At:Addr
 Au:FuncData
 Av:Addr
 Aw:FuncData
 Ax:Addr
 Ay:FuncData
 Az:Addr
 A0:FuncData
 A1:Addr
 A2:FuncData
 A3:Addr
 A4:FuncData
 A5:Addr
 A6:FuncData
 A7:Addr
 A8:FuncData
 A9:Addr
 Ba:FuncData
 Bb:Addr
 Bc:FuncData
 Bd:Addr
 Be:FuncData
 Bf:Addr
 Bh:FuncData
 Bi:Addr
 Bj:FuncData
 Bk:Addr
 Bl:FuncData
 Bm:Addr
 Bn:FuncData
 Bo:Addr
 Bp:FuncData
 Bq:Addr
 Br:FuncData
 Bs:Addr
 Bt:FuncData
 Bu:Addr
 Bv:FuncData
 Bw:Addr
 Bx:FuncData
 By:Addr
 Bz:FuncData
 B0:Addr
 B3:FuncData
 B4:Addr
 B5:FuncData
 B7:Addr
 B8:FuncData
 Ca:Addr
 Cb:FuncData
 Cc:Addr
 Cd:FuncData
 Cf:Addr
 Cg:FuncData
 Ch:Addr
 Ci:FuncData
 Cj:Addr
 Ck:FuncData
 Cl:Addr
 Cm:FuncData
 Cn:Addr
 Co:FuncData
 Cp:Addr
 Cq:FuncData
 Cr:Addr
 Cs:FuncData
 Ct:Addr
 Cu:FuncData
 Cv:Addr
 Cw:FuncData
structure Fns (K:Frag) (mg:Str->Option Mh) (a:Ad):Prop where
 Cy:mg "ValueError"=none
 Cz:mg "abs"=none
 C0:mg "any"=none
 C2:mg "bool"=none
 C3:mg "enumerate"=none
 C4:mg "int"=none
 C5:mg "isinstance"=none
 C6:mg "len"=none
 C7:mg "list"=none
 C8:mg "max"=none
 C9:mg "min"=none
 Da:mg "range"=none
 Db:mg "reversed"=none
 Dd:mg "sorted"=none
 Df:mg "str"=none
 Dg:mg "sum"=none
 Dh:mg "tuple"=none
 Di:mg "zip"=none
 Dj:ml K mg "MOST" (.int 40)
 Dl:ml K mg "MOST_COLUMNS" (.int 6)
 Dm:ml K mg "MOST_ROWS" (.int 4)
 Do:ml K mg "WIDE" (.int 500)
 Dp:FunD K "free" "free" x9 a.Ao a.Aq
 Dq:mg "free"=some (.ref a.Ao)
 Dr:di K a.Aq ["rows","columns","pair"] [.tup [.int 0,.int 40]]
 Dt:FunD K "check_sums" "check_sums" kM a.Ar a.As
 Du:mg "check_sums"=some (.ref a.Ar)
 Dv:aA K a.As ["rowsums","columnsums"] []
 Dw:FunD K "check_pair" "check_pair" kN a.At a.Au
 Dx:mg "check_pair"=some (.ref a.At)
 Dy:aA K a.Au ["pair"] []
 Dz:FunD K "settled_bounds" "settled_bounds" ii a.Av a.Aw
 D0:mg "settled_bounds"=some (.ref a.Av)
 D3:aA K a.Aw ["bounds","rows","columns"] []
 D4:FunD K "factorial" "factorial" mt a.Ax a.Ay
 D5:mg "factorial"=some (.ref a.Ax)
 D6:aA K a.Ay ["number"] []
 D7:FunD K "ways" "ways" x5 a.Az a.A0
 D8:mg "ways"=some (.ref a.Az)
 D9:aA K a.A0 ["parts"] []
 Ea:FunD K "fillings" "fillings" nQ a.A1 a.A2
 Eb:mg "fillings"=some (.ref a.A1)
 Ec:aA K a.A2 ["rests","many","pairs"] []
 Ed:FunD K "need_of" "need_of" ql a.A3 a.A4
 Ee:mg "need_of"=some (.ref a.A3)
 Ef:aA K a.A4 ["rowsums","over"] []
 Eg:FunD K "room_inside" "room_inside" kj a.A5 a.A6
 Eh:mg "room_inside"=some (.ref a.A5)
 Ei:aA K a.A6 ["columnsums","bounds","over","column"] []
 Ej:FunD K "room_beside" "room_beside" kn a.A7 a.A8
 Ek:mg "room_beside"=some (.ref a.A7)
 El:aA K a.A8 ["bounds","over","column"] []
 Em:FunD K "room_of" "room_of" qj a.A9 a.Ba
 En:mg "room_of"=some (.ref a.A9)
 Eo:aA K a.Ba ["columnsums","bounds","over","into"] []
 Ep:FunD K "narrowest" "narrowest" mq a.Bb a.Bc
 Er:mg "narrowest"=some (.ref a.Bb)
 Es:aA K a.Bc ["columnsums","bounds","over"] []
 Et:FunD K "choices" "choices" qo a.Bd a.Be
 Eu:mg "choices"=some (.ref a.Bd)
 Ev:aA K a.Be ["many"] []
 Ew:FunD K "check_fit" "check_fit" mv a.Bf a.Bh
 Ex:mg "check_fit"=some (.ref a.Bf)
 Ey:aA K a.Bh ["rowsums","columnsums","bounds"] []
 Ez:FunD K "check_wide" "check_wide" kK a.Bi a.Bj
 E2:mg "check_wide"=some (.ref a.Bi)
 E3:aA K a.Bj ["rowsums"] []
 E4:FunD K "settled_for_net" "settled_for_net" gU a.Bk a.Bl
 E5:mg "settled_for_net"=some (.ref a.Bk)
 E6:aA K a.Bl ["rowsums","columnsums","bounds"] []
 E7:FunD K "column_fillings" "column_fillings" gW a.Bm a.Bn
 E8:mg "column_fillings"=some (.ref a.Bm)
 E9:aA K a.Bn ["rests","columnsums","bounds","column"] []
 Fa:FunD K "rests_behind" "rests_behind" jk a.Bo a.Bp
 Fb:mg "rests_behind"=some (.ref a.Bo)
 Fc:aA K a.Bp ["rests","counts"] []
 Fd:FunD K "nodes_by_level" "nodes_by_level" ij a.Bq a.Br
 Fe:mg "nodes_by_level"=some (.ref a.Bq)
 Ff:aA K a.Br ["rowsums","columnsums","bounds"] []
 Fg:FunD K "node_counts" "node_counts" kq a.Bs a.Bt
 Fh:mg "node_counts"=some (.ref a.Bs)
 Fi:aA K a.Bt ["rests","filled","behind"] []
 Fj:FunD K "counted_nodes" "counted_nodes" iI a.Bu a.Bv
 Fk:mg "counted_nodes"=some (.ref a.Bu)
 Fl:aA K a.Bv ["rowsums","columnsums","bounds"] []
 Fm:FunD K "_law_bag" "_law_bag" uS a.Bw a.Bx
 Fn:mg "_law_bag"=some (.ref a.Bw)
 Fo:aA K a.Bx ["_law_script"] []
 Fp:FunD K "_law_pull" "_law_pull" sK a.By a.Bz
 Fq:mg "_law_pull"=some (.ref a.By)
 Fs:aA K a.Bz ["_law_bag_here","_law_lot"] []
 Ft:FunD K "_law_same" "_law_same" sJ a.B0 a.B3
 Fu:mg "_law_same"=some (.ref a.B0)
 Fw:aA K a.B3 ["_law_found","_law_due"] []
 Fy:FunD K "_law_grid" "_law_grid" sL a.B4 a.B5
 Fz:mg "_law_grid"=some (.ref a.B4)
 F4:aA K a.B5 ["_law_bag_here","_law_block","_law_columns","_law_things"] []
 F5:FunD K "_law_wide" "_law_wide" sH a.B7 a.B8
 F6:mg "_law_wide"=some (.ref a.B7)
 F7:aA K a.B8 ["_law_bag_here"] []
 F8:FunD K "_law_large" "_law_large" qm a.Ca a.Cb
 F9:mg "_law_large"=some (.ref a.Ca)
 Ga:aA K a.Cb ["_law_bag_here"] []
 Gb:FunD K "_law_turned" "_law_turned" nP a.Cc a.Cd
 Gc:mg "_law_turned"=some (.ref a.Cc)
 Gd:aA K a.Cd ["_law_block"] []
 Ge:FunD K "_law_rowsums" "_law_rowsums" mr a.Cf a.Cg
 Gf:mg "_law_rowsums"=some (.ref a.Cf)
 Gg:aA K a.Cg ["_law_grid_here"] []
 Gi:FunD K "_law_columnsums" "_law_columnsums" jl a.Ch a.Ci
 Gj:mg "_law_columnsums"=some (.ref a.Ch)
 Gk:aA K a.Ci ["_law_grid_here"] []
 Gm:FunD K "_law_factorial" "_law_factorial" kr a.Cj a.Ck
 Gn:mg "_law_factorial"=some (.ref a.Cj)
 Go:aA K a.Ck ["_law_lot"] []
 Gp:FunD K "_law_ways" "_law_ways" sI a.Cl a.Cm
 Gq:mg "_law_ways"=some (.ref a.Cl)
 Gr:aA K a.Cm ["_law_parts"] []
 Gs:FunD K "__init__" "Net.__init__" jp a.Cn a.Co
 Gu:Mk K a.An a.Cn
 Gv:di K a.Co ["self","rowsums","columnsums","bounds"] [.non]
 Gx:KwOk K a.Co ["self","rowsums","columnsums","bounds"] ["bounds"] 3 [.kw 0]
 Gy:FunD K "dealings" "Net.dealings" jo a.Cp a.Cq
 Gz:Meth K a.An "dealings" a.Cp
 G0:aA K a.Cq ["self"] []
 G1:FunD K "counts_at" "Net.counts_at" iJ a.Cr a.Cs
 G2:Meth K a.An "counts_at" a.Cr
 G3:aA K a.Cs ["self","level","rests"] []
 G4:FunD K "tables" "Net.tables" kO a.Ct a.Cu
 G5:Meth K a.An "tables" a.Ct
 G6:aA K a.Cu ["self"] []
 G7:Cls K a.An
 G8:mg "Net"=some (.ref a.An)
 G9:dA K a.An "column_list"
 Ha:dA K a.An "counted"
 Hb:dA K a.An "pairs"
 Hc:dA K a.An "row_list"
 Hd:FunD K "__init__" "EdgeError.__init__" kD a.Ab a.Ac
 He:aA K a.Ac ["self","word","why"] []
 Hf:mg "EdgeError"=some (.ref a.Aa)
 Hg:FunD K "__init__" "BadSums.__init__" nF a.Af a.Ag
 Hh:aA K a.Ag ["self","why"] []
 Hi:mg "BadSums"=some (.ref a.Ae)
 Hj:XMk K a.Ae a.Af
 Hk:Om K (.ref a.Ae) "word"=some none
 Hl:FunD K "__init__" "BadBounds.__init__" kF a.Ai a.Aj
 Hm:aA K a.Aj ["self","why"] []
 Hn:mg "BadBounds"=some (.ref a.Ah)
 Ho:XMk K a.Ah a.Ai
 Hq:Om K (.ref a.Ah) "word"=some none
 Hr:FunD K "__init__" "BadNumber.__init__" kE a.Al a.Am
 Ht:aA K a.Am ["self","why"] []
 Hu:mg "BadNumber"=some (.ref a.Ak)
 Hv:XMk K a.Ak a.Al
 Hw:Om K (.ref a.Ak) "word"=some none
 Hx:ClsFn K a.Aa "__init__" a.Ab
section
variable(P:Program)(w:MY){K:Frag}{mg:Str->Option Mh}(base:Heap){a:Ad}
noncomputable def Id(K:Frag):Sp:=λvs H Q _=>∃(x C:Addr) (wd y:V),vs=[.ref x,wd,y]/\H x=some (dg C x none)/\XC K C/\Om K (.ref C) "word"=some none/\∀(d:Addr) (c:Hp),c x=some (dg C x (some d))->(∀b o,H b=some o->b≠x->c b=some o)->Q .non c
theorem qU:FnScope ["self","word","why"] ["self","word","why"] (af kD):=fsc
theorem pz(N:Fns K mg a):FnOk P w K mg base (CXE P w) 1 a.Ab a.Ac ["self","word","why"] (Id K):=by
 refine N.Hd.ok qU (λvs H Q E h=>?_) (λj A outer s H vs Q E n h=>?_)
 ·obtain⟨x,C,wd,y,rfl,_⟩:=h
  rfl
 ·obtain⟨x,C,wd,y,rfl,l,c,m,k⟩:=h
  refine⟨_,bO (cS (AH rfl N.Cy (bh (pv 0) (bh (pv 2) dW)))) (fD (AC (pv 0) (pv 1) rfl)),?_⟩
  refine⟨_,rfl,_,rfl,x,C,none,_,rfl,(by show 1<=sizeLine;decide),l,c,?_⟩
  refine⟨_,rfl,_,rfl,x,C,rfl,ai,c,m,λd hd f=>?_⟩
  refine k d _ ai λb o e i=>?_
  have g:H d=none:=by rw[upd_ne f]at hd;exact hd
  rw[upd_ne i,upd_ne (ne_of_none e g),upd_ne i]
  exact e
theorem uw:FnScope ["self","why"] ["self","why"] (af nF):=fsc
theorem uy(N:Fns K mg a):FnOk P w K mg base (CXE P w) 2 a.Af a.Ag ["self","why"] (rA a.Ae 1):=by
 have c:=pz P w base N
 refine N.Hg.ok uw (λvs H Q E h=>?_) (λe A outer s H vs Q E f h=>?_)
 ·obtain⟨x,rest,rfl,b,_⟩:=h
  show rest.length+1=2
  rw[b]
 ·obtain⟨x,rest,rfl,b,g,k⟩:=h
  obtain⟨y,rfl⟩:∃y,rest=[y]:=PZ.mp b
  refine⟨_,fD (cS (jQ N.Hx c f rfl N.Hf N.He .nil dL (bh (pv 0) (bh n5 (bh (pv 1) dW))))),?_⟩
  exact⟨_,rfl,_,rfl,x,a.Ae,_,y,rfl,g,N.Hj.xc,N.Hk,λd i j l=>k _ i j l⟩
theorem qW:FnScope ["self","why"] ["self","why"] (af kF):=fsc
theorem kt(N:Fns K mg a):FnOk P w K mg base (CXE P w) 2 a.Ai a.Aj ["self","why"] (rA a.Ah 1):=by
 have c:=pz P w base N
 refine N.Hl.ok qW (λvs H Q E h=>?_) (λe A outer s H vs Q E f h=>?_)
 ·obtain⟨x,rest,rfl,b,_⟩:=h
  show rest.length+1=2
  rw[b]
 ·obtain⟨x,rest,rfl,b,g,k⟩:=h
  obtain⟨y,rfl⟩:∃y,rest=[y]:=PZ.mp b
  refine⟨_,fD (cS (jQ N.Hx c f rfl N.Hf N.He .nil dL (bh (pv 0) (bh n5 (bh (pv 1) dW))))),?_⟩
  exact⟨_,rfl,_,rfl,x,a.Ah,_,y,rfl,g,N.Ho.xc,N.Hq,λd i j l=>k _ i j l⟩
theorem qV:FnScope ["self","why"] ["self","why"] (af kE):=fsc
theorem qZ(N:Fns K mg a):FnOk P w K mg base (CXE P w) 2 a.Al a.Am ["self","why"] (rA a.Ak 1):=by
 have c:=pz P w base N
 refine N.Hr.ok qV (λvs H Q E h=>?_) (λe A outer s H vs Q E f h=>?_)
 ·obtain⟨x,rest,rfl,b,_⟩:=h
  show rest.length+1=2
  rw[b]
 ·obtain⟨x,rest,rfl,b,g,k⟩:=h
  obtain⟨y,rfl⟩:∃y,rest=[y]:=PZ.mp b
  refine⟨_,fD (cS (jQ N.Hx c f rfl N.Hf N.He .nil dL (bh (pv 0) (bh n5 (bh (pv 1) dW))))),?_⟩
  exact⟨_,rfl,_,rfl,x,a.Ak,_,y,rfl,g,N.Hv.xc,N.Hw,λd i j l=>k _ i j l⟩
theorem iG:FnScope ["_law_bag_here","_law_lot","_law_cells","_law_at","_law_cell"] ["_law_bag_here","_law_lot"] (af sK):=fsc
theorem yy(N:Fns K mg a):FnOk P w K mg base (CXE P w) 2 a.By a.Bz ["_law_bag_here","_law_lot"] (spF K 2 bN):=by
 refine N.Fp.ok (k:=1) iG (λvs H Q E h=>h.1) (λS A outer s H vs Q E hr h=>?_)
 obtain⟨_,F,ds,β,fr,hd,r,T,e,k⟩:=h
 obtain⟨lot,rfl,ok,C,U,rfl,rfl⟩:=yL e
 obtain⟨v,w',rfl,d1,d2⟩:=DenL.two hd
 unfold Den at d1
 obtain⟨b,l,d,rfl⟩:=d1
 cases d2.int
 obtain⟨t,D⟩:=fr.bag b l d
 obtain⟨ab,al,m⟩:=fr.bgA b l d
 obtain⟨O,G,W,R⟩:=ok.at
 obtain⟨_,_,X,_⟩:=uW ok C
 have len:((β.cells.map V.int).length:Int)=(β.cells.length:Int):=by rw[Mj]
 have I:atI (β.cells.map V.int) (β.pos:Int)=some (.int β.cell):=HG (by rw[Mt,G];rfl)
 refine⟨_,bO (nX (i:=2) iG.nd rfl (Os rfl) (iN fE (pv 0) bz (λ_ _=>rfl)))
  (bO (nX (i:=3) iG.nd rfl (Os rfl) (cZ kT (iN fE (pv 0) bz (λ_ _=>rfl)) (jR lw (by rfl) N.C6 PySem.boot_len (bh (pv 2) dW))))
  (bO (nX (i:=4) iG.nd rfl (Os rfl) (iN fE (pv 2) (pv 3) (λ_ _=>rfl)))
  (bO (DI (uX LD (pv 4) (cZ IM bz bz) (s0 _))
   (bO (jr (cZ u9 (pv 4) (pv 1)) (nZ (pv 2) (pv 3) jO)) (fD (aB (cZ kT (pv 4) (pv 1))))) ph)
  (bO (jr (cZ n6 (iN fE (pv 0) bz (λ_ _=>rfl)) bz) (nZ (pv 0) bz jO))
  (bO (jr (cZ kT (cZ IO (cZ n6 (cZ n6 (iN fE (pv 0) bz (λ_ _=>rfl)) (cZ kT (pv 4) bz)) bz) bz) bz) (nZ (pv 0) bz jO))
  (fD (aB (cZ kT (cZ u9 (iN fE (pv 0) bz (λ_ _=>rfl)) bz) (pv 1))))))))),?_⟩
 refine⟨_,rfl,b,_,_,_,rfl,rfl,SqL.of t,rfl,?_⟩
 refine⟨_,rfl,b,_,_,_,rfl,rfl,SqL.of t,rfl,_,rfl,l,_,rfl,.inl (SqL.of D),_,_,rfl,rfl,?_,?_⟩
 ·have:=O
  rw[len]
  omega
 refine⟨_,rfl,_,rfl,l,_,_,_,rfl,rfl,SqL.of D,by rw[len,R];exact I,?_⟩
 refine⟨_,rfl,_,_,rfl,rfl,⟨by decide,by decide,by decide⟩,_,_,rfl,rfl,_,rfl,?_⟩
 have occ:∀{J:Hp} {p:Addr} {o:HO},(∀c,F.A c->J c≠none)->∀c,F.A c->upd J p o c≠none:=λ{J p o} f c u z=>by
  by_cases q:c=p
  ·subst q;rw[ai]at z;cases z
  ·rw[upd_ne q]at z;exact f c u z
 refine ite2 (λg=>?_) (λg=>?_)
 ·have big:(10:Int)^18<=β.cell:=QS g
  refine⟨_,rfl,_,rfl,_,_,rfl,rfl,⟨C,U⟩,_,rfl,_,rfl,l,_,_,β.pos,rfl,rfl,D,?_,?_⟩
  ·rw[len,R,Mj]
   exact GS O
  refine⟨_,rfl,_,rfl,_,_,rfl,rfl,C,?_⟩
  have L:iM β lot=β.cell % lot:=Mu big
  have M:jP β lot=⟨β.cells.set β.pos (β.cell/lot),β.i,β.j⟩:=Mu big
  rw[L,M]at k
  refine k _ _ ⟨λc o u n=>by rw[upd_ne (n b l d).2];exact u,occ fr.occ,fr.bgA,λY Z x=>?_⟩ rfl
  rw[d]at x
  cases x
  exact⟨by rw[upd_ne m];exact t,by rw[ai,Sk]⟩
 ·have big:¬(10:Int)^18<=β.cell:=λq=>g (MX q)
  refine⟨_,rfl,b,_,_,_,rfl,rfl,SqL.of t,rfl,_,_,rfl,rfl,_,rfl,b,_,_,1,rfl,rfl,t,rfl,?_⟩
  have y:(upd H b (.lst [.ref l,.int (β.i+1),.int β.j])) b=some (.lst [.ref l,.int (β.i+1),.int β.j]):=ai
  refine⟨_,rfl,b,_,_,_,rfl,rfl,SqL.of y,rfl,_,rfl,_,_,rfl,rfl,(by show(0:Int)<2147483629;decide),_,_,rfl,rfl,_,_,rfl,rfl,_,_,rfl,rfl,.inr ⟨by decide,by decide⟩,_,_,rfl,rfl,(by show(0:Int)<2147483629;decide),_,rfl,b,_,_,2,rfl,rfl,y,rfl,?_⟩
  have B:(upd (upd H b (.lst [.ref l,.int (β.i+1),.int β.j])) b (.lst [.ref l,.int (β.i+1),.int β.nxt])) b=some (.lst [.ref l,.int (β.i+1),.int β.nxt]):=ai
  refine⟨_,rfl,b,_,_,_,rfl,rfl,SqL.of B,rfl,_,_,rfl,rfl,⟨by decide,by decide⟩,_,rfl,_,_,rfl,rfl,C,?_⟩
  have L:iM β lot=β.nxt/64 % lot:=Mr big
  have M:jP β lot=⟨β.cells,β.i+1,β.nxt⟩:=Mr big
  rw[L,M]at k
  refine k _ _ ⟨λc o u n=>by rw[upd_ne (n b l d).1,upd_ne (n b l d).1];exact u,occ (occ fr.occ),fr.bgA,λY Z x=>?_⟩ rfl
  rw[d]at x
  cases x
  exact⟨B,by rw[upd_ne m.symm,upd_ne m.symm];exact D⟩
theorem z6:FnScope ["_law_script"] ["_law_script"] (af uS):=fsc
theorem nd1:(["_law_cell"]:List Str).Nodup:=by decide +kernel
theorem AO(N:Fns K mg a):FnOk P w K mg base (CXE P w) 1 a.Bw a.Bx ["_law_script"] (Lr K):=by
 refine N.Fm.ok z6 (λvs H Q E h=>?_) (λU A outer s H vs Q E hr h=>?_)
 ·obtain⟨a,ns,rfl,_⟩:=h
  rfl
 ·obtain⟨a,ns,rfl,W,k⟩:=h
  refine⟨_,fD (aB (ik (bh (cZ IR (u7 rfl (vars:=["_law_cell"]) (CmpScope.plain rfl (by decide +kernel) (by decide +kernel)) (FO (sS uP (pv 0) u4 (u3 bz)))
   (λcl C fp s H=>⟨u6 (i:=0) nd1 rfl (Os rfl),sR,λD=>aS rfl (jR CC (by rfl) N.Cz PyProof.Rows.Boot.«abs» (bh (pv 0) dW)) rfl⟩)) (ik (bh bz dW))) (bh bz (bh bz dW))))),?_⟩
  obtain⟨r,I,X⟩:=Mc ns
  refine⟨_,rfl,63,rfl,a,_,rfl,W,λp Y=>?_⟩
  rw[I]
  have L:bv H (upd H p (.lst (r.map V.int))):=bv.upd Y
  refine⟨p,rfl,⟨_,SqL.of ai⟩,λD F=>?_⟩
  have t:D≠p:=λz=>by subst z;rw[ai]at F;cases F
  refine xo (xs:=r.map V.int) (λi G j=>∃cs:List Int,(∃v,G=[v])/\cs.length=i/\(∀c∈cs,0<=c)/\j D=some (.lst (cs.map V.int))/\j p=some (.lst (r.map V.int))/\bv H j) ⟨[],⟨_,rfl⟩,rfl,(λ_ h=>nomatch h),ai,by rw[upd_ne t.symm,ai],L.trans (bv.upd F)⟩
   (λi G j _ ⟨_,_,_,_,_,e,_⟩=>SqL.of e) ?_ ?_
  ·rintro i x G j q ⟨cs,⟨v,rfl⟩,m,n,f,u,y⟩
   have Z:i<r.length:=by have:=(MF.mp q).1;rwa[Mj]at this
   obtain⟨z,rfl⟩:∃z,x=V.int z:=by
    rw[Mt]at q
    cases e:r[i]? with
    |none=>rw[e]at q;cases q
    |some z=>rw[e]at q;exact⟨z,(MQ q).symm⟩
   unfold ef HS
   refine iteT ?_
   refine⟨_,rfl,_,rfl,cs.map V.int,f,by rw[Mj];exact qh (by omega),cs++[if z<0 then -z else z],⟨_,rfl⟩,by rw[MJ,m];rfl,λc d=>?_,by rw[ai,M7];rfl,by rw[upd_ne t.symm];exact u,λb o e=>?_⟩
   ·rcases NL.mp d with d|d
    ·exact n c d
    ·obtain rfl:c=_:=by simpa using d
     split<;>omega
   ·rw[upd_ne (ne_of_none e (L.free F))]
    exact y b o e
  ·rintro G j ⟨cs,⟨v,rfl⟩,m,n,f,u,y⟩
   rw[Mj]at m
   refine⟨by decide,λM l=>⟨D,M,_,_,rfl,rfl,by rw[upd_ne (ne_of_none f l)];exact f,ai,by rw[Mj];exact Ry (qh (by simp;omega)),λO B=>⟨(by show 3<=sizeLine;decide),λR g=>?_⟩⟩⟩
   have S:bv j (upd j M (.lst [V.int 1])):=bv.upd l
   have T:=S.trans (bv.upd (o:= .lst (cs.map V.int++[V.int 1])) B)
   have J:O≠R:=λz=>by subst z;rw[ai]at g;cases g
   refine k R O _ ((y.trans T).free g) ((y.trans S).free B) ⟨cs++[1],0,0,ai,by rw[upd_ne J,ai,M7];rfl,by simp,by rw[MJ];simp;omega,λc d=>?_,by decide⟩ ((y.trans T).trans (bv.upd g))
   rcases NL.mp d with d|d
   ·exact n c d
   ·obtain rfl:c=1:=by simpa using d
    decide
theorem ln(N:Fns K mg a):FB P w K mg base 2 "_law_pull" a.By a.Bz ["_law_bag_here","_law_lot"] 2 bN:=⟨yy P w base N,N.Fq,N.Fp.kp,N.Fs⟩
theorem FC:FnScope ["rows","columns","pair"] ["rows","columns","pair"] (af x9):=fsc
noncomputable def zd(K:Frag)(a:Ad):G:=
  aF (aI 1 [2,1] (aT cI (aa (ac 0) (ad))) (tgC 0) (λ_=>M.ret true) (cEm (aI 1 [1] (aT cI (aa (ac 2) (ad))) (tgC 0) (λ_=>M.ret true) (cEm (ac 1)))))
noncomputable def ox(K:Frag)(a:Ad):List D->M D:=aD 3 (zd K a)
theorem GD(N:Fns K mg a):FnOk P w K mg base (CXE P w) 2 a.Ao a.Aq ["rows","columns","pair"] (spF K 3 (ox K a)):=by
 unfold ox
 exact br (k:=1) 3 3 (zd K a) N.Dp FC rfl rfl λb A outer s H E d=>ao (aL (aB (bu rfl (cso ["row","pair","columns"] ["row"] [2,1]) (cJ (by rfl) N.Da (va1 (vv 0))) (λcl C c s H=>⟨(pgN 0 ndc),aU,λD=>aS rfl (bu rfl (cso ["column","pair"] ["column"] [1]) (cJ (by rfl) N.Da (va1 (vv 2))) (λcl C c s H=>⟨(pgN 0 ndc),aU,λD=>aS rfl (vv 1) rfl⟩) au ay (λD=>aZ)) rfl⟩) au ay (λD=>aZ))))
theorem qX:FnScope ["rowsums","columnsums"] ["rowsums","columnsums"] (af kM):=fsc
noncomputable def iz(K:Frag)(a:Ad):G:=
  ag (gIf (eA (fB (dz leD leD (fC (.int 1)) (ae bp (aa (ac 0) (ad))) (fC (.int 4))))) (bU a.Ae (aa (dP (bW (fC (.int 4)) (bW (ae bp (aa (ac 0) (ad))) (dN)))) (ad))) (gNil))
  (ag (gIf (eA (fB (dz leD leD (fC (.int 1)) (ae bp (aa (ac 1) (ad))) (fC (.int 6))))) (bU a.Ae (aa (dP (bW (fC (.int 6)) (bW (ae bp (aa (ac 1) (ad))) (dN)))) (ad))) (gNil))
  (ag (gIf (eK (eJ (ae nw (aa (aI 1 [] (aQ (ac 0)) (tgC 0) (λ_=>M.ret true) (cEm (f2 (ltD) (ac 0) (fC (.int 0))))) (ad)))) (eJ (ae nw (aa (aI 1 [] (aQ (ac 1)) (tgC 0) (λ_=>M.ret true) (cEm (f2 (ltD) (ac 0) (fC (.int 0))))) (ad))))) (bU a.Ae (aa (fC (.str (M1 "a sum is below nought"))) (ad))) (gNil))
  (ag (gIf (fB (f2 (c7) (ae bA (aa (ac 0) (ad))) (ae bA (aa (ac 1) (ad))))) (bU a.Ae (aa (dP (bW (ae bA (aa (ac 0) (ad))) (bW (ae bA (aa (ac 1) (ad))) (dN)))) (ad))) (gNil))
  (gIf (fB (f2 (gtD) (ae bA (aa (ac 0) (ad))) (fC (.int 40)))) (bU a.Ae (aa (dP (bW (fC (.int 40)) (dN))) (ad))) (gNil)))))
noncomputable def fP(K:Frag)(a:Ad):List D->M D:=aD 2 (iz K a)
theorem q9(N:Fns K mg a):FB P w K mg base 4 "check_sums" a.Ar a.As ["rowsums","columnsums"] 2 (fP K a):=⟨by
 have b:=uy P w base N
 unfold fP
 exact br (k:=3) 2 2 (iz K a) N.Dt qX rfl rfl λe A outer s H E d=>aj (cQ (rp (uK jW jW mW mW (ar) (dR N.C6 (va1 (vv 0))) (gl N.Dm))) (ao (fA N.Hj.xc (aK aN0) (by decide) (dU d.hd (gs N.Hj b (d.mono (by decide)) rfl N.Hi N.Hh .nil dL (va1 (ie (c:=((M1 "there are 1 to ").length+(1921+((M1 " row sums, not ").length+(1921+0))))) (db (e9 (gl N.Dm) (db (e9 (dR N.C6 (va1 (vv 0))) (j5))))) (by decide +kernel))))))) (bM))
   (aj (cQ (rp (uK jW jW mW mW (ar) (dR N.C6 (va1 (vv 1))) (gl N.Dl))) (ao (fA N.Hj.xc (aK aN0) (by decide) (dU d.hd (gs N.Hj b (d.mono (by decide)) rfl N.Hi N.Hh .nil dL (va1 (ie (c:=((M1 "there are 1 to ").length+(1921+((M1 " column sums, not ").length+(1921+0))))) (db (e9 (gl N.Dl) (db (e9 (dR N.C6 (va1 (vv 1))) (j5))))) (by decide +kernel))))))) (bM))
   (aj (cQ (nC (vZ (nB (cm (lx rfl) wU (by rfl) N.C0 PyProof.Rows.Boot.«any» (va1 (bu rfl (cso ["many"] ["many"] []) (bq (vv 0)) (λcl C f s H=>⟨(pgN 0 ndc),aU,λD=>aS rfl (lH rE wS (vv 0) (ar)) rfl⟩) au ay (λD=>aZ))))) (rh (nB (cm (lx rfl) wU (by rfl) N.C0 PyProof.Rows.Boot.«any» (va1 (bu rfl (cso ["many"] ["many"] []) (bq (vv 1)) (λcl C f s H=>⟨(pgN 0 ndc),aU,λD=>aS rfl (lH rE wS (vv 0) (ar)) rfl⟩) au ay (λD=>aZ)))))))) (ao (fA N.Hj.xc (aK aN0) (by decide) (dU d.hd (gs N.Hj b (d.mono (by decide)) rfl N.Hi N.Hh .nil dL (va1 (Lh)))))) (bM))
   (aj (cQ (bL (gu d) iU (fJ N.Dg (va1 (vv 0))) (fJ N.Dg (va1 (vv 1)))) (ao (fA N.Hj.xc (aK aN0) (by decide) (dU d.hd (gs N.Hj b (d.mono (by decide)) rfl N.Hi N.Hh .nil dL (va1 (ie (c:=((M1 "the rows have ").length+(1921+((M1 " things, the columns ").length+(1921+0))))) (db (e9 (fJ N.Dg (va1 (vv 0))) (db (e9 (fJ N.Dg (va1 (vv 1))) (j5))))) (by decide +kernel))))))) (bM))
   (ao (cQ (bL wA BI (fJ N.Dg (va1 (vv 0))) (gl N.Dj)) (ao (fA N.Hj.xc (aK aN0) (by decide) (dU d.hd (gs N.Hj b (d.mono (by decide)) rfl N.Hi N.Hh .nil dL (va1 (ie (c:=((M1 "a table has at most ").length+(1921+((M1 " things").length+0)))) (db (e9 (gl N.Dj) (db (j5)))) (by decide +kernel))))))) (bM)))))),N.Du,N.Dt.kp,N.Dv⟩
theorem gF:FnScope ["pair","low","high"] ["pair"] (af kN):=fsc
noncomputable def li(K:Frag)(a:Ad):G:=
  ag (gN (ac 0) (sgT (gE (sgN 1) (gE (sgN 2) i7))))
  (gIf (eA (fB (pO leD leD leD (fC (.int 0)) (ac 1) (ac 2) (fC (.int 40))))) (bU a.Ah (aa (dP (bW (ac 1) (bW (ac 2) (dN)))) (ad))) (gNil))
noncomputable def iw(K:Frag)(a:Ad):List D->M D:=aD 3 (li K a)
theorem rb(N:Fns K mg a):FB P w K mg base 4 "check_pair" a.At a.Au ["pair"] 1 (iw K a):=⟨by
 have b:=kt P w base N
 unfold iw
 exact br (k:=3) 1 3 (li K a) N.Dw gF rfl rfl λe A outer s H E d=>aj (DC (yN (jZ bi (jZ bi vd)) (jN (jN sE))) (jr (vv 0) (dm rfl (aN (pgN 1 gF.nd) (aN (pgN 2 gF.nd) cq)))))
   (ao (cQ (rp (zU jW jW jW mW mW mW (ar) (vv 1) (vv 2) (gl N.Dj))) (ao (fA N.Ho.xc (aK aN0) (by decide) (dU d.hd (gs N.Ho b (d.mono (by decide)) rfl N.Hn N.Hm .nil dL (va1 (ie (c:=((M1 "a cell has no bounds from ").length+(1921+((M1 " to ").length+(1921+0))))) (db (e9 (vv 1) (db (e9 (vv 2) (j5))))) (by decide +kernel))))))) (bM))),N.Dx,N.Dw.kp,N.Dy⟩
theorem eE:FnScope ["bounds","rows","columns","pairs","pair"] ["bounds","rows","columns"] (af ii):=fsc
noncomputable def fj(K:Frag)(a:Ad):G:=
  ag (gIf (fB (f2 (f9) (ac 0) (fC .non))) (aF (oN (ox K a) (aa (ac 1) (aa (ac 2) (ad))) [.tup [.int 0,.int 40]])) (gNil))
  (ag (gIf (eK (fB (f2 (c7) (ae bp (aa (ac 0) (ad))) (ac 1))) (eJ (ae nw (aa (aI 1 [2] (aQ (ac 0)) (tgC 0) (λ_=>M.ret true) (cEm (f2 (c7) (ae bp (aa (ac 0) (ad))) (ac 1)))) (ad))))) (bU a.Ah (aa (dP (bW (ac 1) (bW (ac 2) (dN)))) (ad))) (gNil))
  (ag (cW (aQ (ac 0)) (sgN 3) (cW (aQ (ac 3)) (sgN 4) (dO (aq (iw K a) (aa (ac 4) (ad))))))
  (aF (aI 1 [] (aQ (ac 0)) (tgC 0) (λ_=>M.ret true) (cEm (ae iT (aa (ac 0) (ad))))))))
noncomputable def c8(K:Frag)(a:Ad):List D->M D:=aD 5 (fj K a)
theorem mn(N:Fns K mg a):FB P w K mg base 5 "settled_bounds" a.Av a.Aw ["bounds","rows","columns"] 3 (c8 K a):=⟨by
 have e:=GD P w base N
 have b:=rb P w base N
 have d:=kt P w base N
 unfold c8
 exact br (k:=4) 3 5 (fj K a) N.Dz eE rfl rfl λi A outer s H E f=>aj (cQ (bL sU wT (vv 0) (rn)) (ao (aL (aB (EO e (f.mono (by decide)) (by rfl) N.Dq N.Dp.kp N.Dr gf (va2 (vv 1) (vv 2)) (λδ β r g h=>by rw[(aK (aK aN0)) δ β r g h];rfl))))) (bM))
   (aj (cQ (nC (vZ (bL (gu f) iU (dR N.C6 (va1 (vv 0))) (vv 1)) (rh (nB (cm (lx rfl) wU (by rfl) N.C0 PyProof.Rows.Boot.«any» (va1 (bu rfl (cso ["pairs","columns"] ["pairs"] [2]) (bq (vv 0)) (λcl C j s H=>⟨(pgN 0 ndc),aU,λD=>aS rfl (lH (gu f) iU (dR N.C6 (va1 (vv 0))) (vv 1)) rfl⟩) au ay (λD=>aZ)))))))) (ao (fA N.Ho.xc (aK aN0) (by decide) (dU f.hd (gs N.Ho d (f.mono (by decide)) rfl N.Hn N.Hm .nil dL (va1 (ie (c:=((M1 "these are no bounds of ").length+(1921+((M1 " rows and ").length+(1921+((M1 " columns").length+0)))))) (db (e9 (vv 1) (db (e9 (vv 2) (db (j5)))))) (by decide +kernel))))))) (bM))
   (aj (cK bi (bS eF rfl (bq (vv 0)) (pgN 3 eE.nd) (ao (cK bi (bS eF rfl (bq (vv 3)) (pgN 4 eE.nd) (ao (nR (cS (vc b f (va1 (vv 4)))))))))))
   (ao (aL (aB (bu rfl (cso ["pairs"] ["pairs"] []) (bq (vv 0)) (λcl C j s H=>⟨(pgN 0 ndc),aU,λD=>aS rfl (cD cY jy (by rfl) N.C7 PyProof.Rows.Boot.«list» (va1 (vv 0))) rfl⟩) au ay (λD=>aZ))))))),N.D0,N.Dz.kp,N.D3⟩
theorem fK:FnScope ["number","product","factor"] ["number"] (af mt):=fsc
noncomputable def je(K:Frag)(a:Ad):G:=
  ag (aG 1 (fC (.int 1)))
  (ag (cW (aT i8 (aa (fC (.int 2)) (aa (f2 ck (ac 0) (fC (.int 1))) (ad)))) (sgN 2) (fq 1 kZ (ac 2)))
  (aF (ac 1)))
noncomputable def eQ(K:Frag)(a:Ad):List D->M D:=aD 3 (je K a)
theorem sX(N:Fns K mg a):FB P w K mg base 2 "factorial" a.Ax a.Ay ["number"] 1 (eQ K a):=⟨by
 unfold eQ
 exact br (k:=1) 1 3 (je K a) N.D4 fK rfl rfl λb A outer s H E c=>aj (aM (psS 1 fK.nd (ar)))
   (aj (cK bi (bS eF rfl (mZ (by rfl) N.Da (va2 (ar) (bw bo da (vv 0) (ar)))) (pgN 2 fK.nd) (ao (nS vg (kQ (i:=1) fK.nd rfl (by first|exact Os rfl|exact PH rfl) (vv 2) vn)))))
   (ao (aL (aB (vv 1))))),N.D5,N.D4.kp,N.D6⟩
theorem ji:FnScope ["parts","part","told"] ["parts"] (af x5):=fsc
noncomputable def tY(K:Frag)(a:Ad):G:=
  ag (cW (aQ (ac 0)) (sgN 1) (gIf (fB (f2 (ltD) (ac 1) (fC (.int 0)))) (bU a.Ak (aa (dP (bW (ac 1) (dN))) (ad))) (gNil)))
  (ag (aG 2 (aq (eQ K a) (aa (ae lI (aa (ac 0) (ad))) (ad))))
  (ag (cW (aQ (ac 0)) (sgN 1) (fq 2 oM (aq (eQ K a) (aa (ac 1) (ad)))))
  (aF (ac 2))))
noncomputable def ow(K:Frag)(a:Ad):List D->M D:=aD 3 (tY K a)
theorem GC(N:Fns K mg a):FB P w K mg base 4 "ways" a.Az a.A0 ["parts"] 1 (ow K a):=⟨by
 have b:=sX P w base N
 have d:=qZ P w base N
 unfold ow
 exact br (k:=3) 1 3 (tY K a) N.D7 ji rfl rfl λf A outer s H E e=>aj (cK bi (bS eF rfl (bq (vv 0)) (pgN 1 ji.nd) (ao (cQ (bL rE wS (vv 1) (ar)) (ao (fA N.Hv.xc (aK aN0) (by decide) (dU e.hd (gs N.Hv d (e.mono (by decide)) rfl N.Hu N.Ht .nil dL (va1 (ie (c:=((M1 "a part of ").length+(1921+((M1 " is below nought").length+0)))) (db (e9 (vv 1) (db (j5)))) (by decide +kernel))))))) (bM)))))
   (aj (aM (psS 2 ji.nd (vc b e (va1 (cm (zu rfl) Jb (by rfl) N.Dg PyProof.Rows.Boot.«sum» (va1 (vv 0)))))))
   (aj (cK bi (bS eF rfl (bq (vv 0)) (pgN 1 ji.nd) (ao (nS BG (kQ (i:=2) ji.nd rfl (by first|exact Os rfl|exact PH rfl) (vc b e (va1 (vv 1))) GV)))))
   (ao (aL (aB (vv 2)))))),N.D8,N.D7.kp,N.D9⟩
theorem bX:FnScope ["rests","many","pairs","lows","tops","begun","row","fewest_behind","most_behind"] ["rests","many","pairs"] (af nQ):=fsc
noncomputable def j9(K:Frag)(a:Ad):G:=
  ag (aG 3 (aI 2 [] (aQ (ac 2)) (tgT (bf (tgC 0) (bf (tgC 1) cP))) (λ_=>M.ret true) (cEm (ac 0))))
  (ag (aG 4 (aI 3 [] (fZ (aa (ac 0) (aa (ac 2) (ad)))) (tgT (bf (tgC 0) (bf (tgT (bf (tgC 1) (bf (tgC 2) cP))) cP))) (λ_=>M.ret true) (cEm (ae mS (aa (ac 0) (aa (ac 2) (ad)))))))
  (ag (aG 5 (ae bt (aa (ae bB (aa (ae bB (ad)) (aa (ac 1) (ad)))) (ad))))
  (ag (cW (aT cI (aa (ae bp (aa (ac 0) (ad))) (ad))) (sgN 6) (ag (aG 7 (ae bA (aa (fSl (ac 3) (some (f2 ck (ac 6) (fC (.int 1)))) none) (ad))))
  (ag (aG 8 (ae bA (aa (fSl (ac 4) (some (f2 ck (ac 6) (fC (.int 1)))) none) (ad))))
  (aG 5 (aI 3 [3,6,8,4,7] (aQ (ac 5)) (tgT (bf (tgC 0) (bf (tgC 1) cP))) (λ_=>M.ret true) (cNx (aT i8 (aa (ae tE (aa (f2 ixD (ac 3) (ac 4)) (aa (f2 kG (ac 1) (ac 5)) (ad)))) (aa (f2 ck (ae mS (aa (f2 ixD (ac 6) (ac 4)) (aa (f2 kG (ac 1) (ac 7)) (ad)))) (fC (.int 1))) (ad)))) (tgC 2) (λ_=>M.ret true) (cEm (ae bB (aa (f2 ck (ac 0) (ae bB (aa (ac 2) (ad)))) (aa (f2 kG (ac 1) (ac 2)) (ad)))))))))))
  (aF (aI 2 [] (aQ (ac 5)) (tgT (bf (tgC 0) (bf (tgC 1) cP))) (fB (f2 (gb) (ac 1) (fC (.int 0)))) (cEm (ac 0)))))))
noncomputable def hW(K:Frag)(a:Ad):List D->M D:=aD 9 (j9 K a)
theorem uA(N:Fns K mg a):FB P w K mg base 2 "fillings" a.A1 a.A2 ["rests","many","pairs"] 3 (hW K a):=⟨by
 unfold hW
 exact br (k:=1) 3 9 (j9 K a) N.Ea bX rfl rfl λc A outer s H E d=>aj (aM (psS 3 bX.nd (bu rfl (cso ["low","high"] ["low","high"] []) (bq (vv 2)) (λcl C b s H=>⟨(dm rfl (aN (pgN 0 ndc) (aN (pgN 1 ndc) cq))),aU,λD=>aS rfl (vv 0) rfl⟩) (eU (aY au (aY au dE)) (aW (aW cE))) (eP (aX ay (aX ay dD))) (λD=>aZ))))
   (aj (aM (psS 4 bX.nd (bu rfl (cso ["rest","low","high"] ["rest","low","high"] []) (w6 (by rfl) N.Di (va2 (vv 0) (vv 2))) (λcl C b s H=>⟨(dm rfl (aN (pgN 0 ndc) (aN (dm rfl (aN (pgN 1 ndc) (aN (pgN 2 ndc) cq))) cq))),aU,λD=>aS rfl (cm (qN rfl) DM (by rfl) N.C9 PyProof.Rows.Boot.«min» (va2 (vv 0) (vv 2))) rfl⟩) (eU (aY au (aY (eU (aY au (aY au dE)) (aW (aW cE))) dE)) (aW (aW cE))) (eP (aX ay (aX (eP (aX ay (aX ay dD))) dD))) (λD=>aZ))))
   (aj (aM (psS 5 bX.nd (d6 (va1 (fG (va2 (fG (kA)) (vv 1)))))))
   (aj (cK bi (bS eF rfl (cJ (by rfl) N.Da (va1 (dR N.C6 (va1 (vv 0))))) (pgN 6 bX.nd) (aj (aM (psS 7 bX.nd (fJ N.Dg (va1 (uG (vv 3) (yB (bw bo da (vv 6) (ar))) (yC))))))
   (aj (aM (psS 8 bX.nd (fJ N.Dg (va1 (uG (vv 4) (yB (bw bo da (vv 6) (ar))) (yC))))))
   (ao (x8 (i:=5) bX.nd rfl (by first|exact Os rfl|exact PH rfl) rfl (cso ["counts","left","count","lows","row","most_behind","tops","fewest_behind"] ["counts","left","count"] [3,6,8,4,7]) (bq (vv 5)) (λcl C b s H=>⟨(dm rfl (aN (pgN 0 ndc) (aN (pgN 1 ndc) cq))),aU,λD=>pk rfl rfl rfl (mZ (by rfl) N.Da (va2 (cm (zx rfl) LO (by rfl) N.C8 PyProof.Rows.Boot.«max» (va2 (cB bj cV (vv 3) (vv 4)) (bw jt lS (vv 1) (vv 5)))) (bw bo da (cm (qN rfl) DM (by rfl) N.C9 PyProof.Rows.Boot.«min» (va2 (cB bj cV (vv 6) (vv 4)) (bw jt lS (vv 1) (vv 7)))) (ar)))) (pgN 2 ndc) (aU) (aS rfl (fG (va2 (bw bo da (vv 0) (fG (va1 (vv 2)))) (bw jt lS (vv 1) (vv 2)))) rfl)⟩) (eU (aY au (aY au dE)) (aW (aW cE))) (eP (aX ay (aX ay dD))) (λD=>GP au ay (aZ))))))))
   (ao (aL (aB (bu rfl (cso ["counts","left"] ["counts","left"] []) (bq (vv 5)) (λcl C b s H=>⟨(dm rfl (aN (pgN 0 ndc) (aN (pgN 1 ndc) cq))),xh (bL (kU d) oA (vv 1) (ar)),λD=>aS rfl (vv 0) rfl⟩) (eU (aY au (aY au dE)) (aW (aW cE))) (eP (aX ay (aX ay dD))) (λD=>aZ)))))))),N.Eb,N.Ea.kp,N.Ec⟩
theorem wl:FnScope ["rowsums","over"] ["rowsums","over"] (af ql):=fsc
noncomputable def qB(K:Frag)(a:Ad):G:=
  aF (ae bA (aa (aI 1 [0] (aQ (ac 1)) (tgC 0) (λ_=>M.ret true) (cEm (f2 ixD (ac 1) (ac 0)))) (ad)))
noncomputable def iR(K:Frag)(a:Ad):List D->M D:=aD 2 (qB K a)
theorem wD(N:Fns K mg a):FB P w K mg base 2 "need_of" a.A3 a.A4 ["rowsums","over"] 2 (iR K a):=⟨by
 unfold iR
 exact br (k:=1) 2 2 (qB K a) N.Ed wl rfl rfl λb A outer s H E c=>ao (aL (aB (fJ N.Dg (va1 (bu rfl (cso ["row","rowsums"] ["row"] [0]) (bq (vv 1)) (λcl C d s H=>⟨(pgN 0 ndc),aU,λD=>aS rfl (cB bj cV (vv 1) (vv 0)) rfl⟩) au ay (λD=>aZ)))))),N.Ee,N.Ed.kp,N.Ef⟩
theorem jj:FnScope ["columnsums","bounds","over","column","lows"] ["columnsums","bounds","over","column"] (af kj):=fsc
noncomputable def gJ(K:Frag)(a:Ad):G:=
  ag (aG 4 (aI 2 [2,3] (rG (aa (ac 1) (ad))) (tgT (bf (tgC 0) (bf (tgC 1) cP))) (fB (f2 (inD true) (ac 0) (ac 2))) (cEm (f2 ixD (f2 ixD (ac 1) (ac 3)) (fC (.int 0))))))
  (aF (f2 kG (f2 ixD (ac 0) (ac 3)) (ae bA (aa (ac 4) (ad)))))
noncomputable def bP(K:Frag)(a:Ad):List D->M D:=aD 5 (gJ K a)
theorem ju(N:Fns K mg a):FB P w K mg base 2 "room_inside" a.A5 a.A6 ["columnsums","bounds","over","column"] 4 (bP K a):=⟨by
 unfold bP
 exact br (k:=1) 4 5 (gJ K a) N.Eg jj rfl rfl λb A outer s H E c=>aj (x8 (i:=4) jj.nd rfl (by first|exact Os rfl|exact PH rfl) rfl (cso ["row","pairs","over","column"] ["row","pairs"] [2,3]) (za (by rfl) N.C3 (va1 (vv 1))) (λcl C d s H=>⟨(dm rfl (aN (pgN 0 ndc) (aN (pgN 1 ndc) cq))),xh (bL kS (BH (neg:=true)) (vv 0) (vv 2)),λD=>aS rfl (cB bj cV (cB bj cV (vv 1) (vv 3)) (ar)) rfl⟩) (eU (aY au (aY au dE)) (aW (aW cE))) (eP (aX ay (aX ay dD))) (λD=>aZ))
   (ao (aL (aB (bw jt lS (cB bj cV (vv 0) (vv 3)) (fJ N.Dg (va1 (vv 4))))))),N.Eh,N.Eg.kp,N.Ei⟩
theorem pb:FnScope ["bounds","over","column"] ["bounds","over","column"] (af kn):=fsc
noncomputable def kx(K:Frag)(a:Ad):G:=
  aF (ae bA (aa (aI 1 [0,2] (aQ (ac 1)) (tgC 0) (λ_=>M.ret true) (cEm (f2 ixD (f2 ixD (f2 ixD (ac 1) (ac 0)) (ac 2)) (fC (.int 1))))) (ad)))
noncomputable def bQ(K:Frag)(a:Ad):List D->M D:=aD 3 (kx K a)
theorem jv(N:Fns K mg a):FB P w K mg base 2 "room_beside" a.A7 a.A8 ["bounds","over","column"] 3 (bQ K a):=⟨by
 unfold bQ
 exact br (k:=1) 3 3 (kx K a) N.Ej pb rfl rfl λb A outer s H E c=>ao (aL (aB (fJ N.Dg (va1 (bu rfl (cso ["row","bounds","column"] ["row"] [0,2]) (bq (vv 1)) (λcl C d s H=>⟨(pgN 0 ndc),aU,λD=>aS rfl (cB bj cV (cB bj cV (cB bj cV (vv 1) (vv 0)) (vv 2)) (ar)) rfl⟩) au ay (λD=>aZ)))))),N.Ek,N.Ej.kp,N.El⟩
theorem wk:FnScope ["columnsums","bounds","over","into"] ["columnsums","bounds","over","into"] (af qj):=fsc
noncomputable def qA(K:Frag)(a:Ad):G:=
  aF (ae bA (aa (aI 1 [3,0,1,2] (aT cI (aa (ae bp (aa (ac 0) (ad))) (ad))) (tgC 0) (λ_=>M.ret true) (cEm (fIf (fB (f2 (inD false) (ac 0) (ac 1))) (aq (bP K a) (aa (ac 2) (aa (ac 3) (aa (ac 4) (aa (ac 0) (ad)))))) (aq (bQ K a) (aa (ac 3) (aa (ac 4) (aa (ac 0) (ad)))))))) (ad)))
noncomputable def iQ(K:Frag)(a:Ad):List D->M D:=aD 4 (qA K a)
theorem wC(N:Fns K mg a):FB P w K mg base 3 "room_of" a.A9 a.Ba ["columnsums","bounds","over","into"] 4 (iQ K a):=⟨by
 have b:=ju P w base N
 have c:=jv P w base N
 unfold iQ
 exact br (k:=2) 4 4 (qA K a) N.Em wk rfl rfl λe A outer s H E d=>ao (aL (aB (fJ N.Dg (va1 (bu rfl (cso ["column","into","columnsums","bounds","over"] ["column"] [3,0,1,2]) (cJ (by rfl) N.Da (va1 (dR N.C6 (va1 (vv 0))))) (λcl C f s H=>⟨(pgN 0 ndc),aU,λD=>aS rfl (v_if (bL yu (BH (neg:=false)) (vv 0) (vv 1)) (vc b d (va4 (vv 2) (vv 3) (vv 4) (vv 0))) (vc c d (va3 (vv 3) (vv 4) (vv 0)))) rfl⟩) au ay (λD=>aZ)))))),N.En,N.Em.kp,N.Eo⟩
theorem sF:FnScope ["columnsums","bounds","over"] ["columnsums","bounds","over"] (af mq):=fsc
noncomputable def jd(K:Frag)(a:Ad):G:=
  aF (aI 1 [0,1,2] (aT cI (aa (ae bp (aa (ac 0) (ad))) (ad))) (tgC 0) (fB (f2 (ltD) (aq (bP K a) (aa (ac 1) (aa (ac 2) (aa (ac 3) (aa (ac 0) (ad)))))) (aq (bQ K a) (aa (ac 2) (aa (ac 3) (aa (ac 0) (ad))))))) (cEm (ac 0)))
noncomputable def gh(K:Frag)(a:Ad):List D->M D:=aD 3 (jd K a)
theorem sV(N:Fns K mg a):FB P w K mg base 3 "narrowest" a.Bb a.Bc ["columnsums","bounds","over"] 3 (gh K a):=⟨by
 have b:=ju P w base N
 have c:=jv P w base N
 unfold gh
 exact br (k:=2) 3 3 (jd K a) N.Ep sF rfl rfl λe A outer s H E d=>ao (aL (aB (bu rfl (cso ["column","columnsums","bounds","over"] ["column"] [0,1,2]) (cJ (by rfl) N.Da (va1 (dR N.C6 (va1 (vv 0))))) (λcl C f s H=>⟨(pgN 0 ndc),xh (bL rE wS (vc b d (va4 (vv 1) (vv 2) (vv 3) (vv 0))) (vc c d (va3 (vv 2) (vv 3) (vv 0)))),λD=>aS rfl (vv 0) rfl⟩) au ay (λD=>aZ)))),N.Er,N.Ep.kp,N.Es⟩
theorem gZ:FnScope ["many","told","number"] ["many"] (af qo):=fsc
noncomputable def lh(K:Frag)(a:Ad):G:=
  ag (aG 1 (ae bt (aa (ae bt (ad)) (ad))))
  (ag (cW (aT cI (aa (ac 0) (ad))) (sgN 2) (aG 1 (f2 ck (ac 1) (aI 1 [2] (aQ (ac 1)) (tgC 0) (λ_=>M.ret true) (cEm (f2 ck (ac 0) (ae bt (aa (ac 1) (ad)))))))))
  (aF (ac 1)))
noncomputable def iS(K:Frag)(a:Ad):List D->M D:=aD 3 (lh K a)
theorem wF(N:Fns K mg a):FB P w K mg base 2 "choices" a.Bd a.Be ["many"] 1 (iS K a):=⟨by
 unfold iS
 exact br (k:=1) 1 3 (lh K a) N.Et gZ rfl rfl λb A outer s H E c=>aj (aM (psS 1 gZ.nd (d6 (va1 (d6 (kA))))))
   (aj (cK bi (bS eF rfl (cJ (by rfl) N.Da (va1 (vv 0))) (pgN 2 gZ.nd) (ao (aM (psS 1 gZ.nd (bw bo da (vv 1) (bu rfl (cso ["chosen","number"] ["chosen"] [2]) (bq (vv 1)) (λcl C d s H=>⟨(pgN 0 ndc),aU,λD=>aS rfl (bw bo da (vv 0) (d6 (va1 (vv 1)))) rfl⟩) au ay (λD=>aZ))))))))
   (ao (aL (aB (vv 1))))),N.Eu,N.Et.kp,N.Ev⟩
theorem ig:FnScope ["rowsums","columnsums","bounds","over","into"] ["rowsums","columnsums","bounds"] (af mv):=fsc
noncomputable def mz(K:Frag)(a:Ad):G:=
  cW (aQ (aq (iS K a) (aa (ae bp (aa (ac 0) (ad))) (ad)))) (sgN 3) (ag (aG 4 (aq (gh K a) (aa (ac 1) (aa (ac 2) (aa (ac 3) (ad))))))
  (gIf (fB (f2 (gtD) (aq (iR K a) (aa (ac 0) (aa (ac 3) (ad)))) (aq (iQ K a) (aa (ac 1) (aa (ac 2) (aa (ac 3) (aa (ac 4) (ad)))))))) (tZ) (gNil)))
noncomputable def eS(K:Frag)(a:Ad):List D->M D:=aD 5 (mz K a)
theorem sY(N:Fns K mg a):FB P w K mg base 4 "check_fit" a.Bf a.Bh ["rowsums","columnsums","bounds"] 3 (eS K a):=⟨by
 have c:=wF P w base N
 have b:=sV P w base N
 have d:=wD P w base N
 have e:=wC P w base N
 unfold eS
 exact br (k:=3) 3 5 (mz K a) N.Ew ig rfl rfl λg A outer s H E f=>ao (cK bi (bS eF rfl (bq (vc c f (va1 (dR N.C6 (va1 (vv 0)))))) (pgN 3 ig.nd) (aj (aM (psS 4 ig.nd (vc b f (va3 (vv 1) (vv 2) (vv 3)))))
   (ao (cQ (bL wA BI (vc d f (va2 (vv 0) (vv 3))) (vc e f (va4 (vv 1) (vv 2) (vv 3) (vv 4)))) (ao (uR)) (bM)))))),N.Ex,N.Ew.kp,N.Ey⟩
theorem eY:FnScope ["rowsums","wide","many"] ["rowsums"] (af kK):=fsc
noncomputable def ix(K:Frag)(a:Ad):G:=
  ag (aG 1 (fC (.int 1)))
  (ag (cW (aQ (ac 0)) (sgN 2) (fq 1 kZ (f2 ck (ac 2) (fC (.int 1)))))
  (gIf (fB (f2 (gtD) (ac 1) (fC (.int 500)))) (tZ) (gNil)))
noncomputable def fN(K:Frag)(a:Ad):List D->M D:=aD 3 (ix K a)
theorem q8(N:Fns K mg a):FB P w K mg base 2 "check_wide" a.Bi a.Bj ["rowsums"] 1 (fN K a):=⟨by
 unfold fN
 exact br (k:=1) 1 3 (ix K a) N.Ez eY rfl rfl λb A outer s H E c=>aj (aM (psS 1 eY.nd (ar)))
   (aj (cK bi (bS eF rfl (bq (vv 0)) (pgN 2 eY.nd) (ao (nS vg (kQ (i:=1) eY.nd rfl (by first|exact Os rfl|exact PH rfl) (bw bo da (vv 2) (ar)) vn)))))
   (ao (cQ (bL wA BI (vv 1) (gl N.Do)) (ao (uR)) (bM)))),N.E2,N.Ez.kp,N.E3⟩
theorem gn:FnScope ["rowsums","columnsums","bounds","settled"] ["rowsums","columnsums","bounds"] (af gU):=fsc
noncomputable def eG(K:Frag)(a:Ad):G:=
  ag (dO (aq (fP K a) (aa (ac 0) (aa (ac 1) (ad)))))
  (ag (aG 3 (aq (c8 K a) (aa (ac 2) (aa (ae bp (aa (ac 0) (ad))) (aa (ae bp (aa (ac 1) (ad))) (ad))))))
  (ag (dO (aq (fN K a) (aa (ac 0) (ad))))
  (aF (ac 3))))
noncomputable def cL(K:Frag)(a:Ad):List D->M D:=aD 4 (eG K a)
theorem kW(N:Fns K mg a):FB P w K mg base 6 "settled_for_net" a.Bk a.Bl ["rowsums","columnsums","bounds"] 3 (cL K a):=⟨by
 have c:=q9 P w base N
 have b:=mn P w base N
 have d:=q8 P w base N
 unfold cL
 exact br (k:=5) 3 4 (eG K a) N.E4 gn rfl rfl λf A outer s H E e=>aj (nR (cS (vc c e (va2 (vv 0) (vv 1)))))
   (aj (aM (psS 3 gn.nd (vc b e (va3 (vv 2) (dR N.C6 (va1 (vv 0))) (dR N.C6 (va1 (vv 1)))))))
   (aj (nR (cS (vc d e (va1 (vv 0)))))
   (ao (aL (aB (vv 3)))))),N.E5,N.E4.kp,N.E6⟩
theorem kJ:FnScope ["rests","columnsums","bounds","column"] ["rests","columnsums","bounds","column"] (af gW):=fsc
noncomputable def gX(K:Frag)(a:Ad):G:=
  aF (aq (hW K a) (aa (ac 0) (aa (f2 ixD (ac 1) (ac 3)) (aa (aI 1 [3] (aQ (ac 2)) (tgC 0) (λ_=>M.ret true) (cEm (f2 ixD (ac 0) (ac 1)))) (ad)))))
noncomputable def bT(K:Frag)(a:Ad):List D->M D:=aD 4 (gX K a)
theorem gv(N:Fns K mg a):FB P w K mg base 3 "column_fillings" a.Bm a.Bn ["rests","columnsums","bounds","column"] 4 (bT K a):=⟨by
 have b:=uA P w base N
 unfold bT
 exact br (k:=2) 4 4 (gX K a) N.E7 kJ rfl rfl λc A outer s H E d=>ao (aL (aB (vc b d (va3 (vv 0) (cB bj cV (vv 1) (vv 3)) (bu rfl (cso ["pairs","column"] ["pairs"] [3]) (bq (vv 2)) (λcl C e s H=>⟨(pgN 0 ndc),aU,λD=>aS rfl (cB bj cV (vv 0) (vv 1)) rfl⟩) au ay (λD=>aZ)))))),N.E8,N.E7.kp,N.E9⟩
theorem nJ:FnScope ["rests","counts"] ["rests","counts"] (af jk):=fsc
noncomputable def jA(K:Frag)(a:Ad):G:=
  aF (ae jg (aa (aI 2 [] (fZ (aa (ac 0) (aa (ac 1) (ad)))) (tgT (bf (tgC 0) (bf (tgC 1) cP))) (λ_=>M.ret true) (cEm (f2 kG (ac 0) (ac 1)))) (ad)))
noncomputable def cT(K:Frag)(a:Ad):List D->M D:=aD 2 (jA K a)
theorem iO(N:Fns K mg a):FB P w K mg base 2 "rests_behind" a.Bo a.Bp ["rests","counts"] 2 (cT K a):=⟨by
 unfold cT
 exact br (k:=1) 2 2 (jA K a) N.Fa nJ rfl rfl λb A outer s H E c=>ao (aL (aB (cD ff lR (by rfl) N.Dh PyProof.Rows.Boot.«tuple» (va1 (bu rfl (cso ["rest","count"] ["rest","count"] []) (w6 (by rfl) N.Di (va2 (vv 0) (vv 1))) (λcl C d s H=>⟨(dm rfl (aN (pgN 0 ndc) (aN (pgN 1 ndc) cq))),aU,λD=>aS rfl (bw jt lS (vv 0) (vv 1)) rfl⟩) (eU (aY au (aY au dE)) (aW (aW cE))) (eP (aX ay (aX ay dD))) (λD=>aZ)))))),N.Fb,N.Fa.kp,N.Fc⟩
theorem bF:FnScope ["rowsums","columnsums","bounds","here","told","column","behind"] ["rowsums","columnsums","bounds"] (af ij):=fsc
noncomputable def fm(K:Frag)(a:Ad):G:=
  ag (aG 3 (ae bt (aa (ae jg (aa (ac 0) (ad))) (ad))))
  (ag (m7 4 (aa (ac 3) (ad)))
  (ag (cW (aT cI (aa (ae bp (aa (ac 1) (ad))) (ad))) (sgN 5) (ag (aG 6 (dy 2 [1,2,5] (aQ (ac 3)) (tgC 0) (λ_=>M.ret true) (cNx (aQ (aq (bT K a) (aa (ac 0) (aa (ac 2) (aa (ac 3) (aa (ac 4) (ad))))))) (tgC 1) (λ_=>M.ret true) (cEm (aq (cT K a) (aa (ac 0) (aa (ac 1) (ad)))))) iD))
  (ag (m8 4 (aa (ac 6) (ad)))
  (aG 3 (ac 6)))))
  (aF (ac 4))))
noncomputable def c9(K:Frag)(a:Ad):List D->M D:=aD 7 (fm K a)
theorem mo(N:Fns K mg a):FB P w K mg base 4 "nodes_by_level" a.Bq a.Br ["rowsums","columnsums","bounds"] 3 (c9 K a):=⟨by
 have c:=iO P w base N
 have b:=gv P w base N
 unfold c9
 exact br (k:=3) 3 7 (fm K a) N.Fd bF rfl rfl λe A outer s H E d=>aj (aM (psS 3 bF.nd (d6 (va1 (cD ff lR (by rfl) N.Dh PyProof.Rows.Boot.«tuple» (va1 (vv 0)))))))
   (aj (wo (psS 4 bF.nd (ik (va1 (vv 3)))))
   (aj (cK bi (bS eF rfl (cJ (by rfl) N.Da (va1 (dR N.C6 (va1 (vv 1))))) (pgN 5 bF.nd) (aj (aM (psS 6 bF.nd (zP (by rfl) N.Dd rfl (cso ["rests","counts","columnsums","bounds","column"] ["rests","counts"] [1,2,5]) (bq (vv 3)) (λcl C f s H=>⟨(pgN 0 ndc),aU,λD=>pk rfl rfl rfl (bq (vc b d (va4 (vv 0) (vv 2) (vv 3) (vv 4)))) (pgN 1 ndc) (aU) (sT (rK d) rfl (vc c d (va2 (vv 0) (vv 1))) rfl)⟩) au ay (λD=>mU au ay (BC)))))
   (aj (wq (cS (wz Q3 QM QN k6 (pv 4) (va1 (vv 6)))))
   (ao (aM (psS 3 bF.nd (vv 6))))))))
   (ao (aL (aB (vv 4)))))),N.Fe,N.Fd.kp,N.Ff⟩
theorem bx:FnScope ["rests","filled","behind","tables","dealings","counts","tables_behind","dealings_behind"] ["rests","filled","behind"] (af kq):=fsc
noncomputable def gL(K:Frag)(a:Ad):G:=
  ag (aG 3 (fC (.int 0)))
  (ag (aG 4 (fC (.int 0)))
  (ag (cW (aQ (ac 1)) (sgN 5) (ag (gN (f2 xj (ac 2) (aq (cT K a) (aa (ac 0) (aa (ac 5) (ad))))) (sgT (gE (sgN 6) (gE (sgN 7) i7))))
  (ag (fq 3 xw (ac 6))
  (fq 4 xw (f2 kZ (aq (ow K a) (aa (ac 5) (ad))) (ac 7))))))
  (aF (ae bB (aa (ac 3) (aa (ac 4) (ad)))))))
noncomputable def eZ(K:Frag)(a:Ad):List D->M D:=aD 8 (gL K a)
theorem pq(N:Fns K mg a):FB P w K mg base 5 "node_counts" a.Bs a.Bt ["rests","filled","behind"] 3 (eZ K a):=⟨by
 have b:=iO P w base N
 have c:=GC P w base N
 unfold eZ
 exact br (k:=4) 3 8 (gL K a) N.Fg bx rfl rfl λe A outer s H E d=>aj (aM (psS 3 bx.nd (ar)))
   (aj (aM (psS 4 bx.nd (ar)))
   (aj (cK bi (bS eF rfl (bq (vv 1)) (pgN 5 bx.nd) (aj (DC (yN (jZ bi (jZ bi vd)) (jN (jN sE))) (jr (cB (yW (hu2 d)) LS (vv 2) (vc b d (va2 (vv 0) (vv 5)))) (dm rfl (aN (pgN 6 bx.nd) (aN (pgN 7 bx.nd) cq)))))
   (aj (nS vh (kQ (i:=3) bx.nd rfl (by first|exact Os rfl|exact PH rfl) (vv 6) y6))
   (ao (nS vh (kQ (i:=4) bx.nd rfl (by first|exact Os rfl|exact PH rfl) (bw pp wR (vc c d (va1 (vv 5))) (vv 7)) y6)))))))
   (ao (aL (aB (fG (va2 (vv 3) (vv 4)))))))),N.Fh,N.Fg.kp,N.Fi⟩
theorem bn:FnScope ["rowsums","columnsums","bounds","levels","last","here","told","level","behind"] ["rowsums","columnsums","bounds"] (af iI):=fsc
noncomputable def fS(K:Frag)(a:Ad):G:=
  ag (aG 3 (aq (c9 K a) (aa (ac 0) (aa (ac 1) (aa (ac 2) (ad))))))
  (ag (aG 4 (ae bp (aa (ac 1) (ad))))
  (ag (aG 5 (dy 1 [] (aQ (f2 ixD (ac 3) (ac 4))) (tgC 0) (λ_=>M.ret true) (pZ (ac 0) (ae bB (aa (fC (.int 1)) (aa (fC (.int 1)) (ad))))) (gQ false)))
  (ag (m7 6 (aa (ac 5) (ad)))
  (ag (cW (aT nU (aa (ac 4) (ad))) (sgN 7) (ag (aG 8 (ac 5))
  (ag (aG 5 (dy 1 [1,2,7,8] (aQ (f2 ixD (ac 3) (ac 7))) (tgC 0) (λ_=>M.ret true) (pZ (ac 0) (aq (eZ K a) (aa (ac 0) (aa (aq (bT K a) (aa (ac 0) (aa (ac 1) (aa (ac 2) (aa (ac 3) (ad)))))) (aa (ac 4) (ad)))))) (gQ false)))
  (m8 6 (aa (ac 5) (ad))))))
  (aF (dy 4 [] (rG (aa (f2 wt (ac 6) (f1 jX (fC (.int 1)))) (ad))) (tgT (bf (tgC 0) (bf (tgC 1) cP))) (λ_=>M.ret true) (cNx (IW (ac 1)) (tgT (bf (tgC 2) (bf (tgC 3) cP))) (λ_=>M.ret true) (pZ (ae bB (aa (ac 0) (aa (ac 2) (ad)))) (ac 3))) (gQ true)))))))
noncomputable def dM(K:Frag)(a:Ad):List D->M D:=aD 9 (fS K a)
theorem mR(N:Fns K mg a):FB P w K mg base 6 "counted_nodes" a.Bu a.Bv ["rowsums","columnsums","bounds"] 3 (dM K a):=⟨by
 have d:=mo P w base N
 have c:=gv P w base N
 have e:=pq P w base N
 unfold dM
 exact br (k:=5) 3 9 (fS K a) N.Fj bn rfl rfl λh A outer s H E f=>aj (aM (psS 3 bn.nd (vc d f (va3 (vv 0) (vv 1) (vv 2)))))
   (aj (aM (psS 4 bn.nd (dR N.C6 (va1 (vv 1)))))
   (aj (x6 (kb:=false) (i:=5) bn.nd rfl (by first|exact Os rfl|exact PH rfl) rfl (cso ["rests"] ["rests"] []) (bq (cB bj cV (vv 3) (vv 4))) (λcl C g s H=>⟨(pgN 0 ndc),aU,λD=>jS (b:=false) (rK f) rfl (vv 0) (fG (va2 (ar) (ar))) rfl⟩) au ay (λD=>mV))
   (aj (wo (psS 6 bn.nd (ik (va1 (vv 5)))))
   (aj (cK bi (bS eF rfl (BP (by rfl) N.Db (by rfl) N.Da (va1 (vv 4))) (pgN 7 bn.nd) (aj (aM (psS 8 bn.nd (vv 5)))
   (aj (x6 (kb:=false) (i:=5) bn.nd rfl (by first|exact Os rfl|exact PH rfl) rfl (cso ["rests","columnsums","bounds","level","behind"] ["rests"] [1,2,7,8]) (bq (cB bj cV (vv 3) (vv 7))) (λcl C g s H=>⟨(pgN 0 ndc),aU,λD=>jS (b:=false) (rK f) rfl (vv 0) (vc e f (va3 (vv 0) (vc c f (va4 (vv 0) (vv 1) (vv 2) (vv 3))) (vv 4))) rfl⟩) au ay (λD=>mV))
   (ao (wq (cS (wz Q3 QM QN k6 (pv 6) (va1 (vv 5))))))))))
   (ao (aL (aB (EN (kb:=true) rfl (cso ["level","nodes","rests","counts"] ["level","nodes","rests","counts"] []) (za (by rfl) N.C3 (va1 (CT (vv 6) (HJ xG DL (ar))))) (λcl C g s H=>⟨(dm rfl (aN (pgN 0 ndc) (aN (pgN 1 ndc) cq))),aU,λD=>pk rfl rfl rfl (GX (vv 1)) (dm rfl (aN (pgN 2 ndc) (aN (pgN 3 ndc) cq))) (aU) (jS (b:=true) (rK f) rfl (fG (va2 (vv 0) (vv 2))) (vv 3) rfl)⟩) (eU (aY au (aY au dE)) (aW (aW cE))) (eP (aX ay (aX ay dD))) (λD=>mU (eU (aY au (aY au dE)) (aW (aW cE))) (eP (aX ay (aX ay dD))) (mV)))))))))),N.Fk,N.Fj.kp,N.Fl⟩
theorem x4:FnScope ["_law_found","_law_due"] ["_law_found","_law_due"] (af sJ):=fsc
noncomputable def m5(K:Frag)(a:Ad)(rec:List D->M D):G:=
  ag (gIf (eJ (ae fc (aa (ac 1) (aa (ae bB (aa (fC (.ty "list")) (aa (fC (.ty "tuple")) (ad)))) (ad))))) (ag (gIf (eK (fB (f2 (c7) (ae bR (aa (ac 1) (aa (fC (.ty "list")) (ad)))) (ae bR (aa (ac 0) (aa (fC (.ty "list")) (ad)))))) (fB (f2 (c7) (ae bR (aa (ac 1) (aa (fC (.ty "tuple")) (ad)))) (ae bR (aa (ac 0) (aa (fC (.ty "tuple")) (ad))))))) (aF (fC (.bl false))) (gNil))
  (ag (gIf (fB (f2 (c7) (ae bp (aa (ac 0) (ad))) (ae bp (aa (ac 1) (ad))))) (aF (fC (.bl false))) (gNil))
  (aF (f2 (inD true) (fC (.bl false)) (aI 2 [] (fZ (aa (ac 0) (aa (ac 1) (ad)))) (tgT (bf (tgC 0) (bf (tgC 1) cP))) (λ_=>M.ret true) (cEm (aq rec (aa (ac 0) (aa (ac 1) (ad)))))))))) (gNil))
  (ag (gIf (fB (f2 (f9) (ac 1) (fC .non))) (aF (f2 (f9) (ac 0) (fC .non))) (gNil))
  (ag (gIf (eK (fB (f2 (c7) (ae bR (aa (ac 1) (aa (fC (.ty "str")) (ad)))) (ae bR (aa (ac 0) (aa (fC (.ty "str")) (ad)))))) (fB (f2 (c7) (ae bR (aa (ac 1) (aa (fC (.ty "bool")) (ad)))) (ae bR (aa (ac 0) (aa (fC (.ty "bool")) (ad))))))) (aF (fC (.bl false))) (gNil))
  (aF (gO (ae fc (aa (ac 0) (aa (ae bB (aa (fC (.ty "int")) (aa (fC (.ty "str")) (ad)))) (ad)))) (f2 (gb) (ac 0) (ac 1))))))
noncomputable def cc(K:Frag)(a:Ad):Nat->List D->M D
 |0=>λ_=>M.fail
 |n+1=>aD 2 (m5 K a (cc K a n))
theorem n9(N:Fns K mg a):∀n,FnOk P w K mg base (CXE P w) (n+1) a.B0 a.B3 ["_law_found","_law_due"] (spF K 2 (cc K a n))
 |0=>⟨λvs H Q E h=>h.1,λA outer s H args us vs Q E b f g r h=>by
  obtain⟨_,F,ds,β,_,_,i,β1,e,_⟩:=h
  cases e⟩
 |n+1=>by
  have c:=n9 N n
  unfold cc
  exact br (k:=n+1) 2 2 (m5 K a (cc K a n)) N.Ft x4 rfl rfl λd A outer s H E b=>aj (cQ (nB (cm oU yT (by rfl) N.C5 PyProof.Rows.Boot.«isinstance» (va2 (vv 1) (fG (va2 (v_c (cr (v:= .ty "list") (by rfl) N.C7 PyProof.Rows.Boot.«list» rfl) (λ_ _=>rfl)) (v_c (cr (v:= .ty "tuple") (by rfl) N.Dh PyProof.Rows.Boot.«tuple» rfl) (λ_ _=>rfl))))))) (aj (cQ (nC (vZ (bL (gu b) iU (kB N.C5 (va2 (vv 1) (v_c (cr (v:= .ty "list") (by rfl) N.C7 PyProof.Rows.Boot.«list» rfl) (λ_ _=>rfl)))) (kB N.C5 (va2 (vv 0) (v_c (cr (v:= .ty "list") (by rfl) N.C7 PyProof.Rows.Boot.«list» rfl) (λ_ _=>rfl))))) (rh (bL (gu b) iU (kB N.C5 (va2 (vv 1) (v_c (cr (v:= .ty "tuple") (by rfl) N.Dh PyProof.Rows.Boot.«tuple» rfl) (λ_ _=>rfl)))) (kB N.C5 (va2 (vv 0) (v_c (cr (v:= .ty "tuple") (by rfl) N.Dh PyProof.Rows.Boot.«tuple» rfl) (λ_ _=>rfl)))))))) (ao (aL (aB (sj)))) (bM))
   (aj (cQ (bL (gu b) iU (dR N.C6 (va1 (vv 0))) (dR N.C6 (va1 (vv 1)))) (ao (aL (aB (sj)))) (bM))
   (ao (aL (aB (lH kS (BH (neg:=true)) (sj) (bu rfl (cso ["_law_one","_law_other"] ["_law_one","_law_other"] []) (w6 (by rfl) N.Di (va2 (vv 0) (vv 1))) (λcl C j s H=>⟨(dm rfl (aN (pgN 0 ndc) (aN (pgN 1 ndc) cq))),aU,λD=>aS rfl (xF c (b.mono (Mw _)) (by rfl) N.Fu N.Ft.kp N.Fw dL (va2 (vv 0) (vv 1)) (aK (aK aN0))) rfl⟩) (eU (aY au (aY au dE)) (aW (aW cE))) (eP (aX ay (aX ay dD))) (λD=>aZ)))))))) (bM))
   (aj (cQ (bL sU wT (vv 1) (rn)) (ao (aL (aB (lH sU wT (vv 0) (rn))))) (bM))
   (aj (cQ (nC (vZ (bL (gu b) iU (kB N.C5 (va2 (vv 1) (v_c (cr (v:= .ty "str") (by rfl) N.Df PyProof.Rows.Boot.«str» rfl) (λ_ _=>rfl)))) (kB N.C5 (va2 (vv 0) (v_c (cr (v:= .ty "str") (by rfl) N.Df PyProof.Rows.Boot.«str» rfl) (λ_ _=>rfl))))) (rh (bL (gu b) iU (kB N.C5 (va2 (vv 1) (v_c (cr (v:= .ty "bool") (by rfl) N.C2 PyProof.Rows.Boot.«bool» rfl) (λ_ _=>rfl)))) (kB N.C5 (va2 (vv 0) (v_c (cr (v:= .ty "bool") (by rfl) N.C2 PyProof.Rows.Boot.«bool» rfl) (λ_ _=>rfl)))))))) (ao (aL (aB (sj)))) (bM))
   (ao (aL (aB (CV (cm oU yT (by rfl) N.C5 PyProof.Rows.Boot.«isinstance» (va2 (vv 0) (fG (va2 (v_c (cr (v:= .ty "int") (by rfl) N.C4 PyProof.Rows.Boot.«int» rfl) (λ_ _=>rfl)) (v_c (cr (v:= .ty "str") (by rfl) N.Df PyProof.Rows.Boot.«str» rfl) (λ_ _=>rfl)))))) (CU (lH (kU b) oA (vv 0) (vv 1)))))))))
theorem yx(N:Fns K mg a):FB P w K mg base 7 "_law_same" a.B0 a.B3 ["_law_found","_law_due"] 2 (cc K a 5):=⟨(n9 P w base N 5).mono (by decide),N.Fu,N.Ft.kp,N.Fw⟩
theorem gq:FnScope ["_law_bag_here","_law_block","_law_columns","_law_things","_law_grid_here","_law_thing","_law_at","_law_to"] ["_law_bag_here","_law_block","_law_columns","_law_things"] (af sL):=fsc
noncomputable def m6(K:Frag)(a:Ad):G:=
  ag (pL 4 (jE 1 [2] (aT cI (aa (ac 1) (ad))) (tgC 0) (λ_=>M.ret true) (uq (wG (aa (fC (.int 0)) (ad)) (ac 1)))))
  (ag (cW (aT cI (aa (ac 3) (ad))) (sgN 5) (ag (aG 6 (aq bN (aa (ac 0) (aa (ac 1) (ad)))))
  (ag (aG 7 (aq bN (aa (ac 0) (aa (ac 2) (ad)))))
  (oK 4 (ac 6) (ac 7) (f2 ck (f2 ixD (f2 ixD (ac 4) (ac 6)) (ac 7)) (fC (.int 1)))))))
  (aF (ac 4)))
noncomputable def fi(K:Frag)(a:Ad):List D->M D:=aD 8 (m6 K a)
theorem yz(N:Fns K mg a):FB P w K mg base 3 "_law_grid" a.B4 a.B5 ["_law_bag_here","_law_block","_law_columns","_law_things"] 4 (fi K a):=⟨by
 have b:=ln P w base N
 unfold fi
 exact br (k:=2) 4 8 (m6 K a) N.Fy gq rfl rfl λd A outer s H E c=>aj (Ih (i:=4) gq.nd rfl (by first|exact Os rfl|exact PH rfl) rfl (cso ["_law_row","_law_columns"] ["_law_row"] [2]) (cJ (by rfl) N.Da (va1 (vv 1))) (λcl C e s H=>⟨(pgN 0 ndc),aU,λD=>aS rfl (LG (va1 (ar)) (vv 1)) rfl⟩) au ay (λD=>GN))
   (aj (cK bi (bS eF rfl (cJ (by rfl) N.Da (va1 (vv 3))) (pgN 5 gq.nd) (aj (aM (psS 6 gq.nd (vc b c (va2 (vv 0) (vv 1)))))
   (aj (aM (psS 7 gq.nd (vc b c (va2 (vv 0) (vv 2)))))
   (ao (Ig (jr (bw bo da (cB bj cV (cB bj cV (vv 4) (vv 6)) (vv 7)) (ar)) (nZ (iN fE (pv 4) (vv 6) (λ_ _=>rfl)) (vv 7) jO))))))))
   (ao (aL (aB (vv 4))))),N.Fz,N.Fy.kp,N.F4⟩
theorem iE:FnScope ["_law_bag_here","_law_grid_here","_law_lot","_law_first"] ["_law_bag_here"] (af sH):=fsc
noncomputable def m3(K:Frag)(a:Ad):G:=
  ag (m7 1 (ad))
  (ag (cW (aQ (f2 ixD (ae bt (aa (ae bt (aa (fC (.int 40)) (ad))) (aa (ae bt (aa (fC (.int 39)) (aa (fC (.int 1)) (ad)))) (aa (ae bt (aa (fC (.int 30)) (aa (fC (.int 10)) (ad)))) (aa (ae bt (aa (fC (.int 20)) (aa (fC (.int 20)) (ad)))) (aa (ae bt (aa (fC (.int 24)) (aa (fC (.int 15)) (ad)))) (aa (ae bt (aa (fC (.int 13)) (aa (fC (.int 27)) (ad)))) (ad)))))))) (aq bN (aa (ac 0) (aa (fC (.int 6)) (ad)))))) (sgN 2) (ag (aG 3 (aq bN (aa (ac 0) (aa (f2 ck (ac 2) (fC (.int 1))) (ad)))))
  (m8 1 (aa (ae bt (aa (ac 3) (aa (f2 kG (ac 2) (ac 3)) (ad)))) (ad)))))
  (aF (ac 1)))
noncomputable def iu(K:Frag)(a:Ad):List D->M D:=aD 4 (m3 K a)
theorem yv(N:Fns K mg a):FB P w K mg base 3 "_law_wide" a.B7 a.B8 ["_law_bag_here"] 1 (iu K a):=⟨by
 have b:=ln P w base N
 unfold iu
 refine br (k:=2) 1 4 (m3 K a) N.F5 iE rfl rfl λe A outer s H E c=>?_
 refine aj (wo (psS 1 iE.nd (ik (kA)))) ?_
 refine aj ?_ ?_
 rotate_left
 exact(ao (aL (aB (vv 1))))
 refine cK (tgg:=ef 2) ?_ ?_
 exact bi
 generalize d:Expr.Subscript _ _ _=q
 refine bS eF rfl ?_ (pgN 2 iE.nd) ?_ ?_
 subst d
 refine bq ?_
 refine Li ?_ ?_
 refine d6 ?_
 refine dB ?_ ?_
 refine d6 ?_
 exact va1 ar
 refine dB ?_ ?_
 refine d6 ?_
 exact va2 ar ar
 refine dB ?_ ?_
 refine d6 ?_
 exact va2 ar ar
 refine dB ?_ ?_
 refine d6 ?_
 exact va2 ar ar
 refine dB ?_ ?_
 refine d6 ?_
 exact va2 ar ar
 refine dB ?_ ?_
 refine d6 ?_
 exact va2 ar ar
 exact kA
 exact(vc b c (va2 (vv 0) (ar)))
 exact aj (aM (psS 3 iE.nd (vc b c (va2 (vv 0) (bw bo da (vv 2) (ar)))))) (ao (wq (cS (wz Q3 QM QN k6 (pv 1) (va1 (d6 (va2 (vv 3) (bw jt lS (vv 2) (vv 3)))))))))
 subst d
 intro _
 rfl,N.F6,N.F5.kp,N.F7⟩
theorem gY:FnScope ["_law_bag_here","_law_way","_law_block","_law_columns"] ["_law_bag_here"] (af qm):=fsc
noncomputable def lf(K:Frag)(a:Ad):G:=
  ag (gIf (fB (f2 (gb) (aq bN (aa (ac 0) (aa (fC (.int 6)) (ad)))) (fC (.int 0)))) (aF (aq (iu K a) (aa (ac 0) (ad)))) (gNil))
  (ag (aG 1 (aq bN (aa (ac 0) (aa (fC (.int 5)) (ad)))))
  (ag (gIf (fB (f2 (gb) (ac 1) (fC (.int 0)))) (aF (aq (fi K a) (aa (ac 0) (aa (fC (.int 2)) (aa (f2 ck (fC (.int 2)) (aq bN (aa (ac 0) (aa (fC (.int 5)) (ad))))) (aa (aq bN (aa (ac 0) (aa (fC (.int 25)) (ad)))) (ad))))))) (gNil))
  (ag (gIf (fB (f2 (gb) (ac 1) (fC (.int 1)))) (aF (aq (fi K a) (aa (ac 0) (aa (fC (.int 4)) (aa (f2 ck (fC (.int 2)) (aq bN (aa (ac 0) (aa (fC (.int 2)) (ad))))) (aa (aq bN (aa (ac 0) (aa (fC (.int 9)) (ad)))) (ad))))))) (gNil))
  (ag (aG 2 (f2 ck (fC (.int 2)) (aq bN (aa (ac 0) (aa (fC (.int 2)) (ad))))))
  (ag (aG 3 (f2 ck (fC (.int 2)) (aq bN (aa (ac 0) (aa (fC (.int 3)) (ad))))))
  (aF (aq (fi K a) (aa (ac 0) (aa (ac 2) (aa (ac 3) (aa (aq bN (aa (ac 0) (aa (fC (.int 12)) (ad)))) (ad))))))))))))
noncomputable def gy(K:Frag)(a:Ad):List D->M D:=aD 4 (lf K a)
theorem wE(N:Fns K mg a):FB P w K mg base 4 "_law_large" a.Ca a.Cb ["_law_bag_here"] 1 (gy K a):=⟨by
 have b:=ln P w base N
 have e:=yv P w base N
 have c:=yz P w base N
 unfold gy
 exact br (k:=3) 1 4 (lf K a) N.F8 gY rfl rfl λf A outer s H E d=>aj (cQ (bL (kU d) oA (vc b d (va2 (vv 0) (ar))) (ar)) (ao (aL (aB (vc e d (va1 (vv 0)))))) (bM))
   (aj (aM (psS 1 gY.nd (vc b d (va2 (vv 0) (ar)))))
   (aj (cQ (bL (kU d) oA (vv 1) (ar)) (ao (aL (aB (vc c d (va4 (vv 0) (ar) (bw bo da (ar) (vc b d (va2 (vv 0) (ar)))) (vc b d (va2 (vv 0) (ar)))))))) (bM))
   (aj (cQ (bL (kU d) oA (vv 1) (ar)) (ao (aL (aB (vc c d (va4 (vv 0) (ar) (bw bo da (ar) (vc b d (va2 (vv 0) (ar)))) (vc b d (va2 (vv 0) (ar)))))))) (bM))
   (aj (aM (psS 2 gY.nd (bw bo da (ar) (vc b d (va2 (vv 0) (ar))))))
   (aj (aM (psS 3 gY.nd (bw bo da (ar) (vc b d (va2 (vv 0) (ar))))))
   (ao (aL (aB (vc c d (va4 (vv 0) (vv 2) (vv 3) (vc b d (va2 (vv 0) (ar))))))))))))),N.F9,N.F8.kp,N.Ga⟩
theorem ux:FnScope ["_law_block"] ["_law_block"] (af nP):=fsc
noncomputable def oJ(K:Frag)(a:Ad):G:=
  aF (aI 1 [0] (aT cI (aa (ae bp (aa (f2 ixD (ac 0) (fC (.int 0))) (ad))) (ad))) (tgC 0) (λ_=>M.ret true) (cEm (aI 1 [0] (aQ (ac 1)) (tgC 0) (λ_=>M.ret true) (cEm (f2 ixD (ac 0) (ac 1))))))
noncomputable def hG(K:Frag)(a:Ad):List D->M D:=aD 1 (oJ K a)
theorem uz(N:Fns K mg a):FB P w K mg base 2 "_law_turned" a.Cc a.Cd ["_law_block"] 1 (hG K a):=⟨by
 unfold hG
 exact br (k:=1) 1 1 (oJ K a) N.Gb ux rfl rfl λb A outer s H E d=>ao (aL (aB (bu rfl (cso ["_law_to","_law_block"] ["_law_to"] [0]) (cJ (by rfl) N.Da (va1 (dR N.C6 (va1 (cB bj cV (vv 0) (ar)))))) (λcl C c s H=>⟨(pgN 0 ndc),aU,λD=>aS rfl (bu rfl (cso ["_law_row","_law_to"] ["_law_row"] [0]) (bq (vv 1)) (λcl C c s H=>⟨(pgN 0 ndc),aU,λD=>aS rfl (cB bj cV (vv 0) (vv 1)) rfl⟩) au ay (λD=>aZ)) rfl⟩) au ay (λD=>aZ)))),N.Gc,N.Gb.kp,N.Gd⟩
theorem sG:FnScope ["_law_grid_here"] ["_law_grid_here"] (af mr):=fsc
noncomputable def my(K:Frag)(a:Ad):G:=
  aF (aI 1 [] (aQ (ac 0)) (tgC 0) (λ_=>M.ret true) (cEm (ae bA (aa (ac 0) (ad)))))
noncomputable def gi(K:Frag)(a:Ad):List D->M D:=aD 1 (my K a)
theorem sW(N:Fns K mg a):FB P w K mg base 2 "_law_rowsums" a.Cf a.Cg ["_law_grid_here"] 1 (gi K a):=⟨by
 unfold gi
 exact br (k:=1) 1 1 (my K a) N.Ge sG rfl rfl λb A outer s H E c=>ao (aL (aB (bu rfl (cso ["_law_row"] ["_law_row"] []) (bq (vv 0)) (λcl C d s H=>⟨(pgN 0 ndc),aU,λD=>aS rfl (fJ N.Dg (va1 (vv 0))) rfl⟩) au ay (λD=>aZ)))),N.Gf,N.Ge.kp,N.Gg⟩
theorem nK:FnScope ["_law_grid_here"] ["_law_grid_here"] (af jl):=fsc
noncomputable def jB(K:Frag)(a:Ad):G:=
  aF (aI 1 [] (aQ (aq (hG K a) (aa (ac 0) (ad)))) (tgC 0) (λ_=>M.ret true) (cEm (ae bA (aa (ac 0) (ad)))))
noncomputable def d8(K:Frag)(a:Ad):List D->M D:=aD 1 (jB K a)
theorem oh(N:Fns K mg a):FB P w K mg base 3 "_law_columnsums" a.Ch a.Ci ["_law_grid_here"] 1 (d8 K a):=⟨by
 have b:=uz P w base N
 unfold d8
 exact br (k:=2) 1 1 (jB K a) N.Gi nK rfl rfl λc A outer s H E d=>ao (aL (aB (bu rfl (cso ["_law_column"] ["_law_column"] []) (bq (vc b d (va1 (vv 0)))) (λcl C e s H=>⟨(pgN 0 ndc),aU,λD=>aS rfl (fJ N.Dg (va1 (vv 0))) rfl⟩) au ay (λD=>aZ)))),N.Gj,N.Gi.kp,N.Gk⟩
theorem d7:FnScope ["_law_lot","_law_found","_law_k"] ["_law_lot"] (af kr):=fsc
noncomputable def gM(K:Frag)(a:Ad):G:=
  ag (aG 1 (fC (.int 1)))
  (ag (cW (aT i8 (aa (fC (.int 2)) (aa (f2 ck (ac 0) (fC (.int 1))) (ad)))) (sgN 2) (aG 1 (f2 kZ (ac 1) (ac 2))))
  (aF (ac 1)))
noncomputable def dn(K:Frag)(a:Ad):List D->M D:=aD 3 (gM K a)
theorem pw(N:Fns K mg a):FB P w K mg base 2 "_law_factorial" a.Cj a.Ck ["_law_lot"] 1 (dn K a):=⟨by
 unfold dn
 exact br (k:=1) 1 3 (gM K a) N.Gm d7 rfl rfl λb A outer s H E c=>aj (aM (psS 1 d7.nd (ar)))
   (aj (cK bi (bS eF rfl (mZ (by rfl) N.Da (va2 (ar) (bw bo da (vv 0) (ar)))) (pgN 2 d7.nd) (ao (aM (psS 1 d7.nd (bw pp wR (vv 1) (vv 2)))))))
   (ao (aL (aB (vv 1))))),N.Gn,N.Gm.kp,N.Go⟩
theorem iF:FnScope ["_law_parts","_law_under","_law_part"] ["_law_parts"] (af sI):=fsc
noncomputable def m4(K:Frag)(a:Ad):G:=
  ag (aG 1 (fC (.int 1)))
  (ag (cW (aQ (ac 0)) (sgN 2) (aG 1 (f2 kZ (ac 1) (aq (dn K a) (aa (ac 2) (ad))))))
  (aF (f2 oM (aq (dn K a) (aa (ae bA (aa (ac 0) (ad))) (ad))) (ac 1))))
noncomputable def jY(K:Frag)(a:Ad):List D->M D:=aD 3 (m4 K a)
theorem yw(N:Fns K mg a):FB P w K mg base 3 "_law_ways" a.Cl a.Cm ["_law_parts"] 1 (jY K a):=⟨by
 have b:=pw P w base N
 unfold jY
 exact br (k:=2) 1 3 (m4 K a) N.Gp iF rfl rfl λd A outer s H E c=>aj (aM (psS 1 iF.nd (ar)))
   (aj (cK bi (bS eF rfl (bq (vv 0)) (pgN 2 iF.nd) (ao (aM (psS 1 iF.nd (bw pp wR (vv 1) (vc b c (va1 (vv 2)))))))))
   (ao (aL (aB (bw AN Jd (vc b c (va1 (fJ N.Dg (va1 (vv 0))))) (vv 1)))))),N.Gq,N.Gp.kp,N.Gr⟩
theorem iH:FnScope ["self","rowsums","columnsums","bounds","settled"] ["self","rowsums","columnsums","bounds"] (af jp):=fsc
noncomputable def tU(K:Frag)(a:Ad):IP:=
  lV (aG 4 (aq (cL K a) (aa (ac 1) (aa (ac 2) (aa (ac 3) (ad))))))
  (lV (dO (aq (eS K a) (aa (ac 1) (aa (ac 2) (aa (ac 4) (ad))))))
  (iW (ae iT (aa (ac 1) (ad)))
  (iW (ae iT (aa (ac 2) (ad)))
  (iW (ac 4)
  (iW (aq (dM K a) (aa (ac 1) (aa (ac 2) (aa (ac 4) (ad)))))
  (DR))))))
noncomputable def k7(K:Frag)(a:Ad):List D->M (List D):=lW 5 (tU K a)
theorem GB(N:Fns K mg a):FnOk P w K mg base (CXE P w) 7 a.Cn a.Co ["self","rowsums","columnsums","bounds"] (spI K a.An ["row_list","column_list","pairs","counted"] 3 (k7 K a)):=by
 have c:=mR P w base N
 have d:=sY P w base N
 have b:=kW P w base N
 unfold k7
 exact Hz (k:=6) 3 5 (tU K a) N.Gs iH rfl rfl λf A outer s H E e=>DS (aM (psS 4 iH.nd (vc b e (va3 (vv 1) (vv 2) (vv 3)))))
   (DS (nR (cS (vc d e (va3 (vv 1) (vv 2) (vv 4)))))
   (rJ N.G7 N.Hc (by decide) (by decide) (nY (pv 0) (cD cY jy (by rfl) N.C7 PyProof.Rows.Boot.«list» (va1 (vv 1))) rfl)
   (rJ N.G7 N.G9 (by decide) (by decide) (nY (pv 0) (cD cY jy (by rfl) N.C7 PyProof.Rows.Boot.«list» (va1 (vv 2))) rfl)
   (rJ N.G7 N.Hb (by decide) (by decide) (nY (pv 0) (vv 4) rfl)
   (rJ N.G7 N.Ha (by decide) (by decide) (nY (pv 0) (vc c e (va3 (vv 1) (vv 2) (vv 4))) rfl)
   (LY))))))
theorem mK:FnScope ["self","level","rests"] ["self","level","rests"] (af iJ):=fsc
noncomputable def iX(K:Frag)(a:Ad):G:=
  aF (xi (f1 (m9 a.An "counted") (ac 0)) (aa (ae bB (aa (ac 1) (aa (ac 2) (ad)))) (aa (ae bB (aa (fC (.int 0)) (aa (fC (.int 0)) (ad)))) (ad))))
noncomputable def cw(K:Frag)(a:Ad):List D->M D:=aD 3 (iX K a)
theorem im(N:Fns K mg a):FnOk P w K mg base (CXE P w) 2 a.Cr a.Cs ["self","level","rests"] (spF K 3 (cw K a)):=by
 unfold cw
 exact br (k:=1) 3 3 (iX K a) N.G1 mK rfl rfl λb A outer s H E c=>ao (aL (aB (Lj (hu2 c) (v4 N.G7 N.Ha (vv 0)) (va2 (fG (va2 (vv 1) (vv 2))) (fG (va2 (ar) (ar)))))))
theorem nM:FnScope ["self"] ["self"] (af jo):=fsc
noncomputable def jC(K:Frag)(a:Ad):G:=
  aF (f2 ixD (fU a.An "counts_at" (cw K a) (ac 0) (aa (fC (.int 0)) (aa (ae jg (aa (f1 (m9 a.An "row_list") (ac 0)) (ad))) (ad))) []) (fC (.int 1)))
noncomputable def cU(K:Frag)(a:Ad):List D->M D:=aD 1 (jC K a)
theorem oi(N:Fns K mg a):FnOk P w K mg base (CXE P w) 3 a.Cp a.Cq ["self"] (spF K 1 (cU K a)):=by
 have b:=im P w base N
 unfold cU
 exact br (k:=2) 1 1 (jC K a) N.Gy nM rfl rfl λd A outer s H E e=>ao (aL (aB (cB bj cV (xE N.G7 N.G2 b (e.mono (by decide)) (di.nil N.G3) gf (vv 0) (va2 (ar) (cD ff lR (by rfl) N.Dh PyProof.Rows.Boot.«tuple» (va1 (v4 N.G7 N.Hc (vv 0))))) (λδ β r c h=>by rw[(aK (aK aN0)) δ β r c h];rfl)) (ar))))
theorem qY:FnScope ["self"] ["self"] (af kO):=fsc
noncomputable def lj(K:Frag)(a:Ad):G:=
  aF (f2 ixD (fU a.An "counts_at" (cw K a) (ac 0) (aa (fC (.int 0)) (aa (ae jg (aa (f1 (m9 a.An "row_list") (ac 0)) (ad))) (ad))) []) (fC (.int 0)))
noncomputable def dX(K:Frag)(a:Ad):List D->M D:=aD 1 (lj K a)
theorem rc(N:Fns K mg a):FnOk P w K mg base (CXE P w) 3 a.Ct a.Cu ["self"] (spF K 1 (dX K a)):=by
 have b:=im P w base N
 unfold dX
 exact br (k:=2) 1 1 (lj K a) N.G4 qY rfl rfl λd A outer s H E e=>ao (aL (aB (cB bj cV (xE N.G7 N.G2 b (e.mono (by decide)) (di.nil N.G3) gf (vv 0) (va2 (ar) (cD ff lR (by rfl) N.Dh PyProof.Rows.Boot.«tuple» (va1 (v4 N.G7 N.Hc (vv 0))))) (λδ β r c h=>by rw[(aK (aK aN0)) δ β r c h];rfl)) (ar))))
theorem gp:FnScope ["_law_script","_law_bag_here","_law_grid_here","_law_rowsums_here","_law_columnsums_here","_law_due","_law_net","_law_other"] ["_law_script"] (af nN):=fsc
noncomputable def oI(K:Frag)(a:Ad):G:=
  ag (aG 2 (aq (gy K a) (aa (ac 1) (ad))))
  (ag (aG 3 (aq (gi K a) (aa (ac 2) (ad))))
  (ag (aG 4 (aq (d8 K a) (aa (ac 2) (ad))))
  (ag (aG 5 (aq (jY K a) (aa (ac 3) (ad))))
  (ag (aG 6 (rN a.An ["row_list","column_list","pairs","counted"] (k7 K a) (aa (ae iT (aa (ac 3) (ad))) (aa (ae iT (aa (ac 4) (ad))) (ad))) [.non]))
  (ag (gIf (eA (eJ (aq (cc K a 5) (aa (fU a.An "dealings" (cU K a) (ac 6) ad []) (aa (ac 5) (ad)))))) (aF (fC (.bl false))) (gNil))
  (ag (aG 7 (ub a.An ["row_list","column_list","pairs","counted"] (k7 K a) (aa (ae iT (aa (ac 3) (ad))) (aa (f2 wt (ac 4) (f1 jX (fC (.int 1)))) (ad))) (aa (fC .non) (ad)) [.kw 0]))
  (aF (gO (aq (cc K a 5) (aa (fU a.An "dealings" (cU K a) (ac 7) ad []) (aa (ac 5) (ad)))) (aq (cc K a 5) (aa (fU a.An "tables" (dX K a) (ac 7) ad []) (aa (fU a.An "tables" (dX K a) (ac 6) ad []) (ad))))))))))))
theorem IT{f:Addr}{C:FuncData}(F:FunD K "law" "law" nN f C)(N:Fns K mg a)(T:∀β:Bg,β.ok->∃t,oI K a [none,some (.sh .bag),none,none,none,none,none,none] β=some (.rt (.bl true),t)):
  FnOk P w K mg base (CXE P w) 9 f C ["_law_script"] (DA K):=by
 have u:=AO P w base N
 have m:=wE P w base N
 have j:=sW P w base N
 have i:=oh P w base N
 have q:=yw P w base N
 have o:=GB P w base N
 have c:=oi P w base N
 have g:=yx P w base N
 have d:=rc P w base N
 refine F.okE (k:=8) gp (λvs H Q E h=>?_) (λx A outer s H vs Q E p h=>?_)
 ·obtain⟨a,ns,rfl,_⟩:=h
  rfl
 ·obtain⟨a1,ns,rfl,G,D,k⟩:=h
  have rest:PSs (cX (CXE P w) P w K mg base ["_law_script","_law_bag_here","_law_grid_here","_law_rowsums_here","_law_columnsums_here","_law_due","_law_net","_law_other"] "law" (af nN) f x A outer s H E) (cb nN).tail (tG K H (oI K a) (λ_=>E)):=aj (aM (psS 2 gp.nd (vc m p (va1 (vv 1)))))
   (aj (aM (psS 3 gp.nd (vc j p (va1 (vv 2)))))
   (aj (aM (psS 4 gp.nd (vc i p (va1 (vv 2)))))
   (aj (aM (psS 5 gp.nd (vc q p (va1 (vv 3)))))
   (aj (aM (psS 6 gp.nd (HK N.Gu o (p.mono (by decide)) (by rfl) N.G8 N.Gv gf (va2 (cD cY jy (by rfl) N.C7 PyProof.Rows.Boot.«list» (va1 (vv 3))) (cD cY jy (by rfl) N.C7 PyProof.Rows.Boot.«list» (va1 (vv 4)))) (λδ β r t h=>by rw[(aK (aK aN0)) δ β r t h];rfl))))
   (aj (cQ (rp (nB (vc g p (va2 (lF N.G7 N.Gz c (p.mono (by decide)) (di.nil N.G0) gf (vv 6) rfl) (vv 5))))) (ao (aL (aB (sj)))) (bM))
   (aj (aM (psS 7 gp.nd (EM N.Gu o (p.mono (by decide)) (by rfl) N.G8 N.Gx gf (va2 (cD cY jy (by rfl) N.C7 PyProof.Rows.Boot.«list» (va1 (vv 3))) (CT (vv 4) (HJ xG DL (ar)))) (EG (rn) (HI)) (aK (aK aN0)) (aK aN0) rfl)))
   (ao (aL (aB (CV (vc g p (va2 (lF N.G7 N.Gz c (p.mono (by decide)) (di.nil N.G0) gf (vv 7) rfl) (vv 5))) (CU (vc g p (va2 (lF N.G7 N.G5 d (p.mono (by decide)) (di.nil N.G6) gf (vv 7) rfl) (lF N.G7 N.G5 d (p.mono (by decide)) (di.nil N.G6) gf (vv 6) rfl))))))))))))))
  refine⟨_,bO (rest:=(cb nN).tail) (psS 1 gp.nd (pi u (p.mono (by decide)) rfl N.Fn N.Fm.kp N.Fo .nil dL (bh (pv 0) dW))) rest,?_⟩
  refine⟨_,rfl,a1,ns,rfl,G,λb l O y z I J=>?_⟩
  obtain⟨β,ok,B⟩:=HE (K:=K) (a:=a1) (n:=["_law_script","_law_bag_here","_law_grid_here","_law_rowsums_here","_law_columnsums_here","_law_due","_law_net","_law_other"].length-2) J y z I
  obtain⟨t,e⟩:=T β ok
  exact⟨_,_,_,β,_,t,B,e,λv R L s fr M=>by cases M.bl;exact k L⟩
end
end Law
set_option maxHeartbeats 4000000
namespace Law
open PySem L2 L2.Pu L2.Nt
section
variable{K:Frag}{a:Ad}{β:Bg}
noncomputable abbrev tN(l:List Nat):D:=tpI (nI l)
noncomputable abbrev eN(b:List Nat×Nat):D:= .tup [tN b.1,.int (b.2:Int)]
noncomputable abbrev frP(l:List Nat):D:= .lst (l.map λ_=>pD (0,40))
noncomputable def Nrw(r:List Nat):Prop:=1<=r.length/\r.length<=4/\r.sum<=40/\pr (r.map (·+1))<=500
theorem xC{f g:FD}{δ:Dn}{x y:D}{ds es:List D}(b:f δ β=some (.ok x,β))(c:g δ β=some (.ok y,β))(d:dJ x=some ds)(e:dJ y=some es):fZ (aa f (aa g ad)) δ β=some (.ok (cA ds es),β):=bE (ah b (ah c rfl)) (by
 unfold rZ
 simp only[d,e,Nz,Nu])
theorem rV{α:Type}{f g:α->D}:∀l:List α,cA (l.map f) (l.map g)=l.map λx=> .tup [f x,g x]
 |[]=>rfl
 |x::l=>Nq (_::·) (rV l)
theorem rg2N{lo n:Nat}(h:n<=1000)(b:lo<=1000):i8 [.int (lo:Int),.int ((n:Int)+1)]=some ((Mv (n+1-lo)).map λi=>D.int ((lo+i:Nat):Int)):=by
 have e:i8 [.int (lo:Int),.int ((n:Int)+1)]=some (aP lo ((n:Int)+1-lo).toNat):=by
  simp only[i8]
  rw[Mu (by simp only[MU,Ni];omega)]
 rw[e,show((n:Int)+1-lo).toNat=n+1-lo by omega]
 exact Nq some (Nk λi _=>by congr 1)
theorem addT{l:List Nat}{c:Nat}(h:l.length<=100):ck (tN l) (.tup [.int (c:Int)])=some (tN (l++[c])):=by
 cases l with
 |nil=>rfl
 |cons x l=>
  show(if _ then _ else _)=_
  rw[Mu (bG (by simp at h⊢;omega))]
  simp[tpI]
theorem HZ(l:List Nat)(k:Nat):bA [.lst (((nI l).map D.int).drop k)]=some (.int (((l.drop k).sum:Nat):Int)):=by
 rw[←Qc,←Qc];exact(dC _).trans (by rw[←gx])
theorem Ia{α:Type}(l:List α)(k:Nat):bA [.lst ((l.map λ_=>D.int 0).drop k)]=some (.int 0):=by
 have e:(l.map λ_=>D.int 0)=((l.map λ_=>(0:Int)).map D.int):=by rw[MK];rfl
 rw[e,←Qc,dC]
 congr 2
 have:∀m:List α,∀k,((m.map λ_=>(0:Int)).drop k).sum=0:=λm=>by
  induction m with
  |nil=>intro k;simp
  |cons x m ih=>intro k;cases k with
   |zero=>simpa using ih 0
   |succ k=>exact ih k
 exact this l k
noncomputable abbrev xf(r:List Nat)(c:Nat)(st:D)(b d e:Option Sl):Ds:=[some (.sh (tN r)),some (.sh (.int (c:Int))),some (.sh (frP r)),some (.sh (.lst (r.map λ_=> .int 0))),some (.sh (.lst ((nI r).map .int))),some (.sh st),b,d,e]
theorem Js{r:List Nat}{c:Nat}(u:Nrw r)(B:c<=40):hW K a [tN r,.int (c:Int),frP r] β=some (.ok (.lst ((aO r c).map tN)),β):=by
 obtain⟨_,C,hs,E⟩:=u
 have s:r.length<=sizeLine:=bG (by omega)
 have g:∀k,k<=r.length->(stg r c k).length<=sizeLine:=λk j=>bG (MS (uM r c k j) (MS (DJ r k) (by omega)))
 refine aV ?_
 unfold j9
 refine aJ (d:= .lst (r.map λ_=> .int 0)) (β1:=β) (bC r (λ_=>pD (0,40)) (λ_=> .int 0) rfl (λx _=>⟨_,rfl,rfl⟩) s) ?_
 refine aJ (d:= .lst ((nI r).map .int)) (β1:=β) ?_ ?_
 ·have:=bC (nv:=3) (caps:=[]) (it:=fZ (aa (ac 0) (aa (ac 2) (ad)))) (tg:=tgT (bf (tgC 0) (bf (tgT (bf (tgC 1) (bf (tgC 2) cP))) cP))) (f:=ae mS (aa (ac 0) (aa (ac 2) (ad)))) (δ:=vw (xf r c .non none none none)) (β:=β) r (λx=>D.tup [.int (x:Int),pD (0,40)]) (λx=> .int (x:Int)) (by
   rw[←rV]
   refine xC (x:=tN r) (y:=frP r) rfl rfl ?_ rfl
   show some _=some _
   rw[MK];rfl) (λx t=>⟨[some (.int (x:Int)),some (.int 0),some (.int 40)],rfl,ax rfl (IY.trans (by
    have:=f8 t
    rw[show min (x:Int) 40=x by omega]))⟩) s
  refine Eq.trans this ?_
  rw[MK];rfl
 refine aJ (d:= .lst ((stg r c 0).map eN)) (β1:=β) (ax (ah (ax (ah (ax rfl rfl) (ah rfl rfl)) mE) rfl) wO) ?_
 refine dI (ds:=aP 0 r.length) (β1:=β) (bE (ah (ax (z:= .int (r.length:Int)) rfl (by show some (D.int _)=_;rw[Mj,Mj])) rfl) (rg1 (by omega) (by omega))) (λk δ p=>β=p/\∃o m n,δ=xf r c (.lst ((stg r c k).map eN)) o m n) ⟨rfl,none,none,none,rfl⟩ ?_ ?_
 ·rintro k d δ _ hd ⟨rfl,o,m,n,rfl⟩
  obtain⟨j,rfl⟩:=DD hd
  have q:r[k]?=some r[k]:=Mn j
  refine⟨xf r c (.lst ((stg r c k).map eN)) (some (.sh (.int (k:Int)))) m n,rfl,?_⟩
  refine aJ (d:= .int 0) (β1:=β) (ax (ah (p9 rfl (x_2 rfl rfl rfl)) rfl) ((Nq (λl=>bA [.lst l]) (ui (k:=k+1))).trans (Ia r _))) ?_
  refine aJ (d:= .int (((r.drop (k+1)).sum:Nat):Int)) (β1:=β) (ax (ah (p9 rfl (x_2 rfl rfl rfl)) rfl) ((Nq (λl=>bA [.lst l]) (ui (k:=k+1))).trans (HZ r _))) ?_
  refine az (aJ (d:= .lst ((stg r c (k+1)).map eN)) (β1:=β) ?_ (bV ⟨rfl,_,_,_,rfl⟩))
  have e:(stg r c (k+1)).map eN=(stg r c k).flatMap λb=>(nxt r[k] (r.drop (k+1)).sum b).map eN:=by
   show((stg r c k).flatMap (nxt (r.getD k 0) (r.drop (k+1)).sum)).map eN=_
   rw[OM,Mp,q];rfl
  rw[e]
  refine HD (stg r c k) eN _ rfl (λb v=>⟨[some (tN b.1),some (.int (b.2:Int)),none,some (.lst (r.map λ_=> .int 0)),some (.int (k:Int)),some (.int (((r.drop (k+1)).sum:Nat):Int)),some (.lst ((nI r).map .int)),some (.int 0)],rfl,?_⟩) (by
   rw[←e,Mj];exact g (k+1) j)
  obtain⟨b2,b1⟩:=xT r c k b v
  have t:=f8 (NB j)
  unfold nxt
  refine(yD (Mv (min r[k] b.2+1-(b.2-(r.drop (k+1)).sum))) (λi=>D.int ((b.2-(r.drop (k+1)).sum+i:Nat):Int)) (λi=>eN (b.1++[b.2-(r.drop (k+1)).sum+i],b.2-(b.2-(r.drop (k+1)).sum+i))) ?_ ?_).trans (by rw[MK];rfl)
  ·refine bE (as:=[.int ((b.2-(r.drop (k+1)).sum:Nat):Int),.int ((min r[k] b.2:Nat)+1)]) (ah (ax (ah (x_2 rfl rfl (dF (d:= .int 0) ?_)) (ah (x_2 rfl rfl rfl) rfl)) (max2.trans ?_)) (ah (x_2 (x:= .int ((min r[k] b.2:Nat):Int)) (ax (ah (x_2 rfl rfl (dF (d:= .int (r[k]:Int)) ?_)) (ah (x_2 rfl rfl rfl) rfl)) (IY.trans ?_)) rfl rfl) rfl)) (rg2N (by omega) (by omega))
   ·rw[Mt,q];rfl
   ·rw[show max (0:Int) ((b.2:Int)-((r.drop (k+1)).sum:Nat))=((b.2-(r.drop (k+1)).sum:Nat):Int) by omega]
   ·rw[Mt,Mt,q];rfl
   ·rw[show min (r[k]:Int) ((b.2:Int)-0)=((min r[k] b.2:Nat):Int) by omega]
  ·refine λi w=>⟨[some (tN b.1),some (.int (b.2:Int)),some (.int ((b.2-(r.drop (k+1)).sum+i:Nat):Int)),some (.lst (r.map λ_=> .int 0)),some (.int (k:Int)),some (.int (((r.drop (k+1)).sum:Nat):Int)),some (.lst ((nI r).map .int)),some (.int 0)],rfl,ax (ah (x_2 rfl (ax rfl rfl) (addT (l:=b.1) (c:=b.2-(r.drop (k+1)).sum+i) (by omega))) (ah (x_2 rfl rfl rfl) rfl)) (mE.trans ?_)⟩
   have A:=MO.mp w
   show some (D.tup [_,.int _])=some (D.tup [_,.int _])
   rw[show(b.2:Int)-((b.2-(r.drop (k+1)).sum+i:Nat):Int)=((b.2-(b.2-(r.drop (k+1)).sum+i):Nat):Int) by omega]
 ·rintro δ _ ⟨rfl,o,m,n,rfl⟩
  rw[sM]
  have h:=ng (nv:=2) (caps:=[]) (it:=aQ (ac 5)) (tg:=tgT (bf (tgC 0) (bf (tgC 1) cP))) (tt:=fB (f2 (gb) (ac 1) (fC (.int 0)))) (f:=ac 0) (δ:=vwA (xf r c (.lst ((stg r c r.length).map eN)) o m n)) (β:=β) (stg r c r.length) eN (λb=>tN b.1) (λb=>decide ((b.2:Int)=0)) rfl (λb _=>⟨[some (tN b.1),some (.int (b.2:Int))],rfl,x_B (x_2 rfl rfl eq_int),λ_=>rfl⟩) (g _ (Mw _))
  refine az (bc h ⟨rfl,?_⟩)
  rw[←EV,MK];rfl
end
end Law
set_option maxHeartbeats 4000000
namespace Law
open PySem L2 L2.Pu L2.Nt
section
variable{K:Frag}{a:Ad}{β:Bg}
theorem uo{α:Type}{tg:TgF}{b:FL}{δ:Dn}{β:Bg}(u:α->D)(o:α->List D):∀(xs:List α),(∀x∈xs,∃δ1,tg (u x) δ=some δ1/\b δ1 β=some (.ok (o x),β))->cLp tg (λ_=>M.ret true) b (xs.map u) δ β=some (.ok (xs.flatMap o),β)
 |[],_=>rfl
 |x::xs,h=>by
  obtain⟨δ1,c,d⟩:=h x Mq
  have e:=uo u o xs λy f=>h y (Mo _ f)
  rw[ME,cLp]
  simp only[c,M.bind,M.ret,reduceIte,d,e,N3]
theorem ki{α:Type}{nv:Nat}{caps:List Nat}{it:FL}{tg:TgF}{b:FL}{c:List D->Option D}{δ:Dn}{β:Bg}{d:D}(xs:List α)(u:α->D)(o:α->List D)(e:it δ β=some (.ok (xs.map u),β))
  (f:∀x∈xs,∃δ1,tg (u x) (cSt nv caps δ)=some δ1/\b δ1 β=some (.ok (o x),β)) (g:c (xs.flatMap o)=some d):dy nv caps it tg (λ_=>M.ret true) b c δ β=some (.ok d,β):=by
 unfold dy
 rw[e]
 simp only[uo u o xs f,g,Nu]
theorem LJ{α:Type}{it:FL}{tg:TgF}{b:FL}{δ:Dn}{β:Bg}(xs:List α)(u:α->D)(o:α->List D)(c:it δ β=some (.ok (xs.map u),β))(d:∀x∈xs,∃δ1,tg (u x) δ=some δ1/\b δ1 β=some (.ok (o x),β)):cNx it tg (λ_=>M.ret true) b δ β=some (.ok (xs.flatMap o),β):=by
 unfold cNx M.bind
 rw[c]
 exact uo u o xs d
noncomputable abbrev frD(r:List Nat)(m:Nat):D:=fV (cN r.length m)
theorem L8(r:List Nat)(m:Nat):(gP (cN r.length m)).map D.lst=r.map λ_=>D.lst (MC m (pD (0,40))):=by
 simp[cN,Ob,SN]
theorem vN{r r0 cs:List Nat}{k:Nat}(b:Nrw r)(e:r.length=r0.length)(g:cs.sum<=40)(c:k<cs.length):bT K a [tN r,nL cs,frD r0 cs.length,.int (k:Int)] β=some (.ok (.lst ((aO r (cs.getD k 0)).map tN)),β):=by
 have f:cs[k]?=some (cs.getD k 0):=by rw[Mp,Mn c];rfl
 refine aV (az (bc (aw (ah rfl (ah (x_2 rfl rfl (dF (d:= .int (cs.getD k 0:Int)) (by rw[Mt,Mt,f];rfl))) (ah ?_ rfl))) (Js b (MS (f8 (MV f)) g))) ⟨rfl,rfl⟩))
 refine bC r (λ_=>D.lst (MC cs.length (pD (0,40)))) (λ_=>pD (0,40)) (eM rfl ?_) (λx _=>⟨[some (D.lst (MC cs.length (pD (0,40)))),some (.int (k:Int))],rfl,x_2 rfl rfl (dF ?_)⟩) (bG (by have:=b.2.1;omega))
 ·show some _=some _
  rw[←L8,e]
 ·rw[N1,Mu c]
theorem yS:∀{r v:List Nat},LeN v r->(r.zip v).map (λp=>D.int ((p.1:Int)-(p.2:Int)))=(nI (less r v)).map D.int
 |[],[],_=>rfl
 |x::r,y::v,h=>by
  have e:=yS h.2
  have b:=h.1
  show _::_=D.int ((x-y:Nat):Int)::(nI (less r v)).map D.int
  rw[←e]
  show D.int ((x:Int)-(y:Int))::_=_
  rw[show(x:Int)-(y:Int)=((x-y:Nat):Int) by omega];rfl
 |[],_::_,h=>h.elim
 |_::_,[],h=>h.elim
theorem DE{r v:List Nat}(h:LeN v r)(b:r.length<=4):cT K a [tN r,tN v] β=some (.ok (tN (less r v)),β):=by
 refine aV (az (bc (ax (ah (x:= .lst ((nI (less r v)).map D.int)) ?_ rfl) rfl) ⟨rfl,rfl⟩))
 rw[←yS h]
 refine bC (r.zip v) (λp=>D.tup [.int (p.1:Int),.int (p.2:Int)]) _ ?_ (λp _=>⟨[some (.int (p.1:Int)),some (.int (p.2:Int))],rfl,rfl⟩) (bG (by rw[List.length_zip];omega))
 rw[←rW (λx:Nat=>D.int (x:Int)) (λx:Nat=>D.int (x:Int))]
 refine xC (x:=tN r) (y:=tN v) rfl rfl ?_ ?_
 ·show some _=some _
  rw[MK];rfl
 ·show some _=some _
  rw[MK];rfl
structure Nt0 (rs cs:List Nat):Prop where
 nr:Nrw rs
 wd:pr (rs.dropLast.map (·+1))<63
 sm:rs.sum=cs.sum
 c1:1<=cs.length
 c6:cs.length<=6
theorem Nt0.at{rs cs r:List Nat}{k:Nat}(h:Nt0 rs cs)(b:k<=cs.length)(c:r∈lvl rs cs k):Nrw r/\r.length=rs.length/\r.sum<=40:=by
 have q:=(jx h.sm k b r c).1
 obtain⟨d,e,f,g⟩:=h.nr
 have q1:=q.len
 have q2:=q.sum
 have q3:=q.pr
 exact⟨⟨by omega,by omega,by omega,by omega⟩,q1,by omega⟩
noncomputable abbrev lvD(rs cs:List Nat)(k:Nat):D:= .lst ((lvl rs cs k).map tN)
theorem AS{rs cs:List Nat}(h:Nt0 rs cs):c9 K a [nL rs,nL cs,frD rs cs.length] β=some (.ok (.lst ((Mv (cs.length+1)).map (lvD rs cs))),β):=by
 have c6:=h.c6
 have b:cs.sum<=40:=by rw[←h.sm];exact h.nr.2.2.1
 refine aV ?_
 unfold fm
 refine aJ (d:=lvD rs cs 0) (β1:=β) (ax (ah (ax rfl rfl) rfl) wO) ?_
 refine vY (ds:=[lvD rs cs 0]) (β1:=β) rfl (show 1<=sizeLine by decide) ?_
 refine dI (ds:=aP 0 cs.length) (β1:=β) (bE (ah (ax rfl (f7 (r:=cs.length) (by rw[Mj,Mj]))) rfl) (rg1 (by omega) (by omega))) (λk δ c=>β=c/\∃e f,δ=[some (.sh (nL rs)),some (.sh (nL cs)),some (.sh (frD rs cs.length)),some (.sh (lvD rs cs k)),some (.own ((Mv (k+1)).map (lvD rs cs))),e,f]) ⟨rfl,none,none,rfl⟩ ?_ ?_
 ·rintro k d δ _ hd ⟨rfl,e,f,rfl⟩
  obtain⟨g,rfl⟩:=DD hd
  refine⟨_,rfl,aJ (d:=lvD rs cs (k+1)) (β1:=β) ?_ (v3 (cs:=(Mv (k+1)).map (lvD rs cs)) (d:=lvD rs cs (k+1)) rfl rfl (MP (show _<1000 by rw[Mj,MR];omega) (by decide)) (az (aJ (d:=lvD rs cs (k+1)) (β1:=β) rfl (bV ⟨rfl,some (.sh (.int (k:Int))),some (.sh (lvD rs cs (k+1))),?_⟩))))⟩
  ·refine ki (lvl rs cs k) tN (λr=>(aO r (cs.getD k 0)).map λv=>tN (less r v)) rfl (λr j=>⟨[some (tN r),none,some (nL cs),some (frD rs cs.length),some (.int (k:Int))],rfl,?_⟩) ?_
   ·obtain⟨i,l,_⟩:=h.at (by omega) j
    exact yD _ tN _ (eM (aw rfl (vN i l b g)) rfl) (λv m=>⟨[some (tN r),some (tN v),some (nL cs),some (frD rs cs.length),some (.int (k:Int))],rfl,aw rfl (DE (hX m) i.2.1)⟩)
   ·rw[←GG h.sm h.nr.1 h.wd g]
    unfold nxI
    rw[OM]
    simp only[MK]
    rfl
  ·rw[O4 (n:=k+1),M7];rfl
 ·rintro δ _ ⟨rfl,e,f,rfl⟩
  rw[sM]
  exact az (bc rfl ⟨rfl,rfl⟩)
end
end Law
set_option maxHeartbeats 4000000
namespace Law
open PySem L2 L2.Pu L2.Nt
section
variable{K:Frag}{a:Ad}{β:Bg}
theorem nz{i:Nat}{op:D->D->Option D}{f:FD}{c d z:D}{h:G}{δ:Ds}{β β1:Bg}{Q:Out->Bg->Prop}(b:(vw δ).getD i none=some c)(e:f (vw δ) β=some (.ok d,β1))(g:op c d=some z)(k:Gw h (δ.set i (some (.sh z))) β1 Q):Gw (ag (fq i op f) h) δ β Q:=ge (by unfold fq;simp only[b,e,g,Nu]) k
theorem ye{m i:Nat}{d:D}(h:(aP 2 m)[i]?=some d):i<m/\d= .int ((i+2:Nat):Int):=by
 obtain⟨x,b,rfl⟩:=ir (f:=λ(i:Nat)=>D.int (2+(i:Int))) (xs:=Mv m) h
 have c:=(MF.mp b).1
 rw[MR]at c
 rw[NS c]at b
 cases b
 exact⟨c,by congr 1;omega⟩
theorem yb(lo:Int)(m:Nat):(aP lo m).length=m:=by unfold aP;rw[Mj,MR]
theorem smN{n:Nat}(h:n<=2^11):n<2^1000:=fQ h (by decide)
theorem vB(n:Nat):facN (n-1+1)=facN n:=by cases n<;>rfl
theorem vy{n:Nat}(h:n<=40):eQ K a [.int (n:Int)] β=some (.ok (.int ((facN n:Nat):Int)),β):=by
 refine aV ?_
 unfold je
 refine aJ (d:= .int 1) (β1:=β) rfl ?_
 refine dI (ds:=aP 2 (n-1)) (β1:=β) (bE (ah rfl (ah (x_2 rfl rfl rfl) rfl)) (rg2 (by omega))) (λi δ b=>β=b/\∃c,δ=[some (.sh (.int (n:Int))),some (.sh (.int ((facN (i+1):Nat):Int))),c]) ⟨rfl,none,rfl⟩ ?_ ?_
 ·rintro i d δ _ hd ⟨rfl,c,rfl⟩
  obtain⟨e,rfl⟩:=ye hd
  exact⟨_,rfl,az (nz rfl rfl (tu (fQ (jD (by omega)) (by decide)) (smN (by omega))) (bV ⟨rfl,_,rfl⟩))⟩
 ·rintro δ _ ⟨rfl,c,rfl⟩
  rw[yb,vB]
  exact az (bc rfl ⟨rfl,rfl⟩)
theorem tL{n:Nat}(h:n<=40):dn K a [.int (n:Int)] β=some (.ok (.int ((facN n:Nat):Int)),β):=by
 refine aV ?_
 unfold gM
 refine aJ (d:= .int 1) (β1:=β) rfl ?_
 refine dI (ds:=aP 2 (n-1)) (β1:=β) (bE (ah rfl (ah (x_2 rfl rfl rfl) rfl)) (rg2 (by omega))) (λi δ b=>β=b/\∃c,δ=[some (.sh (.int (n:Int))),some (.sh (.int ((facN (i+1):Nat):Int))),c]) ⟨rfl,none,rfl⟩ ?_ ?_
 ·rintro i d δ _ hd ⟨rfl,c,rfl⟩
  obtain⟨e,rfl⟩:=ye hd
  exact⟨_,rfl,az (aJ (x_2 rfl rfl (tu (fQ (jD (by omega)) (by decide)) (smN (by omega)))) (bV ⟨rfl,_,rfl⟩))⟩
 ·rintro δ _ ⟨rfl,c,rfl⟩
  rw[yb,vB]
  exact az (bc rfl ⟨rfl,rfl⟩)
noncomputable def wayN(l:List Nat):Nat:=facN l.sum/pr (l.map facN)
theorem K2{l:List Nat}{d:D}(h:Sq l d):lI [d]=some (.int ((l.sum:Nat):Int)):=by
 rw[←gx]
 rcases h with rfl|rfl
 ·exact HY _
 ·exact HX _
theorem oo(l:List Nat):bA [nL l]=some (.int ((l.sum:Nat):Int)):=by rw[←gx];exact dC _
theorem rP{l:List Nat}{i n:Nat}(h:l.sum<=40)(hn:l[i]?=some n):n<=40:=MS (f8 (MV hn)) h
theorem EF{l:List Nat}{cd:D}(hs:Sq l cd)(h:l.sum<=40):ow K a [cd] β=some (.ok (.int ((wayN l:Nat):Int)),β):=by
 refine aV ?_
 unfold tY
 refine dI (ds:=(nI l).map D.int) (β1:=β) (eM rfl hs.seq) (λi δ c=>β=c/\∃b,δ=[some (.sh cd),b,none]) ⟨rfl,none,rfl⟩ ?_ ?_
 ·rintro i d δ _ hd ⟨rfl,b,rfl⟩
  obtain⟨n,hn,rfl⟩:=ou hd
  exact⟨_,rfl,az (rj (β1:=β) (x_B (x_2 rfl rfl (by show some (D.bl (decide ((n:Int)<0)))=_;rw[M5 (by omega)]))) (d5 (bV ⟨rfl,_,rfl⟩)))⟩
 rintro δ _ ⟨rfl,b,rfl⟩
 refine aJ (d:= .int ((facN l.sum:Nat):Int)) (β1:=β) (aw (ah (ax rfl (K2 hs)) rfl) (vy h)) ?_
 refine dI (ds:=(nI l).map D.int) (β1:=β) (eM rfl hs.seq) (λi δ c=>β=c/\∃b,δ=[some (.sh cd),b,some (.sh (.int ((facN l.sum/pr ((l.take i).map facN):Nat):Int)))]) ⟨rfl,b,by rw[List.take_zero,Oj,Iw,Nat.div_one];rfl⟩ ?_ ?_
 ·rintro i d δ _ hd ⟨rfl,b,rfl⟩
  obtain⟨n,hn,rfl⟩:=ou hd
  refine⟨_,rfl,az (nz rfl (aw rfl (vy (rP h hn))) (DW (l3 n) (fQ (jD (rP h hn)) (by decide))) (bV ⟨rfl,some (.sh (.int (n:Int))),?_⟩))⟩
  rw[lN hn,Uf];rfl
 ·rintro δ _ ⟨rfl,b,rfl⟩
  rw[kY,Po]
  exact az (bc rfl ⟨rfl,rfl⟩)
theorem vA{l:List Nat}{i:Nat}(h:l.sum<=40)(c:l.length<=4):pr ((l.take i).map facN)<=2^640:=by
 refine MS (Lz (m:=160) λx b=>?_) (RN (by decide) ?_)
 ·obtain⟨n,hn,rfl⟩:=MN.mp b
  exact jD (MS (f8 (UE hn)) h)
 ·rw[Mj,OL];omega
theorem AX{l:List Nat}(h:l.sum<=40)(e:l.length<=4):jY K a [nL l] β=some (.ok (.int ((wayN l:Nat):Int)),β):=by
 refine aV ?_
 unfold m4
 refine aJ (d:= .int 1) (β1:=β) rfl ?_
 refine dI (ds:=(nI l).map D.int) (β1:=β) rfl (λi δ b=>β=b/\∃c,δ=[some (.sh (nL l)),some (.sh (.int ((pr ((l.take i).map facN):Nat):Int))),c]) ⟨rfl,none,rfl⟩ ?_ ?_
 ·rintro i d δ _ hd ⟨rfl,c,rfl⟩
  obtain⟨n,hn,rfl⟩:=ou hd
  refine⟨_,rfl,az (aJ (x_2 rfl (aw rfl (tL (rP h hn))) (tu (fQ (vA h e) (by decide)) (fQ (jD (rP h hn)) (by decide)))) (bV ⟨rfl,some (.sh (.int (n:Int))),?_⟩))⟩
  rw[lN hn];rfl
 ·rintro δ _ ⟨rfl,c,rfl⟩
  rw[kY,Po]
  have f:=vA (i:=l.length) h e
  rw[Po]at f
  exact az (bc (x_2 (aw (ah (ax rfl (oo l)) rfl) (tL h)) rfl (DW (sQ λx g=>by obtain⟨n,_,rfl⟩:=MN.mp g;exact l3 n) (fQ f (by decide)))) ⟨rfl,rfl⟩)
theorem xD{l:List Nat}(h:l.sum<=40):wayN l<=2^160:=MS (SW _ _) (jD h)
theorem sd(l:List Nat):wayN l=mu l:=IX l
theorem LL{l:List Nat}(h:l.sum<=40):mu l<=2^160:=by rw[←sd];exact xD h
theorem DB{α:Type}{l:List α}{i:Nat}{x:α}(f:α->Nat)(h:l[i]?=some x):L2.Nt.sm (l.take (i+1)) f=L2.Nt.sm (l.take i) f+f x:=by
 rw[Vv,h,sB];rfl
noncomputable abbrev cv(cs:List Nat)(r:List Nat):D:= .tup [.int ((tabs r cs:Nat):Int),.int ((dls r cs:Nat):Int)]
noncomputable abbrev dcL(rs cs:List Nat)(k:Nat):D:= .dct false ((lvl rs cs k).map λr=>((0:Int),nI r)) ((lvl rs cs k).map (cv (cs.drop k)))
theorem yP{f:List Nat->D}{u:List Nat}:∀{L:List (List Nat)},u∈L->lkD (L.map λr=>((0:Int),nI r)) (L.map f) (0,nI u)=some (f u)
 |r::L,h=>by
  unfold lkD
  rw[ME,ME,OV,Qo]
  by_cases q:r=u
  ·rw[q,MX rfl];rfl
  ·rw[M5 λe=>q (oq (Su.mp e).2)]
   exact yP ((MH.mp h).resolve_left λe=>q e.symm)
theorem Jv{rs cs u:List Nat}{k:Nat}(h:u∈lvl rs cs k):xj (dcL rs cs k) (tN u)=some (cv (cs.drop k) u):=by
 show(j4 false (dK false (0,nI u))).bind _=_
 rw[vi λ_=>rfl]
 exact yP h
theorem wI{rs cs r:List Nat}{k:Nat}(h:Nt0 rs cs)(c:k<cs.length)(o:r∈lvl rs cs k):eZ K a [tN r,.lst ((aO r (cs.getD k 0)).map tN),dcL rs cs (k+1)] β=some (.ok (cv (cs.drop k) r),β):=by
 obtain⟨p,s,q⟩:=h.at (by omega) o
 refine aV ?_
 unfold gL
 refine aJ (d:= .int 0) (β1:=β) rfl (aJ (d:= .int 0) (β1:=β) rfl ?_)
 refine dI (ds:=(aO r (cs.getD k 0)).map tN) (β1:=β) rfl (λi δ e=>β=e/\∃f g j,δ=[some (.sh (tN r)),some (.sh (.lst ((aO r (cs.getD k 0)).map tN))),some (.sh (dcL rs cs (k+1))),some (.sh (.int ((L2.Nt.sm ((aO r (cs.getD k 0)).take i) λv=>tabs (less r v) (cs.drop (k+1)):Nat):Int))),some (.sh (.int ((L2.Nt.sm ((aO r (cs.getD k 0)).take i) λv=>mu v*dls (less r v) (cs.drop (k+1)):Nat):Int))),f,g,j]) ⟨rfl,none,none,none,rfl⟩ ?_ ?_
 ·rintro i d δ _ hd ⟨rfl,f,g,j,rfl⟩
  obtain⟨v,l,rfl⟩:=ir hd
  have hm:=MV l
  have m:less r v∈lvl rs cs (k+1):=pA.mpr ⟨r,o,v,hm,rfl⟩
  have hs:=(jx h.sm (k+1) c _ m).2
  have b:v.sum<=40:=MS (hX hm).sum q
  have n:=(h.at c m).2.2
  refine⟨_,rfl,Le (d:=cv (cs.drop (k+1)) (less r v)) (β1:=β) (x_2 rfl (aw rfl (DE (hX hm) p.2.1)) (Jv m)) rfl (nz rfl rfl rfl (az (nz rfl (x_2 (aw rfl (EF (.inr rfl) b)) rfl (tu (fQ (xD b) (by decide)) (by rw[uc _ _ hs];exact fQ (LL n) (by decide)))) rfl (bV ⟨rfl,some (.sh (tN v)),some (.sh (.int ((tabs (less r v) (cs.drop (k+1)):Nat):Int))),some (.sh (.int ((dls (less r v) (cs.drop (k+1)):Nat):Int))),?_⟩))))⟩
  rw[DB _ l,DB _ l,sd,O7,O7];rfl
 ·rintro δ _ ⟨rfl,f,g,j,rfl⟩
  rw[Mj,Po]
  refine az (bc (ax rfl mE) ⟨rfl,?_⟩)
  rw[qI c];rfl
theorem vX{f g:FD}{δ:Dn}{k v:D}(b:f δ β=some (.ok k,β))(c:g δ β=some (.ok v,β)):pZ f g δ β=some (.ok [.tup [k,v]],β):=by
 unfold pZ M.bind
 rw[b]
 simp only[c,M.ret]
theorem t8{α b:Type}(f:α->b)(l:List α):(l.flatMap λx=>[f x])=l.map f:=by
 induction l with
 |nil=>rfl
 |cons x l ih=>rw[N3,ih];rfl
theorem yM{rs cs:List Nat}(h:Nt0 rs cs){k:Nat}(b:k<=cs.length):(lvl rs cs k).length<=62:=by
 have:=GL h.sm b
 have:=h.wd
 omega
theorem dk0{rs cs:List Nat}(h:Nt0 rs cs){k:Nat}(b:k<=cs.length){os:List D}(e:os=(lvl rs cs k).map λr=> .tup [tN r,cv (cs.drop k) r]):gQ false os=some (dcL rs cs k):=by
 refine(vK (kvs:=(lvl rs cs k).map λr=>(((0:Int),nI r),cv (cs.drop k) r)) ⟨?_,?_,?_,?_⟩).trans ?_
 ·rw[e,MK];rfl
 ·rw[MK];exact yJ (λx y q=>oq (Su.mp q).2) (tJ rs cs k)
 ·rw[Mj];exact bG (by have:=yM h b;omega)
 ·rintro p c _
  obtain⟨r,_,rfl⟩:=MN.mp c
  rfl
 ·rw[MK,MK];rfl
theorem Lu{n:Nat}(h:n<=1000):nU [.int (n:Int)]=some (g0 n):=by
 simp only[nU]
 rw[Mu (by simp only[MU,Ni];omega),NG]
theorem Lw{n i:Nat}{d:D}(h:(g0 n)[i]?=some d):i<n/\d= .int ((n-1-i:Nat):Int):=by
 obtain⟨x,b,rfl⟩:=ir (f:=λ(i:Nat)=>D.int ((n:Int)-1-i)) (xs:=Mv n) h
 have c:=(MF.mp b).1
 rw[MR]at c
 rw[NS c]at b
 cases b
 exact⟨c,by congr 1;omega⟩
theorem yd{f:Nat->D}{n k:Nat}(h:k<n):((Mv n).map f)[k]?=some (f k):=by rw[Mt,NS h];rfl
theorem zk{f:Nat->D}:∀n j,dh j ((List.range' j n).map f)=(List.range' j n).map λk=> .tup [.int (k:Int),f k]
 |0,_=>rfl
 |n+1,j=>by
  rw[List.range'_succ,ME,ME,←zk n (j+1)];rfl
theorem FH{f:Nat->D}(m:Nat):((Mv (m+1)).map λj=>f (m-j)).reverse=(Mv (m+1)).map f:=Pk (by simp) λi b c=>by
 simp only[Qq,Mj,MR]at b
 simp only[UD,Pl,PP,Mj,MR]
 congr 1
 omega
noncomputable abbrev K0(rs cs:List Nat):List D:=(Mv (cs.length+1)).flatMap λk=>(lvl rs cs k).map (cv (cs.drop k))
noncomputable abbrev xl(rs cs:List Nat):D:= .dct true (kys rs cs (cs.length+1)) (K0 rs cs)
theorem dk1{rs cs:List Nat}(h:Nt0 rs cs){os:List D}(e:os=(Mv (cs.length+1)).flatMap λ(k:Nat)=>(lvl rs cs k).map λr=> .tup [.tup [.int (k:Int),tN r],cv (cs.drop k) r]):gQ true os=some (xl rs cs):=by
 refine(vK (kvs:=(Mv (cs.length+1)).flatMap λ(k:Nat)=>(lvl rs cs k).map λr=>(((k:Int),nI r),cv (cs.drop k) r)) ⟨?_,?_,?_,?_⟩).trans ?_
 ·rw[e,OM];simp only[MK];rfl
 ·have:=yU rs cs (cs.length+1)
  unfold kys at this
  rw[OM];simp only[MK];exact this
 ·refine bG (MS (lZ (n:=62) λk b=>?_) (by have:=h.c6;rw[MR];omega))
  have:=MO.mp b
  rw[Mj];exact yM h (by omega)
 ·rintro p _ q
  cases q
 ·unfold xl kys
  rw[OM,OM];simp only[MK];rfl
theorem xk{rs cs:List Nat}(h:Nt0 rs cs):dM K a [nL rs,nL cs,frD rs cs.length] β=some (.ok (xl rs cs),β):=by
 have c6:=h.c6
 have b:cs.sum<=40:=by rw[←h.sm];exact h.nr.2.2.1
 refine aV ?_
 unfold fS
 refine aJ (d:= .lst ((Mv (cs.length+1)).map (lvD rs cs))) (β1:=β) (aw rfl (AS h)) ?_
 refine aJ (d:= .int (cs.length:Int)) (β1:=β) (ax rfl (f7 (by rw[Mj,Mj]))) ?_
 refine aJ (d:=dcL rs cs cs.length) (β1:=β) (ki (lvl rs cs cs.length) tN (λr=>[.tup [tN r,.tup [.int 1,.int 1]]]) (eM (x_2 rfl rfl (dF (yd (by omega)))) rfl) (λr _=>⟨[some (tN r)],rfl,vX rfl (ax rfl mE)⟩) (dk0 h (Mw _) (by rw[t8,List.drop_length];rfl))) ?_
 refine vY (ds:=[dcL rs cs cs.length]) (β1:=β) rfl (show 1<=sizeLine by decide) ?_
 refine dI (ds:=g0 cs.length) (β1:=β) (bE rfl (Lu (by omega))) (λi δ c=>β=c/\∃e f,δ=[some (.sh (nL rs)),some (.sh (nL cs)),some (.sh (frD rs cs.length)),some (.sh (.lst ((Mv (cs.length+1)).map (lvD rs cs)))),some (.sh (.int (cs.length:Int))),some (.sh (dcL rs cs (cs.length-i))),some (.own ((Mv (i+1)).map λj=>dcL rs cs (cs.length-j))),e,f]) ⟨rfl,none,none,rfl⟩ ?_ ?_
 ·rintro i d δ _ hd ⟨rfl,e,f,rfl⟩
  obtain⟨p,rfl⟩:=Lw hd
  have l:cs.length-1-i<cs.length:=by omega
  have o:cs.length-i=(cs.length-1-i)+1:=by omega
  have m:cs.length-(i+1)=cs.length-1-i:=by omega
  rw[o]
  refine⟨_,rfl,aJ (d:=dcL rs cs (cs.length-1-i+1)) (β1:=β) rfl (aJ (d:=dcL rs cs (cs.length-1-i)) (β1:=β) (ki (lvl rs cs (cs.length-1-i)) tN (λr=>[.tup [tN r,cv (cs.drop (cs.length-1-i)) r]]) (eM (x_2 rfl rfl (dF (yd (by omega)))) rfl) (λr g=>⟨[some (tN r),some (nL cs),some (frD rs cs.length),some (.int ((cs.length-1-i:Nat):Int)),some (dcL rs cs (cs.length-1-i+1))],rfl,vX rfl (aw (ah rfl (ah (aw rfl (vN (h.at (by omega) g).1 (h.at (by omega) g).2.1 b l)) rfl)) (wI h l g))⟩) (dk0 h (by omega) (t8 _ _))) (az (v3 (cs:=(Mv (i+1)).map λj=>dcL rs cs (cs.length-j)) (d:=dcL rs cs (cs.length-1-i)) rfl rfl (MP (show _<1000 by rw[Mj,MR];omega) (by decide)) (bV ⟨rfl,some (.sh (.int ((cs.length-1-i:Nat):Int))),some (.sh (dcL rs cs (cs.length-1-i+1))),?_⟩))))⟩
  rw[O4 (n:=i+1),M7,m]
  show _=[_,_,_,_,_,_,some (Sl.own (_++[dcL rs cs (cs.length-(i+1))])),_,_]
  rw[m];rfl
 ·rintro δ _ ⟨rfl,e,f,rfl⟩
  rw[show(g0 cs.length).length=cs.length by unfold g0;rw[Mj,MR]]
  refine az (bc (ki (Mv (cs.length+1)) (λk=> .tup [.int (k:Int),dcL rs cs k]) (λ(k:Nat)=>(lvl rs cs k).map λr=> .tup [.tup [.int (k:Int),tN r],cv (cs.drop k) r]) (bE (ah (x_2 (y:= .int (-1)) rfl rfl rfl) rfl) ?_) (λk _=>⟨[some (.int (k:Int)),some (dcL rs cs k),none,none],rfl,?_⟩) (dk1 h rfl)) ⟨rfl,rfl⟩)
  ·show some (dh 0 _)=_
   rw[FH,List.range_eq_range',zk]
  ·refine(LJ (lvl rs cs k) (λr=> .tup [tN r,cv (cs.drop k) r]) (λr=>[.tup [.tup [.int (k:Int),tN r],cv (cs.drop k) r]]) ?_ (λr _=>⟨[some (.int (k:Int)),some (dcL rs cs k),some (tN r),some (cv (cs.drop k) r)],rfl,vX (ax rfl mE) rfl⟩)).trans (by rw[t8])
   show some (Ol (Sn _ _ _),β)=_
   rw[List.zipWith_map_left,List.zipWith_map_right,List.zipWith_self];rfl
end
end Law
set_option maxHeartbeats 4000000
namespace Law
open PySem L2 L2.Pu L2.Nt
section
variable{K:Frag}{a:Ad}{β:Bg}
theorem tp_e{r c:Nat}{rows:LI}(sh:Shp r c rows)(r0:1<=r)(r1:r<=30)(c1:c<=30){δ:Dn}(h:δ.getD 0 none=some (cM rows)):aI 1 [0] (aT cI (aa (ae bp (aa (f2 ixD (ac 0) (fC (.int 0))) (ad))) (ad))) (tgC 0) (λ_=>M.ret true) (cEm (aI 1 [0] (aQ (ac 1)) (tgC 0) (λ_=>M.ret true) (cEm (f2 ixD (ac 0) (ac 1))))) δ β=some (.ok (cM (tp c rows)),β):=by
 obtain⟨b,d,g⟩:=sh.at (i:=0) (by omega)
 have k:(gI rows)[0]?=some (b.map D.int):=by rw[Mt,d];rfl
 have o:ae bp (aa (f2 ixD (ac 0) (fC (.int 0))) (ad)) δ β=some (.ok (.int (c:Int)),β):=ax (ah (x:= .lst (b.map D.int)) (x_2 (x:=cM rows) (CQ h) rfl (wW k)) rfl) (f7 (by rw[Mj,g]))
 have e:=bC (nv:=1) (caps:=[0]) (it:=aT cI (aa (ae bp (aa (f2 ixD (ac 0) (fC (.int 0))) (ad))) (ad))) (tg:=tgC 0) (f:=aI 1 [0] (aQ (ac 1)) (tgC 0) (λ_=>M.ret true) (cEm (f2 ixD (ac 0) (ac 1)))) (δ:=δ) (β:=β) (Mv c) (λi=>D.int (0+(i:Int))) (λj=>D.lst (rows.map λrow=>D.int (row.getD j 0))) (bE (ds:=aP 0 c) (ah o rfl) (rg1 (by omega) (by omega))) ?_ (bG (by rw[MR];omega))
 ·rw[e]
  unfold tp tpA
  show _=some (Ol (D.lst (Qk D.lst (Qk _ (Qk _ _)))),β)
  rw[MK,MK]
  congr 4
  refine Nk λj _=>?_
  show _=D.lst ((rows.map λrow=>row.getD j 0).map D.int)
  rw[MK];rfl
 ·intro j p
  have q:=MO.mp p
  have m:cSt 1 [0] δ=[none,some (cM rows)]:=by
   unfold cSt
   simp only[ME,Oj,h];rfl
  refine⟨[some (.int (0+(j:Int))),some (cM rows)],by rw[m];rfl,?_⟩
  have hm:(gI rows).map D.lst=rows.map λrow=>D.lst (row.map D.int):=by rw[MK];rfl
  refine bC (nv:=1) (caps:=[0]) rows (λrow=>D.lst (row.map D.int)) _ (by show some (Ol ((gI rows).map D.lst),β)=_;rw[hm]) (λrow s=>⟨_,rfl,x_2 (x:= .lst (row.map D.int)) (y:= .int (0+(j:Int))) rfl rfl ?_⟩) (bG (by rw[sh.1];omega))
  have t:=sh.2 row s
  obtain⟨x,n⟩:=DY (l:=row) (i:=j) (by omega)
  rw[Pq]
  refine dF ?_
  rw[Mt,n,Mp,n];rfl
theorem wN{r c:Nat}{rows:LI}(sh:Shp r c rows)(r0:1<=r)(r1:r<=30)(c1:c<=30):hG K a [cM rows] β=some (.ok (cM (tp c rows)),β):=
 aV (az (bc (tp_e sh r0 r1 c1 rfl) ⟨rfl,rfl⟩))
noncomputable abbrev iL(xs:List Int):D:= .lst (xs.map D.int)
theorem xS{rows:LI}(h:rows.length<=1000){f:FD}{δ:Dn}(e:f δ β=some (.ok (cM rows),β)):aI 1 [] (aQ f) (tgC 0) (λ_=>M.ret true) (cEm (ae bA (aa (ac 0) (ad)))) δ β=some (.ok (iL (rows.map OO)),β):=by
 have hm:(gI rows).map D.lst=rows.map λrow=>D.lst (row.map D.int):=by rw[MK];rfl
 have:=bC (nv:=1) (caps:=[]) (it:=aQ f) (tg:=tgC 0) (f:=ae bA (aa (ac 0) (ad))) (δ:=δ) (β:=β) rows (λrow=>D.lst (row.map D.int)) (λrow=>D.int row.sum) (by rw[←hm];exact eM e rfl) (λrow _=>⟨_,rfl,ax rfl (dC row)⟩) (bG h)
 rw[this]
 show _=some (Ol (D.lst ((rows.map OO).map D.int)),β)
 rw[MK];rfl
theorem wr{rows:LI}(h:rows.length<=1000):gi K a [cM rows] β=some (.ok (iL (rows.map OO)),β):=
 aV (az (bc (xS h rfl) ⟨rfl,rfl⟩))
theorem rf{r c:Nat}{rows:LI}(sh:Shp r c rows)(r0:1<=r)(r1:r<=30)(c1:c<=30):d8 K a [cM rows] β=some (.ok (iL ((tp c rows).map OO)),β):=
 aV (az (bc (xS (by rw[(uI (d:=(0:Int)) (c:=c) sh.1).1];omega) (aw rfl (wN sh r0 r1 c1))) ⟨rfl,rfl⟩))
end
section
theorem zJ:∀(xs:List Int),S xs.length (λj=>xs.getD j 0)=xs.sum:=λxs=>by
 unfold S
 congr 1
 refine Pk (by simp) λi b a=>?_
 rw[Pl,PP,Mp,Mn a];rfl
end
section
variable{K:Frag}{a:Ad}{β:Bg}
theorem lY{r c:Nat}{d:D}(e:r<=1000)(g:c<=1000):ox K a [.int (r:Int),.int (c:Int),d] β=some (.ok (lG (MC r (MC c d))),β):=by
 have b:∀x:Nat,aI 1 [1] (aT cI (aa (ac 2) (ad))) (tgC 0) (λ_=>M.ret true) (cEm (ac 1)) [some (.int (0+(x:Int))),some d,some (.int (c:Int))] β=some (.ok (.lst (MC c d)),β):=λx=>by
  have h:=bC (nv:=1) (caps:=[1]) (it:=aT cI (aa (ac 2) (ad))) (tg:=tgC 0) (f:=ac 1) (δ:=[some (.int (0+(x:Int))),some d,some (.int (c:Int))]) (β:=β) (Mv c) (λi=>D.int (0+(i:Int))) (λ_=>d)
   (bE rfl (rg1 (by omega) (by omega))) (λx _=>⟨_,rfl,rfl⟩) (bG (by rw[MR];omega))
  rw[iP]at h
  exact h
 have h:=bC (nv:=1) (caps:=[2,1]) (it:=aT cI (aa (ac 0) (ad))) (tg:=tgC 0) (f:=aI 1 [1] (aT cI (aa (ac 2) (ad))) (tgC 0) (λ_=>M.ret true) (cEm (ac 1))) (δ:=[some (.int (r:Int)),some (.int (c:Int)),some d]) (β:=β) (Mv r) (λi=>D.int (0+(i:Int))) (λ_=> .lst (MC c d))
  (bE rfl (rg1 (by omega) (by omega))) (λx _=>⟨_,rfl,b x⟩) (bG (by rw[MR];omega))
 rw[iP]at h
 refine aV (az (bc h ⟨rfl,?_⟩))
 simp only[lG,Ob]
theorem yH{rs:List Int}{b:List Nat}(c:∀i∈b,i<rs.length)(d:b.length<=1000):iR K a [iL rs,nL b] β=some (.ok (.int (oj rs b)),β):=by
 refine aV (az (bc (ax (ah (x:=iL (b.map λi=>rs.getD i 0)) ?_ rfl) (dC _)) ⟨rfl,rfl⟩))
 have:=bC (nv:=1) (caps:=[0]) (it:=aQ (ac 1)) (tg:=tgC 0) (f:=f2 ixD (ac 1) (ac 0)) (δ:=[some (iL rs),some (nL b)]) (β:=β) b (λi=>D.int (i:Int)) (λi=>D.int (rs.getD i 0)) (by show some (Ol ((nI b).map D.int),β)=_;rw[MK];rfl) (λi e=>⟨_,rfl,x_2 rfl rfl (DP (c i e))⟩) (bG d)
 refine this.trans ?_
 show _=some (Ol (D.lst ((b.map λi=>rs.getD i 0).map D.int)),β)
 rw[MK];rfl
theorem qz{r c j:Nat}{cs:List Int}{b:LP}{g:List Nat}(sh:Shp r c b)(n:cs.length=c)(k:r<=1000)(l:j<c):bP K a [iL cs,fV b,nL g,.int (j:Int)] β=some (.ok (.int (d9 cs b r g j)),β):=by
 refine aV ?_
 unfold gJ
 refine aJ (d:=iL (((Mv r).filter λi=>!decide (i∈g)).map λi=>(bI b i j).1)) (β1:=β) ?_ ?_
 ·have m:((gP b).map D.lst).length=r:=by rw[Mj,Mj,sh.1]
  have:=ng (nv:=2) (caps:=[2,3]) (it:=rG (aa (ac 1) ad)) (tg:=tgT (bf (tgC 0) (bf (tgC 1) cP))) (tt:=fB (f2 (inD true) (ac 0) (ac 2))) (f:=f2 ixD (f2 ixD (ac 1) (ac 3)) (fC (.int 0))) (δ:=[some (iL cs),some (fV b),some (nL g),some (.int (j:Int)),none]) (β:=β) (Mv r) (λi=>D.tup [.int (i:Int),.lst ((b.getD i []).map pD)]) (λi=>D.int (bI b i j).1) (λi=>!decide (i∈g)) ?_ (λi h=>⟨_,rfl,x_B (x_2 rfl rfl tW),λ_=>x_2 (x_2 rfl rfl (tQ sh (MO.mp h) l).2) rfl Jj⟩) (bG (by rw[MR];exact k))
  ·refine this.trans ?_
   show _=some (Ol (D.lst ((((Mv r).filter λi=>!decide (i∈g)).map λi=>(bI b i j).1).map D.int)),β)
   rw[MK];rfl
  ·show some (Ol (dh 0 ((gP b).map D.lst)),β)=_
   rw[mB,m]
   congr 3
   refine Nk λi h=>?_
   rw[OG]
   congr 3
   obtain⟨e,_⟩:=sh.getD (MO.mp h)
   rw[Mp,Mt,Mt,e];rfl
 refine az (bc (x_2 (x:= .int (cs.getD j 0)) (x_2 rfl rfl (DP (by omega))) (ax rfl (dC _)) rfl) ⟨rfl,?_⟩)
 have e:(Mv r).map (λi=>if i∈g then(0:Int)else(bI b i j).1)=(Mv r).map (λx=>if(!decide (x∈g))=true then(bI b x j).1 else 0):=Nk λi _=>by by_cases q:i∈g<;>simp[q]
 unfold d9 S
 rw[vx,e]
theorem qS{r c j:Nat}{b:LP}{d:List Nat}(sh:Shp r c b)(e:∀i∈d,i<r)(k:d.length<=1000)(g:j<c):bQ K a [fV b,nL d,.int (j:Int)] β=some (.ok (.int (fF b d j)),β):=by
 refine aV (az (bc (ax (ah (x:=iL (d.map λi=>(bI b i j).2)) ?_ rfl) (dC _)) ⟨rfl,rfl⟩))
 have:=bC (nv:=1) (caps:=[0,2]) (it:=aQ (ac 1)) (tg:=tgC 0) (f:=f2 ixD (f2 ixD (f2 ixD (ac 1) (ac 0)) (ac 2)) (fC (.int 1))) (δ:=[some (fV b),some (nL d),some (.int (j:Int))]) (β:=β) d (λi=>D.int (i:Int)) (λi=>D.int (bI b i j).2) (by show some (Ol ((nI d).map D.int),β)=_;rw[MK];rfl) (λi h=>⟨_,rfl,x_2 (x_2 (x_2 rfl rfl (tQ sh (e i h) g).1) rfl (tQ sh (e i h) g).2) rfl Ji⟩) (bG k)
 refine this.trans ?_
 show _=some (Ol (D.lst ((d.map λi=>(bI b i j).2).map D.int)),β)
 rw[MK];rfl
theorem ya{r c:Nat}{cs:List Int}{b:LP}{d e:List Nat}(sh:Shp r c b)(k:cs.length=c)(l:r<=1000)(h:c<=1000)(m:∀i∈d,i<r)(n:d.length<=1000):iQ K a [iL cs,fV b,nL d,nL e] β=some (.ok (.int (rC cs b r c d e)),β):=by
 refine aV (az (bc (ax (ah (x:=iL ((Mv c).map λj=>if j∈e then d9 cs b r d j else fF b d j)) ?_ rfl) (dC _)) ⟨rfl,rfl⟩))
 have:=bC (nv:=1) (caps:=[3,0,1,2]) (it:=aT cI (aa (ae bp (aa (ac 0) (ad))) (ad))) (tg:=tgC 0) (f:=fIf (fB (f2 (inD false) (ac 0) (ac 1))) (aq (bP K a) (aa (ac 2) (aa (ac 3) (aa (ac 4) (aa (ac 0) (ad)))))) (aq (bQ K a) (aa (ac 3) (aa (ac 4) (aa (ac 0) (ad)))))) (δ:=[some (iL cs),some (fV b),some (nL d),some (nL e)]) (β:=β) (Mv c) (λj=>D.int (0+(j:Int))) (λj=>D.int (if j∈e then d9 cs b r d j else fF b d j)) (bE (ds:=aP 0 c) (ah (ax rfl (f7 (by rw[Mj,k]))) rfl) (rg1 (by omega) (by omega))) (λj o=>⟨[some (.int (j:Int)),some (nL e),some (iL cs),some (fV b),some (nL d)],by rw[Pq];rfl,?_⟩) (bG (by rw[MR];exact h))
 ·refine this.trans ?_
  show _=some (Ol (D.lst (((Mv c).map λj=>if j∈e then d9 cs b r d j else fF b d j).map D.int)),β)
  rw[MK];rfl
 ·have g:=MO.mp o
  by_cases q:j∈e
  ·rw[Mu q]
   exact K8 (x_B (x_2 rfl rfl (by rw[tW];simp[q]))) (aw rfl (qz sh k l g))
  ·rw[Mr q]
   exact K9 (x_B (x_2 rfl rfl (by rw[tW];simp[q]))) (aw rfl (qS sh m n g))
theorem yK{r c:Nat}{cs:List Int}{b:LP}{d:List Nat}(sh:Shp r c b)(g:cs.length=c)(l:r<=1000)(e:c<=1000)(m:∀i∈d,i<r)(n:d.length<=1000):gh K a [iL cs,fV b,nL d] β=some (.ok (nL (tq cs b r c d)),β):=by
 refine aV ?_
 unfold jd
 have h:=ng (nv:=1) (caps:=[0,1,2]) (it:=aT cI (aa (ae bp (aa (ac 0) (ad))) (ad))) (tg:=tgC 0) (tt:=fB (f2 (ltD) (aq (bP K a) (aa (ac 1) (aa (ac 2) (aa (ac 3) (aa (ac 0) (ad)))))) (aq (bQ K a) (aa (ac 2) (aa (ac 3) (aa (ac 0) (ad))))))) (f:=ac 0) (δ:=[some (iL cs),some (fV b),some (nL d)]) (β:=β) (Mv c) (λj=>D.int (0+(j:Int))) (λj=>D.int (j:Int)) (λj=>decide (d9 cs b r d j<fF b d j))
  (bE (ds:=aP 0 c) (ah (ax rfl (f7 (by rw[Mj,g]))) rfl) (rg1 (by omega) (by omega)))
  (λj k=>⟨[some (.int (j:Int)),some (iL cs),some (fV b),some (nL d)],by rw[Pq];rfl,x_B (x_2 (aw rfl (qz sh g l (MO.mp k))) (aw rfl (qS sh m n (MO.mp k))) rfl),λ_=>rfl⟩) (bG (by rw[MR];exact e))
 refine az (bc h ⟨rfl,?_⟩)
 show Ol (D.lst ((nI (tq cs b r c d)).map D.int))=_
 rw[MK];rfl
theorem Ik{n i:Nat}{d:D}(h:(aP 0 n)[i]?=some d):i<n/\d= .int (i:Int):=by
 obtain⟨x,b,rfl⟩:=ir (f:=λ(i:Nat)=>D.int (0+(i:Int))) (xs:=Mv n) h
 have c:=(MF.mp b).1
 rw[MR]at c
 rw[NS c]at b
 cases b
 exact⟨c,by rw[Pq]⟩
theorem xp{n:Nat}(hn:n<=6):iS K a [.int (n:Int)] β=some (.ok (.lst ((chF n).map nL)),β):=by
 refine aV ?_
 unfold lh
 refine aJ (d:= .lst [.lst []]) (β1:=β) (ax (ah (ax rfl lst0) rfl) wO) ?_
 refine dI (ds:=aP 0 n) (β1:=β) (bE rfl (rg1 (by omega) (by omega))) (λi δ b=>β=b/\∃c,δ=[some (.sh (.int (n:Int))),some (.sh (.lst ((chF i).map nL))),c]) ⟨rfl,none,rfl⟩ ?_ ?_
 ·rintro i d δ _ hd ⟨rfl,c,rfl⟩
  obtain⟨g,rfl⟩:=Ik hd
  have j:(chF i).length<=64:=by rw[vM];exact MS (RN (by decide) (show i<=6 by omega)) (by decide)
  refine⟨[some (.sh (.int (n:Int))),some (.sh (.lst ((chF i).map nL))),some (.sh (.int (i:Int)))],rfl,az (aJ (d:= .lst ((chF (i+1)).map nL)) (β1:=β) ?_ (bV ⟨rfl,_,rfl⟩))⟩
  have h:=bC (nv:=1) (caps:=[2]) (it:=aQ (ac 1)) (tg:=tgC 0) (f:=f2 ck (ac 0) (ae bt (aa (ac 1) (ad)))) (δ:=vw [some (.sh (.int (n:Int))),some (.sh (.lst ((chF i).map nL))),some (.sh (.int (i:Int)))]) (β:=β) (chF i) nL (λl=>nL (l++[i])) rfl (λl e=>⟨[some (nL l),some (.int (i:Int))],rfl,by
   have k:l.length<=i:=by have:=(ic i l e).length_le;rwa[MR]at this
   refine x_2 rfl (ax rfl wO) ((vT ?_).trans ?_)
   ·rw[Mj,Mj,Np];omega
   ·simp only[nL,nI,M7,ME,Oj]⟩) (bG (by omega))
  refine x_2 rfl h ((vT ?_).trans ?_)
  ·rw[Mj,Mj];omega
  ·rw[chF,M7,MK];rfl
 ·rintro δ _ ⟨rfl,c,rfl⟩
  rw[show(aP 0 n).length=n by unfold aP;rw[Mj,MR]]
  exact az (bc rfl ⟨rfl,rfl⟩)
theorem Jx{r:Nat}{b:List Nat}(h:b∈chF r):(∀i∈b,i<r)/\b.length<=r:=⟨λi c=>MO.mp ((ic r b h).subset c),by have:=(ic r b h).length_le;rwa[MR]at this⟩
theorem Jr{r c:Nat}{rs cs:List Int}{b:LP}(sh:Shp r c b)(l:rs.length=r)(m:cs.length=c)(n:r<=6)(p:c<=6)(ok:∀X Y,0<=slB rs cs b r c X Y):eS K a [iL rs,iL cs,fV b] β=some (.ok .non,β):=by
 refine aV (az (dI (ds:=(chF r).map nL) (β1:=β) (eM (aw (ah (ax rfl (f7 (r:=r) (by rw[Mj,l]))) rfl) (xp n)) rfl) (λi δ f=>β=f/\∃g h,δ=[some (.sh (iL rs)),some (.sh (iL cs)),some (.sh (fV b)),g,h]) ⟨rfl,none,none,rfl⟩ ?_ ?_))
 ·rintro i d δ _ hd ⟨rfl,g,h,rfl⟩
  obtain⟨e,q,rfl⟩:=ir hd
  have hm:=MV q
  obtain⟨k,s⟩:=Jx hm
  refine⟨_,rfl,aJ (d:=nL (tq cs b r c e)) (β1:=β) (aw rfl (yK sh m (by omega) (by omega) k (by omega))) ?_⟩
  refine az (rj (x_B (x_2 (aw rfl (yH (by rw[l];exact k) (by omega))) (aw rfl (ya sh m (by omega) (by omega) k (by omega))) ?_)) (d5 (bV ⟨rfl,_,_,rfl⟩)))
  have o:=ok (λi=>decide (i∈e)) (λj=>decide (j∈tq cs b r c e))
  have sub:(tq cs b r c e).Sublist (Mv c):=List.filter_sublist
  rw[←Ie (ic r e hm) sub]at o
  show some (D.bl (decide _))=_
  rw[M5 (by omega)]
 ·rintro δ _ ⟨rfl,g,h,rfl⟩
  exact bV ⟨rfl,rfl⟩
end
end Law
set_option maxHeartbeats 4000000
namespace Law
open PySem L2 L2.Pu L2.Nt
section
theorem CL{n:Nat}{f:Nat->Int}(h:∀i<n,0<=f i):0<=S n f:=by
 have:=lB (f:=λ_=>0) h
 have z:S n (λ_=>0)=0:=by
  induction n with
  |zero=>rfl
  |succ n ih=>rw[gC,ih λi a=>h i (by omega)];rfl;exact lB λi a=>h i (by omega)
 omega
theorem S_ge{n i:Nat}{f:Nat->Int}(a:i<n)(h:∀i<n,0<=f i):f i<=S n f:=by
 rw[←Me (v:=f i) a]
 exact lB λk b=>by
  by_cases q:k=i
  ·rw[Mu q,q];exact Q8 _
  ·rw[Mr q];exact h k b
theorem vP{r c i j:Nat}(a:i<r)(b:j<c):bI (cN r c) i j=(0,40):=by
 unfold bI cN
 simp only[Mp,N1,a,b,Na,Vc]
theorem z0{rs cs:List Int}(g:∀x∈rs,0<=x/\x<=40)(h:∀x∈cs,0<=x)(e:rs.sum=cs.sum)(X Y:Nat->Bool):0<=slB rs cs (cN rs.length cs.length) rs.length cs.length X Y:=by
 have d:∀i,0<=rs.getD i 0/\rs.getD i 0<=40:=λi=>by
  rw[Mp]
  cases q:rs[i]? with
  |none=>exact⟨by decide,by decide⟩
  |some x=>exact g x (MV q)
 have k:∀i,0<=cs.getD i 0:=λi=>by
  rw[Mp]
  cases q:cs[i]? with
  |none=>exact Q8 _
  |some x=>exact h x (MV q)
 have f:∀i<rs.length,∀j<cs.length,0<=fl (X i) (Y j) (bI (cN rs.length cs.length) i j).1 (bI (cN rs.length cs.length) i j).2:=λi c j a=>by
  rw[vP c a]
  unfold fl
  cases X i<;>cases Y j<;>decide
 have a1:0<=S cs.length λj=>if Y j=true then cs.getD j 0 else 0:=CL λj _=>by
  have:=k j
  split<;>omega
 have a3:0<=S rs.length λi=>S cs.length λj=>fl (X i) (Y j) (bI (cN rs.length cs.length) i j).1 (bI (cN rs.length cs.length) i j).2:=CL λi c=>CL λj a=>f i c j a
 show 0<=slk _ _ _ _ _ _ X Y
 unfold slk
 dsimp only
 by_cases q:∀j<cs.length,Y j=true
 ·have b1:(S cs.length λj=>if Y j=true then cs.getD j 0 else 0)=cs.sum:=(eD λj a=>by rw[Mu (q j a)]).trans (zJ cs)
  have b2:(S rs.length λi=>if X i=true then rs.getD i 0 else 0)<=rs.sum:=by
   rw[←zJ rs]
   exact lB λi _=>by
    have:=(d i).1
    split<;>omega
  omega
 ·obtain⟨j,q⟩:=Classical.not_forall.mp q
  obtain⟨a,q⟩:=Classical.not_imp.mp q
  have b:(S rs.length λi=>if X i=true then rs.getD i 0 else 0)<=S rs.length λi=>S cs.length λj=>fl (X i) (Y j) (bI (cN rs.length cs.length) i j).1 (bI (cN rs.length cs.length) i j).2:=lB λi c=>by
   refine Int.le_trans ?_ (S_ge a λj a=>f i c j a)
   have:=(d i).2
   show _<=fl (X i) (Y j) (bI (cN rs.length cs.length) i j).1 (bI (cN rs.length cs.length) i j).2
   rw[vP c a,eq_false_of_ne_true q]
   unfold fl
   cases X i with
   |false=>exact Q8 0
   |true=>show rs.getD i 0<=40-0;omega
  omega
end
section
variable{K:Frag}{a:Ad}{β:Bg}{rs cs:List Nat}
theorem DT{g:G}{δ:Ds}{o:Out}(h:Gw g δ β (λc b=>c=o/\b=β)):g δ β=some (o,β):=by
 obtain⟨c,b,e,rfl,rfl⟩:=h
 exact e
theorem lD{t:Dn->M Bool}{d b h:G}{δ:Ds}{β1:Bg}{c:Bool}{Q:Out->Bg->Prop}(e:t (vwA δ) β=some (.ok c,β1))(f:c=false)(k:Gw (ag b h) δ β1 Q):Gw (ag (gIf t d b) h) δ β Q:=by
 subst f;exact rj e k
theorem yE(l:List Nat){n:Nat}{δ:Dn}(b:l.length<=1000)(e:δ.getD n none=some (nL l)):eJ (ae nw (aa (aI 1 [] (aQ (ac n)) (tgC 0) (λ_=>M.ret true) (cEm (f2 (ltD) (ac 0) (fC (.int 0))))) (ad))) δ β=some (.ok false,β):=by
 have c:=bC (nv:=1) (caps:=[]) (it:=aQ (ac n)) (tg:=tgC 0) (f:=f2 (ltD) (ac 0) (fC (.int 0))) (δ:=δ) (β:=β) (nI l) D.int (λx=>D.bl (decide (x<0))) (eM (CQ e) rfl) (λx _=>⟨_,rfl,rfl⟩) (bG (by rw[Mj];exact b))
 refine CS (ax (ah c rfl) (any_map _ _)) (Nq some (Vt.mpr λx d=>?_))
 obtain⟨n,_,rfl⟩:=MN.mp d
 simp
theorem wQ(l:List Nat):bp [nL l]=some (.int (l.length:Int)):=f7 (by rw[Mj,Mj])
theorem HC(h:Nt0 rs cs):fP K a [nL rs,nL cs] β=some (.ok .non,β):=by
 obtain⟨b,c,d,e⟩:=h.nr
 have c1:=h.c1
 have c6:=h.c6
 refine aV ?_
 unfold iz
 refine lD (vV (x_B (uF rfl (ax rfl (wQ rs)) rfl))) (by simp;omega) (d5 ?_)
 refine lD (vV (x_B (uF rfl (ax rfl (wQ cs)) rfl))) (by simp;omega) (d5 ?_)
 refine rj (K7 (yE rs (by omega) rfl) (yE cs (by omega) rfl)) (d5 ?_)
 refine lD (x_B (x_2 (ax rfl (oo rs)) (ax rfl (oo cs)) ne_int)) (by rw[h.sm];simp) (d5 ?_)
 exact az (lD (x_B (x_2 (ax rfl (oo rs)) rfl gt_int)) (by simp;omega) (d5 (bV ⟨rfl,rfl⟩)))
theorem EZ(h:Nt0 rs cs):c8 K a [.non,.int (rs.length:Int),.int (cs.length:Int)] β=some (.ok (frD rs cs.length),β):=by
 have b:=h.nr.2.1
 have c6:=h.c6
 refine aV ?_
 unfold fj
 refine Lc (x_B (x_2 rfl rfl rfl)) (bc (ED rfl (lY (by omega) (by omega))) ⟨rfl,?_⟩)
 show Ol (lG (gP _))=_
 unfold cN gP
 rw[Ob,Ob]
 rfl
theorem EE(h:Nrw rs):fN K a [nL rs] β=some (.ok .non,β):=by
 obtain⟨g,j,k,e⟩:=h
 refine aV ?_
 unfold ix
 refine aJ (d:= .int 1) (β1:=β) rfl ?_
 refine dI (ds:=(nI rs).map D.int) (β1:=β) rfl (λi δ b=>β=b/\∃c,δ=[some (.sh (nL rs)),some (.sh (.int ((pr ((rs.take i).map (·+1)):Nat):Int))),c]) ⟨rfl,none,rfl⟩ ?_ ?_
 ·rintro i d δ _ hd ⟨rfl,c,rfl⟩
  obtain⟨n,hn,rfl⟩:=ou hd
  have f:=f8 (MV hn)
  have l:=MS (DJ rs i) e
  refine⟨_,rfl,az (nz rfl (x_2 (z:= .int ((n+1:Nat):Int)) rfl rfl rfl) (tu (smN (by omega)) (smN (by omega))) (bV ⟨rfl,some (.sh (.int (n:Int))),?_⟩))⟩
  rw[lN hn];rfl
 ·rintro δ _ ⟨rfl,c,rfl⟩
  rw[kY,Po]
  exact az (lD (x_B (x_2 rfl rfl gt_int)) (by simp;omega) (d5 (bV ⟨rfl,rfl⟩)))
theorem EX(h:Nt0 rs cs):cL K a [nL rs,nL cs,.non] β=some (.ok (frD rs cs.length),β):=by
 refine aV ?_
 unfold eG
 exact sf (aw rfl (HC h)) (aJ (aw (ah rfl (ah (ax rfl (wQ rs)) (ah (ax rfl (wQ cs)) rfl))) (EZ h)) (sf (aw rfl (EE h.nr)) (az (bc rfl ⟨rfl,rfl⟩))))
theorem GI(h:Nt0 rs cs):eS K a [nL rs,nL cs,frD rs cs.length] β=some (.ok .non,β):=by
 have e:=h.nr.2.1
 have f:=h.nr.2.2.1
 have c6:=h.c6
 have c:(nI rs).length=rs.length:=Mj _
 have d:(nI cs).length=cs.length:=Mj _
 refine Jr (ze rs.length cs.length) c d (by omega) (by omega) λX Y=>?_
 have:=z0 (rs:=nI rs) (cs:=nI cs) (λx b=>by
  obtain⟨n,hn,rfl⟩:=MN.mp b
  have:=f8 hn
  omega) (λx b=>by
  obtain⟨n,hn,rfl⟩:=MN.mp b
  omega) (by rw[gx,gx,h.sm]) X Y
 rw[c,d]at this
 exact this
noncomputable abbrev nFs(rs cs:List Nat):List D:=[nL rs,nL cs,frD rs cs.length,xl rs cs]
noncomputable abbrev tj(a:Ad)(rs cs:List Nat):D:= .obj a.An ["row_list","column_list","pairs","counted"] (nFs rs cs)
theorem yG(h:Nt0 rs cs):k7 K a [nL rs,nL cs,.non] β=some (.ok (nFs rs cs),β):=BO λx=>by
 unfold tU
 refine y0 (g:=aG 4 _) (δ1:=[some (.sh (.adr x)),some (.sh (nL rs)),some (.sh (nL cs)),some (.sh .non),some (.sh (frD rs cs.length))]) (β1:=β) (DT (az (aJ (aw rfl (EX h)) (bV ⟨rfl,rfl⟩)))) rfl rfl ?_
 refine y0 (δ1:=[some (.sh (.adr x)),some (.sh (nL rs)),some (.sh (nL cs)),some (.sh .non),some (.sh (frD rs cs.length))]) (β1:=β) (DT (az (sf (aw rfl (GI h)) (bV ⟨rfl,rfl⟩)))) rfl rfl ?_
 exact oE (ax rfl rfl) (oE (ax rfl rfl) (oE rfl (oE (aw rfl (xk h)) rfl)))
theorem La{f:FD}{g:FL}{δ:Dn}{b:Bool}{ks:List KyD}{vs:List D}{k z d:D}{y:KyD}(c:f δ β=some (.ok (.dct b ks vs),β))(e:g δ β=some (.ok [k,z],β))(h:j4 b k=some y)(i:lkD ks vs y=some d):xi f g δ β=some (.ok d,β):=by
 unfold xi
 rw[M.bind_ok c]
 simp only
 rw[M.bind_ok e]
 simp only[h,i,Nu,Vc,M.ofO]
theorem vO:cw K a [tj a rs cs,.int 0,tN rs] β=some (.ok (cv cs rs),β):=by
 refine aV (az (bc (La (vW rfl rfl) (ah (ax rfl mE) (ah (ax rfl mE) rfl)) (vi (b:=true) (k:=(0,nI rs)) λe=>(by cases e)) ?_) ⟨rfl,rfl⟩))
 unfold kys lkD K0
 rw[Rt,N3,N3]
 show Option.map _ (List.find? _ (_::_))=_
 rw[List.find?_cons_of_pos]
 ·rfl
 ·exact MX rfl
theorem vI(h:Nt0 rs cs):cU K a [tj a rs cs] β=some (.ok (.int ((mu rs:Nat):Int)),β):=by
 refine aV (az (bc (x_2 (jf rfl (ah rfl (ah (ax (ah (vW rfl rfl) rfl) rfl) rfl)) vO) rfl Ji) ⟨rfl,?_⟩))
 rw[uc _ _ h.sm]
theorem uJ:dX K a [tj a rs cs] β=some (.ok (.int ((tabs rs cs:Nat):Int)),β):=
 aV (az (bc (x_2 (jf rfl (ah rfl (ah (ax (ah (vW rfl rfl) rfl) rfl) rfl)) vO) rfl Jj) ⟨rfl,rfl⟩))
end
end Law
set_option maxHeartbeats 4000000
namespace Law
open PySem L2 L2.Pu L2.Nt
section
variable{K:Frag}{a:Ad}{β:Bg}
theorem FE(n:Nat):cc K a n=e8 n:=by
 induction n with
 |zero=>rfl
 |succ n ih=>
  show aD 2 (m5 K a (cc K a n))=aD 2 (iY (e8 n))
  rw[ih];rfl
theorem wn{i:Int}:cc K a 5 [.int i,.int i] β=some (.ok (.bl true),β):=by
 rw[FE]
 exact pe 4 (.int i) β trivial
structure GrW (rows:LI) (c:Nat) (rs:List Nat):Prop where
 shp:Shp rs.length c rows
 nn:∀row∈rows,∀x∈row,0<=x
 sm:rows.map OO=nI rs
 c1:1<=c
 c6:c<=6
 nr:Nrw rs
 wd:pr (rs.dropLast.map (·+1))<63
theorem su:∀{xs:List Int},(∀x∈xs,0<=x)->∃l:List Nat,xs=nI l
 |[],_=>⟨[],rfl⟩
 |x::xs,h=>by
  obtain⟨l,e⟩:=su λy b=>h y (Mo _ b)
  have:=h x Mq
  exact⟨x.toNat::l,by rw[e];show _=((x.toNat:Nat):Int)::_;rw[Int.toNat_of_nonneg this]⟩
theorem few2:∀x<41,∀y<41-x,(x+1)*((y+1)*1)<=500/\(x+1)*1<63:=by decide
theorem few3:∀x<12,∀y<12-x,∀z<12-x-y,(x+1)*((y+1)*((z+1)*1))<=500/\(x+1)*((y+1)*1)<63:=by decide
theorem few4:∀x<9,∀y<9-x,∀z<9-x-y,∀w<9-x-y-z,(x+1)*((y+1)*((z+1)*((w+1)*1)))<=500/\(x+1)*((y+1)*((z+1)*1))<63:=by decide
theorem few:∀{rs:List Nat},(rs.length=2/\rs.sum<=40)\/(rs.length=3/\rs.sum<=11)\/(rs.length=4/\rs.sum<=8)->Nrw rs/\pr (rs.dropLast.map (·+1))<63
 |[x,y],h=>by
  have q:=few2 x (by simp at h;omega) y (by simp at h;omega)
  exact⟨⟨by show 1<=2;decide,by show 2<=4;decide,by simp at h⊢;omega,q.1⟩,q.2⟩
 |[x,y,z],h=>by
  have q:=few3 x (by simp at h;omega) y (by simp at h;omega) z (by simp at h;omega)
  exact⟨⟨by show 1<=3;decide,by show 3<=4;decide,by simp at h⊢;omega,q.1⟩,q.2⟩
 |[x,y,z,w],h=>by
  have q:=few4 x (by simp at h;omega) y (by simp at h;omega) z (by simp at h;omega) w (by simp at h;omega)
  exact⟨⟨by show 1<=4;decide,by show 4<=4;decide,by simp at h⊢;omega,q.1⟩,q.2⟩
 |[],h=>by simp at h
 |[_],h=>by simp at h
 |_::_::_::_::_::_,h=>by simp at h
noncomputable abbrev gdS(r c t:Nat)(rows:LI)(b d e:Option Sl):Ds:=[some (.sh .bag),some (.sh (.int (r:Int))),some (.sh (.int (c:Int))),some (.sh (.int (t:Int))),some (.grd (gI rows)),b,d,e]
theorem pI{r c t:Nat}(ok:β.ok)(r0:1<=r)(r1:r<=4)(c1:1<=c)(c6:c<=6)(B:(r=2/\t<=40)\/(r=3/\t<=11)\/(r=4/\t<=8)):∃(rows:LI) (rs:List Nat) (j:Bg),fi K a [.bag,.int (r:Int),.int (c:Int),.int (t:Int)] β=some (.ok (cM rows),j)/\GrW rows c rs/\j.ok:=by
 suffices h:∃g j,fi K a [.bag,.int (r:Int),.int (c:Int),.int (t:Int)] β=some (g,j)/\(∃(rows:LI) (rs:List Nat),g= .ok (cM rows)/\GrW rows c rs/\j.ok) by
  obtain⟨g,j,e,rows,rs,rfl,E,F⟩:=h
  exact⟨rows,rs,j,e,E,F⟩
 refine oV ?_
 unfold m6
 refine Ld (rows:=(Mv r).map λ_=>MC c (D.int 0)) (β1:=β) (zr (Mv r) (λi=>D.int (0+(i:Int))) _ (bE (ds:=aP 0 r) rfl (rg1 (by omega) (by omega))) (λx _=>⟨_,rfl,LH (x:= .int 0) (c:=c) rfl rfl (by omega)⟩) (bG (by rw[MR];omega))) ?_ ?_
 ·rw[P8]
  intro x k
  obtain⟨_,_,rfl⟩:=MN.mp k
  rw[←Ob (f:=D.int)]
  exact qt _
 have G:(Mv r).map (λ_=>MC c (D.int 0))=gI (MC r (MC c 0)):=by
  show _=Qk _ _
  rw[Ob,SN,Ob,MR]
 rw[G]
 refine dI (ds:=aP 0 t) (β1:=β) (bE rfl (rg1 (by omega) (by omega))) (λi δ β=>β.ok/\∃rows p q w,δ=gdS r c t rows p q w/\Shp r c rows/\(∀row∈rows,∀x∈row,0<=x)/\tot rows=(i:Int)) ⟨ok,MC r (MC c 0),none,none,none,rfl,⟨by simp,λrow h=>?_⟩,λrow h x k=>?_,?_⟩ ?_ ?_
 ·rw[(QF.mp h).2];simp
 ·rw[(QF.mp h).2]at k
  rw[(QF.mp k).2];exact Q8 _
 ·unfold tot
  rw[Ob]
  have z:∀n:Nat,(MC n (0:Int)).sum=0:=λn=>by
   induction n with
   |zero=>rfl
   |succ n ih=>rw[M3,MZ,ih];rfl
  rw[z,z];rfl
 ·rintro i d δ j hd ⟨m,rows,p,q,w,rfl,sh,nn,B⟩
  obtain⟨v,β1,H,L,M,y⟩:=bZ m (lot:=(r:Int)) (by omega) (by omega)
  obtain⟨u,β2,I,N,O,A⟩:=bZ y (lot:=(c:Int)) (by omega) (by omega)
  obtain⟨v,rfl⟩:∃n:Nat,v=(n:Int):=⟨v.toNat,by omega⟩
  obtain⟨u,rfl⟩:∃n:Nat,u=(n:Int):=⟨u.toNat,by omega⟩
  obtain⟨row,b,o⟩:=sh.at (i:=v) (by omega)
  obtain⟨x,k⟩:=DY (l:=row) (i:=u) (by omega)
  refine⟨_,rfl,aJ (aw rfl H) (aJ (aw rfl I) (az (Lb (d:= .int (x+1)) (β1:=β2) (β2:=β2) (β3:=β2) (rows:=gI rows) (ds:=row.map D.int) (ka:=v) (kb:=u) (ja:=v) (jb:=u) (x_2 (x_2 (x_2 rfl rfl (wW (row:=row.map D.int) ?_)) rfl (dF (d:= .int x) ?_)) rfl rfl) rfl rfl rfl ?_ ?_ ?_ rfl (bV ⟨A,rows.set v (row.set u (x+1)),some (.sh d),some (.sh (.int (v:Int))),some (.sh (.int (u:Int))),?_,sh.set b,IV nn b ?_,?_⟩))))⟩
  ·rw[Mt,b];rfl
  ·rw[Mt,k];rfl
  ·rw[Mj,sh.1];exact tR (by omega) (by omega)
  ·rw[Mt,b];rfl
  ·rw[Mj,o];exact tR (by omega) (by omega)
  ·show[_,_,_,_,some (Sl.grd ((gI rows).set v ((row.map D.int).set u (.int (x+1))))),_,_,_]=_
   rw[show(gI rows).set v ((row.map D.int).set u (.int (x+1)))=gI (rows.set v (row.set u (x+1))) by show _=Qk _ _;rw[Sk,Sk]]
  ·have:=nn row (MV b) x (MV k)
   omega
  ·have:=ER (v:=x+1) b k
   omega
 ·rintro δ j ⟨m,rows,p,q,w,rfl,sh,nn,C⟩
  rw[sM]at C
  obtain⟨rs,e⟩:=su (xs:=rows.map OO) λx k=>by
   obtain⟨row,J,rfl⟩:=MN.mp k
   exact sA (nn row J)
  have l:rs.length=r:=by rw[←sh.1,←Mj (as:=rows) OO,e,Mj]
  have s:rs.sum=t:=by
   have h:(rows.map OO).sum=(t:Int):=C
   rw[e,gx]at h
   omega
  obtain⟨q1,q2⟩:=few (rs:=rs) (by rw[l,s];exact B)
  exact az (bc rfl ⟨rows,rs,rfl,⟨by rw[l];exact sh,nn,e,c1,c6,q1,q2⟩,m⟩)
theorem AW(ok:β.ok):∃(rows:LI) (rs:List Nat) (b:Bg),iu K a [.bag] β=some (.ok (cM rows),b)/\GrW rows 2 rs/\b.ok:=by
 suffices h:∃g b,iu K a [.bag] β=some (g,b)/\(∃(rows:LI) (rs:List Nat),g= .ok (cM rows)/\GrW rows 2 rs/\b.ok) by
  obtain⟨g,b,e,rows,rs,rfl,s,t⟩:=h
  exact⟨rows,rs,b,e,s,t⟩
 refine oV ?_
 unfold m3
 refine vY (ds:=[]) (β1:=β) rfl (N2 _) ?_
 obtain⟨c,β1,u,a0,a1,m⟩:=bZ ok (lot:=6) (by decide) (by decide)
 have o:∃l:List Nat,ixD (.lst [nL [40],nL [39,1],nL [30,10],nL [20,20],nL [24,15],nL [13,27]]) (.int c)=some (nL l)/\Nrw l/\pr (l.dropLast.map (·+1))<63/\l.length<=2/\∀x∈l,x<=40:=by
  obtain rfl|rfl|rfl|rfl|rfl|rfl:c=0\/c=1\/c=2\/c=3\/c=4\/c=5:=by omega
  ·exact⟨[40],rfl,⟨by decide,by decide,by decide,by decide⟩,by decide,by decide,by decide⟩
  ·exact⟨[39,1],rfl,⟨by decide,by decide,by decide,by decide⟩,by decide,by decide,by decide⟩
  ·exact⟨[30,10],rfl,⟨by decide,by decide,by decide,by decide⟩,by decide,by decide,by decide⟩
  ·exact⟨[20,20],rfl,⟨by decide,by decide,by decide,by decide⟩,by decide,by decide,by decide⟩
  ·exact⟨[24,15],rfl,⟨by decide,by decide,by decide,by decide⟩,by decide,by decide,by decide⟩
  ·exact⟨[13,27],rfl,⟨by decide,by decide,by decide,by decide⟩,by decide,by decide,by decide⟩
 obtain⟨l,o,q1,q2,q3,q4⟩:=o
 refine dI (ds:=(nI l).map D.int) (β1:=β1) (eM (x_2 (ax rfl rfl) (aw rfl u) o) rfl) (λi δ β=>β.ok/\∃rows p q,δ=[some (.sh .bag),some (.own ((gI rows).map D.lst)),p,q]/\rows.length=i/\(∀row∈rows,row.length=2/\∀x∈row,0<=x)/\rows.map OO=nI (l.take i)) ⟨m,[],none,none,rfl,rfl,λ_ h=>(by cases h),rfl⟩ ?_ ?_
 ·rintro i d δ b hd ⟨f,rows,p,q,rfl,j,k,hs⟩
  obtain⟨n,hn,rfl⟩:=ou hd
  have w:=q4 n (MV hn)
  have A:=(MF.mp hn).1
  obtain⟨v,β2,y,B,C,r⟩:=bZ f (lot:=(n:Int)+1) (by omega) (by omega)
  refine⟨_,rfl,aJ (aw (ah rfl (ah (x_2 rfl rfl rfl) rfl)) y) (az (v3 (cs:=(gI rows).map D.lst) (d:= .lst [.int v,.int ((n:Int)-v)]) rfl (ah (ax (ah rfl (ah (x_2 rfl rfl rfl) rfl)) rfl) rfl) (MP (show _<1000 by rw[Mj,Mj];omega) (by decide)) (bV ⟨r,rows++[[v,(n:Int)-v]],some (.sh (.int (n:Int))),some (.sh (.int v)),?_,by rw[MJ,j];rfl,λrow h=>?_,?_⟩)))⟩
  ·show _=[_,some (Sl.own (Qk _ (Qk _ (rows++_)))),_,_]
   rw[M7,M7];rfl
  ·rcases NL.mp h with h|h
   ·exact k row h
   ·cases Nb.mp h
    refine⟨rfl,λx z=>?_⟩
    simp at z
    omega
  ·rw[M7,hs,Vv,hn]
   show _=Qk _ (_++_)
   rw[M7]
   congr 1
   simp
   omega
 ·rintro δ b ⟨f,rows,p,q,rfl,j,k,hs⟩
  rw[kY]at j
  rw[kY,Po]at hs
  exact az (bc rfl ⟨rows,l,rfl,⟨⟨j,λrow h=>(k row h).1⟩,λrow h=>(k row h).2,hs,by decide,by decide,q1,q2⟩,f⟩)
theorem BF(ok:β.ok):∃(rows:LI) (c:Nat) (rs:List Nat) (b:Bg),gy K a [.bag] β=some (.ok (cM rows),b)/\GrW rows c rs/\b.ok:=by
 suffices h:∃g b,gy K a [.bag] β=some (g,b)/\(∃(rows:LI) (c:Nat) (rs:List Nat),g= .ok (cM rows)/\GrW rows c rs/\b.ok) by
  obtain⟨g,b,e,rows,c,rs,rfl,x,A⟩:=h
  exact⟨rows,c,rs,b,e,x,A⟩
 refine oV ?_
 unfold lf
 obtain⟨u,β1,B,a0,a1,l⟩:=bZ ok (lot:=6) (by decide) (by decide)
 refine se (x_B (x_2 (aw rfl B) rfl eq_int)) ?_
 by_cases q:u=0
 ·obtain⟨rows,rs,β2,e,g,f⟩:=AW (K:=K) (a:=a) l
  rw[Mu (MX q)]
  exact bc (aw rfl e) ⟨rows,2,rs,rfl,g,f⟩
 rw[Mr (by simp[q])]
 refine d5 ?_
 obtain⟨y,β2,C,b0,b1,f⟩:=bZ l (lot:=5) (by decide) (by decide)
 refine aJ (aw rfl C) ?_
 refine se (β1:=β2) (x_B (x_2 rfl rfl eq_int)) ?_
 by_cases q2:y=0
 ·rw[Mu (MX q2)]
  obtain⟨c,β3,m,c0,c1,i⟩:=bZ f (lot:=5) (by decide) (by decide)
  obtain⟨t,o,p,w,d1,j⟩:=bZ i (lot:=25) (by decide) (by decide)
  obtain⟨c,rfl⟩:∃n:Nat,c=(n:Int):=⟨c.toNat,by omega⟩
  obtain⟨t,rfl⟩:∃n:Nat,t=(n:Int):=⟨t.toNat,by omega⟩
  obtain⟨rows,rs,s,e,g,k⟩:=pI (K:=K) (a:=a) (r:=2) (c:=2+c) (t:=t) j (by decide) (by decide) (by omega) (by omega) (by omega)
  exact bc (aw (ah rfl (ah rfl (ah (x_2 (z:= .int ((2+c:Nat):Int)) rfl (aw rfl m) (by show some (D.int _)=_;rw[O7];rfl)) (ah (aw rfl p) rfl)))) e) ⟨rows,2+c,rs,rfl,g,k⟩
 rw[Mr (by simp[q2])]
 refine d5 ?_
 refine se (β1:=β2) (x_B (x_2 rfl rfl eq_int)) ?_
 by_cases q3:y=1
 ·rw[Mu (MX q3)]
  obtain⟨c,β3,m,c0,c1,i⟩:=bZ f (lot:=2) (by decide) (by decide)
  obtain⟨t,o,p,w,d1,j⟩:=bZ i (lot:=9) (by decide) (by decide)
  obtain⟨c,rfl⟩:∃n:Nat,c=(n:Int):=⟨c.toNat,by omega⟩
  obtain⟨t,rfl⟩:∃n:Nat,t=(n:Int):=⟨t.toNat,by omega⟩
  obtain⟨rows,rs,s,e,g,k⟩:=pI (K:=K) (a:=a) (r:=4) (c:=2+c) (t:=t) j (by decide) (by decide) (by omega) (by omega) (by omega)
  exact bc (aw (ah rfl (ah rfl (ah (x_2 (z:= .int ((2+c:Nat):Int)) rfl (aw rfl m) (by show some (D.int _)=_;rw[O7];rfl)) (ah (aw rfl p) rfl)))) e) ⟨rows,2+c,rs,rfl,g,k⟩
 rw[Mr (by simp[q3])]
 refine d5 ?_
 obtain⟨r,β3,m,c0,c1,i⟩:=bZ f (lot:=2) (by decide) (by decide)
 obtain⟨c,o,p,w,d1,j⟩:=bZ i (lot:=3) (by decide) (by decide)
 obtain⟨t,s,E,G,H,k⟩:=bZ j (lot:=12) (by decide) (by decide)
 obtain⟨r,rfl⟩:∃n:Nat,r=(n:Int):=⟨r.toNat,by omega⟩
 obtain⟨c,rfl⟩:∃n:Nat,c=(n:Int):=⟨c.toNat,by omega⟩
 obtain⟨t,rfl⟩:∃n:Nat,t=(n:Int):=⟨t.toNat,by omega⟩
 obtain⟨rows,rs,F,e,g,v⟩:=pI (K:=K) (a:=a) (r:=2+r) (c:=2+c) (t:=t) k (by omega) (by omega) (by omega) (by omega) (by omega)
 refine aJ (d:= .int ((2+r:Nat):Int)) (x_2 rfl (aw rfl m) (by show some (D.int _)=_;rw[O7];rfl)) ?_
 refine aJ (d:= .int ((2+c:Nat):Int)) (x_2 rfl (aw rfl p) (by show some (D.int _)=_;rw[O7];rfl)) ?_
 exact az (bc (aw (ah rfl (ah rfl (ah rfl (ah (aw rfl E) rfl)))) e) ⟨rows,2+c,rs,rfl,g,v⟩)
theorem BD(β:Bg)(ok:β.ok):∃b,oI K a [none,some (.sh .bag),none,none,none,none,none,none] β=some (.rt (.bl true),b):=by
 suffices h:Gw (oI K a) [none,some (.sh .bag),none,none,none,none,none,none] β (λo _=>o= .rt (.bl true)) by
  obtain⟨o,b,e,rfl⟩:=h
  exact⟨b,e⟩
 obtain⟨rows,c,rs,β1,n,g,p⟩:=BF (K:=K) (a:=a) ok
 obtain⟨q,r,s,v⟩:=g.nr
 have c1:=g.c1
 have c6:=g.c6
 have i:=wr (K:=K) (a:=a) (β:=β1) (rows:=rows) (by rw[g.shp.1];omega)
 have j:=rf (K:=K) (a:=a) (β:=β1) g.shp q (by omega) (by omega)
 rw[g.sm]at i
 obtain⟨cs,f⟩:=su (xs:=(tp c rows).map OO) λx t=>by
  obtain⟨row,u,rfl⟩:=MN.mp t
  exact sA (Lk g.nn row u)
 rw[f]at j
 have w:cs.length=c:=by rw[←(uI (d:=(0:Int)) (c:=c) g.shp.1).1,←Mj (as:=tpA 0 c rows) OO];exact(Nq RK f).symm▸(Mj _).symm
 have k:rs.sum=cs.sum:=by
  have h:tot (tp c rows)=tot rows:=xL g.shp.2
  unfold tot at h
  rw[f,g.sm,gx,gx]at h
  omega
 have l:Nt0 rs cs:=⟨g.nr,g.wd,k,by omega,by omega⟩
 have m:Nt0 rs cs.reverse:=⟨g.nr,g.wd,by rw[List.sum_reverse];exact k,by rw[Qq];omega,by rw[Qq];omega⟩
 unfold oI
 refine aJ (aw rfl n) (aJ (aw rfl i) (aJ (aw rfl j) (aJ (d:= .int ((mu rs:Nat):Int)) (β1:=β1) (aw rfl (by rw[←sd];exact AX s r)) (aJ (d:=tj a rs cs) (β1:=β1) (HH rfl (yG l)) ?_))))
 refine lD (vV (CS (aw (ah (jf rfl rfl (vI l)) (ah rfl rfl)) wn) rfl)) rfl (d5 ?_)
 refine aJ (d:=tj a rs cs.reverse) (β1:=β1) ?_ (az (bc (EC (aw (ah (jf rfl rfl (vI m)) (ah rfl rfl)) wn) (aw (ah (jf rfl rfl uJ) (ah (jf rfl rfl uJ) rfl)) (by rw[zS];exact wn))) rfl))
 unfold ub
 rw[M.bind_ok (ah rfl (ah (x_2 (y:= .int (-1)) (z:=nL cs.reverse) rfl rfl (by show some (D.lst _)=_;rw[←List.map_reverse,←List.map_reverse])) rfl)),M.bind_ok (ah rfl rfl)]
 exact(M.bind_ok (yG m)).trans rfl
end
noncomputable abbrev E(P:R9)(n:String)(t:Nat)(v:Mh):DictEntry:=⟨PyData.keyHash P (M1 n),.str (M1 n) t,v⟩
noncomputable abbrev FN(x q:Str)(s:Stmt)(b kV a c:Mh)(d:Option Addr)(cd ct:Mh):FuncData:=PU x q (ib s) (cb s) (af s) b kV a c d cd ct
noncomputable abbrev fO(f:FuncData):Obj:=⟨.type "function",none,.func f,#[]⟩
noncomputable abbrev tO(l:List Mh):Obj:=⟨.type "tuple",none,.seq l.toArray 0,#[]⟩
noncomputable abbrev cO(l:List Mh):Obj:=⟨.type "code",none,.fields l.toArray,#[]⟩
noncomputable abbrev eB(P:R9)(n:String)(t:Nat):DictEntry:=E P n t (.builtin n)
noncomputable abbrev eT(P:R9)(n:String)(t:Nat):DictEntry:=E P n t (.type n)
noncomputable abbrev eR(P:R9)(n:String)(t r:Nat):DictEntry:=E P n t (.ref r)
noncomputable abbrev nO(l:List Mh):Obj:=⟨.none,none,.fields l.toArray,#[]⟩
noncomputable abbrev fB(x q:Str)(s:Stmt):Obj:=⟨.none,none,.func ⟨x,q,ib s,.stmts (cb s),af s,0,[],.none,.none,.none,.none,none,.none,.none,0⟩,#[]⟩
noncomputable abbrev cC(n q:Str)(t l a po c fl r:Nat)(b:Bool)(d e:Nat)(x y z w:Mh)(u f v:Nat):Obj:=cO [.str n t,.str q (t+1),.str "/claim/cut.py" (t+2),.int l 0,.int a 0,.int po 0,.int c 0,.int fl 0,.ref r,.bool b,.int d 0,.ref e,x,y,z,w,.int u 0,.int f 0,.str "/claim/cut.py" v]
noncomputable abbrev cF(n:Str)(t l a b r c u:Nat):Obj:=cC n n t l a 0 b 3 r true c (r+1) .none .none .none (.ref (r+2)) u l (u+1)
noncomputable abbrev cG(n:Str)(t l a b r c u:Nat):Obj:=cC n n t l a 0 b 3 r true c (r+1) .none (.ref (r+2)) (.ref (r+3)) (.ref (r+4)) u l (u+1)
noncomputable abbrev fM(m:Str)(t:Nat)(x:Str)(i c:Nat):Obj:=fO (FN x x (top i) .none .none .none (.str m t) none (.ref c) .none)
noncomputable abbrev fL(x q:Str)(i c:Nat):Obj:=fO (FN x q (top i) .none .none .none (.str "law_edgetally_k16_whole_dealings_closed" 636) none (.ref c) .none)
section
variable(P:R9)
noncomputable def b0:Obj:=⟨(.type "dict"),none,(.dict #[(E P "__name__" 1 (.str "builtins" 160)),(E P "__doc__" 2 (.builtin "builtins.__doc__:str#opaque")),(E P "__package__" 3 (.builtin "builtins.__package__:str#opaque")),(E P "__loader__" 4 (.builtin "builtins.__loader__:shared#opaque")),(E P "__spec__" 5 (.builtin "builtins.__spec__#opaque")),(eB P "__build_class__" 6),(eB P "__import__" 7),(eB P "abs" 8),(eB P "all" 9),(eB P "any" 10),(eB P "ascii" 11),(eB P "bin" 12),(eB P "breakpoint" 13),(eB P "callable" 14),(eB P "chr" 15),(eB P "compile" 16),(eB P "delattr" 17),(eB P "dir" 18),(eB P "divmod" 19),(eB P "eval" 20),(eB P "exec" 21),(eB P "format" 22),(eB P "getattr" 23),(eB P "globals" 24),(eB P "hasattr" 25),(eB P "hash" 26),(eB P "hex" 27),(eB P "id" 28),(eB P "input" 29),(eB P "isinstance" 30),(eB P "issubclass" 31),(eB P "iter" 32),(eB P "aiter" 33),(eB P "len" 34),(eB P "locals" 35),(eB P "max" 36),(eB P "min" 37),(eB P "next" 38),(eB P "anext" 39),(eB P "oct" 40),(eB P "ord" 41),(eB P "pow" 42),(eB P "print" 43),(eB P "repr" 44),(eB P "round" 45),(eB P "setattr" 46),(eB P "sorted" 47),(eB P "sum" 48),(eB P "vars" 49),(E P "None" 50 .none),(E P "Ellipsis" 51 .ellipsis),(E P "NotImplemented" 52 .notImplemented),(E P "False" 53 (.bool false)),(E P "True" 54 (.bool true)),(eT P "bool" 55),(eT P "memoryview" 56),(eT P "bytearray" 57),(eT P "bytes" 58),(eT P "classmethod" 59),(eT P "complex" 60),(eT P "dict" 61),(eT P "enumerate" 62),(eT P "filter" 63),(eT P "float" 64),(eT P "frozenset" 65),(eT P "property" 66),(eT P "int" 67),(eT P "list" 68),(eT P "map" 69),(eT P "object" 70),(eT P "range" 71),(eT P "reversed" 72),(eT P "set" 73),(eT P "slice" 74),(eT P "staticmethod" 75),(eT P "str" 76),(eT P "super" 77),(eT P "tuple" 78),(eT P "type" 79),(eT P "zip" 80),(E P "__debug__" 81 (.bool true)),(eT P "BaseException" 82),(eT P "BaseExceptionGroup" 83),(eT P "Exception" 84),(eT P "GeneratorExit" 85),(eT P "KeyboardInterrupt" 86),(eT P "SystemExit" 87),(eT P "ArithmeticError" 88),(eT P "AssertionError" 89),(eT P "AttributeError" 90),(eT P "BufferError" 91),(eT P "EOFError" 92),(eT P "ImportError" 93),(eT P "LookupError" 94),(eT P "MemoryError" 95),(eT P "NameError" 96),(eT P "OSError" 97),(eT P "ReferenceError" 98),(eT P "RuntimeError" 99),(eT P "StopAsyncIteration" 100),(eT P "StopIteration" 101),(eT P "SyntaxError" 102),(eT P "SystemError" 103),(eT P "TypeError" 104),(eT P "ValueError" 105),(eT P "Warning" 106),(eT P "FloatingPointError" 107),(eT P "OverflowError" 108),(eT P "ZeroDivisionError" 109),(eT P "BytesWarning" 110),(eT P "DeprecationWarning" 111),(eT P "EncodingWarning" 112),(eT P "FutureWarning" 113),(eT P "ImportWarning" 114),(eT P "PendingDeprecationWarning" 115),(eT P "ResourceWarning" 116),(eT P "RuntimeWarning" 117),(eT P "SyntaxWarning" 118),(eT P "UnicodeWarning" 119),(eT P "UserWarning" 120),(eT P "BlockingIOError" 121),(eT P "ChildProcessError" 122),(eT P "ConnectionError" 123),(eT P "FileExistsError" 124),(eT P "FileNotFoundError" 125),(eT P "InterruptedError" 126),(eT P "IsADirectoryError" 127),(eT P "NotADirectoryError" 128),(eT P "PermissionError" 129),(eT P "ProcessLookupError" 130),(eT P "TimeoutError" 131),(eT P "IndentationError" 132),(eT P "_IncompleteInputError" 133),(eT P "IndexError" 134),(eT P "KeyError" 135),(eT P "ModuleNotFoundError" 136),(eT P "NotImplementedError" 137),(eT P "PythonFinalizationError" 138),(eT P "RecursionError" 139),(eT P "UnboundLocalError" 140),(eT P "UnicodeError" 141),(eT P "BrokenPipeError" 142),(eT P "ConnectionAbortedError" 143),(eT P "ConnectionRefusedError" 144),(eT P "ConnectionResetError" 145),(eT P "TabError" 146),(eT P "UnicodeDecodeError" 147),(eT P "UnicodeEncodeError" 148),(eT P "UnicodeTranslateError" 149),(eT P "ExceptionGroup" 150),(E P "EnvironmentError" 151 (.type "OSError")),(E P "IOError" 152 (.type "OSError")),(eB P "open" 153),(E P "quit" 154 (.builtin "builtins.quit#opaque")),(E P "exit" 155 (.builtin "builtins.exit#opaque")),(E P "copyright" 156 (.builtin "builtins.copyright#opaque")),(E P "credits" 157 (.builtin "builtins.credits#opaque")),(E P "license" 158 (.builtin "builtins.license#opaque")),(E P "help" 159 (.builtin "builtins.help#opaque"))] 159),#[]⟩
noncomputable def b1:Obj:=⟨(.type "dict"),none,(.dict #[(eR P "builtins" 162 4),(eR P "__main__" 163 5)] 2),#[]⟩
noncomputable def b2:Obj:=⟨.none,none,(.dict #[] 0),#[]⟩
noncomputable def mL:List DictEntry:=[(E P "__name__" 165 (.str "law_edgetally_k16_whole_dealings_closed" 636)),(E P "__doc__" 166 .none),(E P "__package__" 167 .none),(E P "__loader__" 168 (.builtin "__main__.__loader__#opaque")),(E P "__spec__" 169 .none),(eR P "__annotations__" 170 6),(eR P "__builtins__" 171 4),(E P "__file__" 173 (.str "/claim/cut.py" 172)),(E P "__cached__" 174 .none),(eR P "_wall" 193 21),(eR P "EdgeError" 223 38),(eR P "BadSums" 248 59),(eR P "BadBounds" 273 79),(eR P "TooWide" 298 98),(eR P "Barred" 325 117),(eR P "BadNumber" 350 137),(E P "MOST" 354 (.int 40 353)),(E P "MOST_ROWS" 356 (.int 4 355)),(E P "MOST_COLUMNS" 358 (.int 6 357)),(eR P "FREE" 360 140),(eR P "free" 367 146),(eR P "check_sums" 373 151),(eR P "check_pair" 382 158),(eR P "settled_bounds" 388 163),(eR P "factorial" 399 170),(eR P "ways" 408 177),(eR P "fillings" 414 182),(eR P "need_of" 422 187),(eR P "room_inside" 428 192),(eR P "room_beside" 434 197),(eR P "room_of" 440 202),(eR P "narrowest" 446 207),(eR P "choices" 452 212),(eR P "check_fit" 463 219),(E P "WIDE" 467 (.int 500 466)),(eR P "check_wide" 476 226),(eR P "settled_for_net" 486 233),(eR P "column_fillings" 492 238),(eR P "rests_behind" 498 243),(eR P "nodes_by_level" 504 248),(eR P "node_counts" 518 255),(eR P "counted_nodes" 524 260),(eR P "Net" 635 346),(eR P "_law_bag" 643 355),(eR P "_law_pull" 654 362),(eR P "_law_same" 660 367),(eR P "_law_grid" 666 372),(eR P "_law_wide" 676 379),(eR P "_law_large" 686 386),(eR P "_law_turned" 692 391),(eR P "_law_rowsums" 698 396),(eR P "_law_columnsums" 704 401),(eR P "_law_factorial" 713 408),(eR P "_law_ways" 722 415),(eR P "law" 736 422)]
noncomputable def b3:Obj:=⟨(.type "dict"),none,(.dict (mL P).toArray 55),#[]⟩
noncomputable def b4:Obj:=⟨(.type "module"),(some 0),.plain,#[]⟩
noncomputable def b5:Obj:=⟨(.type "module"),(some 3),.plain,#[]⟩
noncomputable def b6:Obj:=⟨(.type "dict"),none,(.dict #[] 0),#[]⟩
noncomputable def b7:Obj:=tO []
noncomputable def b8:Obj:=nO []
noncomputable def b9:Obj:=cC "<module>" "<module>" 176 1 0 0 0 0 7 false 175 8 .none .none .none .none 179 1 180
noncomputable def b10:Obj:=⟨(.type "frame"),none,.plain,#[(some (.ref 9)),(some (.ref 3)),(some (.ref 3)),none,(some (.str "__main__" 164)),none,(some (.ref 0))]⟩
noncomputable def b12:Obj:=nO [(.int 1 0),(.int 0 0),(.ref 20),(.int 5 0),(.int 0 0),(.ref 27),(.int 10 0),(.int 0 0),(.ref 47),(.int 14 0),(.int 0 0),(.ref 67),(.int 18 0),(.int 0 0),(.ref 87),(.int 23 0),(.int 0 0),(.ref 106),(.int 29 0),(.int 0 0),(.ref 125),(.int 38 0),(.int 0 0),(.ref 145),(.int 40 0),(.int 0 0),(.ref 150),(.int 51 0),(.int 0 0),(.ref 157),(.int 55 0),(.int 0 0),(.ref 162),(.int 65 0),(.int 0 0),(.ref 169),(.int 70 0),(.int 0 0),(.ref 176),(.int 78 0),(.int 0 0),(.ref 181),(.int 88 0),(.int 0 0),(.ref 186),(.int 90 0),(.int 0 0),(.ref 191),(.int 93 0),(.int 0 0),(.ref 196),(.int 95 0),(.int 0 0),(.ref 201),(.int 97 0),(.int 0 0),(.ref 206),(.int 99 0),(.int 0 0),(.ref 211),(.int 104 0),(.int 0 0),(.ref 218),(.int 111 0),(.int 0 0),(.ref 225),(.int 117 0),(.int 0 0),(.ref 232),(.int 122 0),(.int 0 0),(.ref 237),(.int 124 0),(.int 0 0),(.ref 242),(.int 126 0),(.int 0 0),(.ref 247),(.int 134 0),(.int 0 0),(.ref 254),(.int 142 0),(.int 0 0),(.ref 259),(.int 152 0),(.int 0 0),(.ref 266),(.int 192 0),(.int 0 0),(.ref 354),(.int 194 0),(.int 0 0),(.ref 361),(.int 204 0),(.int 0 0),(.ref 366),(.int 216 0),(.int 0 0),(.ref 371),(.int 223 0),(.int 0 0),(.ref 378),(.int 229 0),(.int 0 0),(.ref 385),(.int 240 0),(.int 0 0),(.ref 390),(.int 242 0),(.int 0 0),(.ref 395),(.int 244 0),(.int 0 0),(.ref 400),(.int 246 0),(.int 0 0),(.ref 407),(.int 251 0),(.int 0 0),(.ref 414),(.int 256 0),(.int 0 0),(.ref 421)]
noncomputable def b13:Obj:=cC "<module>" "<module>" 182 1 0 0 0 0 11 false 181 12 .none .none .none .none 185 1 186
noncomputable def b14:Obj:=⟨(.type "frame"),none,.plain,#[(some (.ref 13)),(some (.ref 3)),(some (.ref 3)),none,(some (.str "__main__" 164)),none,(some (.ref 0))]⟩
noncomputable def b17:Obj:=tO [(.str "k" 190)]
noncomputable def b19:Obj:=fB "_wall" "_wall" (top 0)
noncomputable def b20:Obj:=cG "_wall" 187 1 1 0 15 181 191
noncomputable def b21:Obj:=fM "__main__" 164 "_wall" 0 20
noncomputable def b22:Obj:=tO [(.type "ValueError")]
noncomputable def b23:Obj:=⟨(.type "builtin_function_or_method"),none,(.fields #[(.builtin "type.__prepare__"),(.type "type")]),#[]⟩
noncomputable def b24:Obj:=⟨(.type "dict"),none,(.dict #[(E P "__module__" 203 (.str "edgetally.errors" 194)),(E P "__qualname__" 205 (.str "EdgeError" 204)),(E P "__firstlineno__" 207 (.int 5 206)),(eR P "__init__" 216 35),(eR P "__static_attributes__" 218 36)] 5),#[]⟩
noncomputable def b26:Obj:=nO [(.int 7 0),(.int 4 0),(.ref 34)]
noncomputable def b27:Obj:=cC "EdgeError" "EdgeError" 198 5 0 0 0 0 25 false 181 26 .none .none .none .none 201 5 202
noncomputable def b28:Obj:=⟨(.type "frame"),none,.plain,#[(some (.ref 27)),(some (.ref 3)),(some (.ref 24)),none,(some (.str "edgetally.errors" 194)),none,(some (.ref 0))]⟩
noncomputable def b31:Obj:=tO [(.str "self" 211),(.str "word" 212),(.str "why" 213)]
noncomputable def b33:Obj:=fB "__init__" "EdgeError.__init__" (am (top 2) 0)
noncomputable def b34:Obj:=cC "__init__" "EdgeError.__init__" 208 7 3 0 0 3 29 true 181 30 .none (.ref 31) (.ref 32) (.ref 33) 214 7 215
noncomputable def b35:Obj:=fO (FN "__init__" "EdgeError.__init__" (am (top 2) 0) .none .none .none (.str "edgetally.errors" 194) none (.ref 34) .none)
noncomputable def b36:Obj:=tO [(.str "word" 217)]
noncomputable def b37:Obj:=⟨(.type "dict"),none,(.dict #[(E P "__module__" 203 (.str "edgetally.errors" 194)),(E P "__firstlineno__" 207 (.int 5 206)),(eR P "__init__" 216 35),(eR P "__static_attributes__" 218 36),(eR P "__weakref__" 220 39),(E P "__doc__" 221 .none)] 3),#[]⟩
noncomputable def b38:Obj:=⟨(.type "type"),none,(.cls ⟨"EdgeError",[(.type "ValueError")],[(.ref 38),(.type "ValueError"),(.type "Exception"),(.type "BaseException"),(.type "object")],37,"EdgeError",true,[],[(.ref 59),(.ref 79),(.ref 98),(.ref 117),(.ref 137)],false,none,false⟩),#[(some (.ref 22)),none,(some (.str "EdgeError" 196)),(some (.str "EdgeError" 204)),(some (.builtin "ValueError.__new__")),(some (.bool true))]⟩
noncomputable def b39:Obj:=⟨(.type "getset_descriptor"),none,(.fields #[(.str "__weakref__" 219),(.ref 38),(.builtin "ExceptionGroup.__weakref__"),.none]),#[]⟩
noncomputable def b40:Obj:=⟨(.type "super"),none,(.fields #[(.ref 38),(.ref 38),(.ref 38)]),#[]⟩
noncomputable def b41:Obj:=⟨(.type "builtin_function_or_method"),none,(.fields #[(.builtin "object.__init_subclass__"),(.ref 38)]),#[]⟩
noncomputable def b42:Obj:=tO [(.ref 38)]
noncomputable def b44:Obj:=⟨(.type "dict"),none,(.dict #[(E P "__module__" 231 (.str "edgetally.errors" 194)),(E P "__qualname__" 233 (.str "BadSums" 232)),(E P "__firstlineno__" 235 (.int 10 234)),(eR P "__init__" 244 56),(eR P "__static_attributes__" 245 57)] 5),#[]⟩
noncomputable def b46:Obj:=nO [(.int 12 0),(.int 4 0),(.ref 55)]
noncomputable def b47:Obj:=cC "BadSums" "BadSums" 226 10 0 0 0 0 45 false 181 46 .none .none .none .none 229 10 230
noncomputable def b48:Obj:=⟨(.type "frame"),none,.plain,#[(some (.ref 47)),(some (.ref 3)),(some (.ref 44)),none,(some (.str "edgetally.errors" 194)),none,(some (.ref 0))]⟩
noncomputable def b49:Obj:=tO [(.str "these sums are no table's" 236)]
noncomputable def b52:Obj:=tO [(.str "self" 240),(.str "why" 241)]
noncomputable def b54:Obj:=fB "__init__" "BadSums.__init__" (am (top 3) 0)
noncomputable def b55:Obj:=cC "__init__" "BadSums.__init__" 237 12 2 0 0 3 50 true 181 51 .none (.ref 52) (.ref 53) (.ref 54) 242 12 243
noncomputable def b56:Obj:=fO (FN "__init__" "BadSums.__init__" (am (top 3) 0) (.ref 49) .none .none (.str "edgetally.errors" 194) none (.ref 55) .none)
noncomputable def b58:Obj:=⟨(.type "dict"),none,(.dict #[(E P "__module__" 231 (.str "edgetally.errors" 194)),(E P "__firstlineno__" 235 (.int 10 234)),(eR P "__init__" 244 56),(eR P "__static_attributes__" 245 57),(E P "__doc__" 246 .none)] 2),#[]⟩
noncomputable def b59:Obj:=⟨(.type "type"),none,(.cls ⟨"BadSums",[(.ref 38)],[(.ref 59),(.ref 38),(.type "ValueError"),(.type "Exception"),(.type "BaseException"),(.type "object")],58,"BadSums",true,[],[],false,none,false⟩),#[(some (.ref 42)),none,(some (.str "BadSums" 224)),(some (.str "BadSums" 232)),(some (.builtin "ValueError.__new__")),(some (.bool true))]⟩
noncomputable def b60:Obj:=⟨(.type "super"),none,(.fields #[(.ref 59),(.ref 59),(.ref 59)]),#[]⟩
noncomputable def b61:Obj:=⟨(.type "builtin_function_or_method"),none,(.fields #[(.builtin "object.__init_subclass__"),(.ref 59)]),#[]⟩
noncomputable def b64:Obj:=⟨(.type "dict"),none,(.dict #[(E P "__module__" 256 (.str "edgetally.errors" 194)),(E P "__qualname__" 258 (.str "BadBounds" 257)),(E P "__firstlineno__" 260 (.int 14 259)),(eR P "__init__" 269 76),(eR P "__static_attributes__" 270 77)] 5),#[]⟩
noncomputable def b66:Obj:=nO [(.int 16 0),(.int 4 0),(.ref 75)]
noncomputable def b67:Obj:=cC "BadBounds" "BadBounds" 251 14 0 0 0 0 65 false 181 66 .none .none .none .none 254 14 255
noncomputable def b68:Obj:=⟨(.type "frame"),none,.plain,#[(some (.ref 67)),(some (.ref 3)),(some (.ref 64)),none,(some (.str "edgetally.errors" 194)),none,(some (.ref 0))]⟩
noncomputable def b69:Obj:=tO [(.str "these bounds are no table's" 261)]
noncomputable def b72:Obj:=tO [(.str "self" 265),(.str "why" 266)]
noncomputable def b74:Obj:=fB "__init__" "BadBounds.__init__" (am (top 4) 0)
noncomputable def b75:Obj:=cC "__init__" "BadBounds.__init__" 262 16 2 0 0 3 70 true 181 71 .none (.ref 72) (.ref 73) (.ref 74) 267 16 268
noncomputable def b76:Obj:=fO (FN "__init__" "BadBounds.__init__" (am (top 4) 0) (.ref 69) .none .none (.str "edgetally.errors" 194) none (.ref 75) .none)
noncomputable def b78:Obj:=⟨(.type "dict"),none,(.dict #[(E P "__module__" 256 (.str "edgetally.errors" 194)),(E P "__firstlineno__" 260 (.int 14 259)),(eR P "__init__" 269 76),(eR P "__static_attributes__" 270 77),(E P "__doc__" 271 .none)] 2),#[]⟩
noncomputable def b79:Obj:=⟨(.type "type"),none,(.cls ⟨"BadBounds",[(.ref 38)],[(.ref 79),(.ref 38),(.type "ValueError"),(.type "Exception"),(.type "BaseException"),(.type "object")],78,"BadBounds",true,[],[],false,none,false⟩),#[(some (.ref 62)),none,(some (.str "BadBounds" 249)),(some (.str "BadBounds" 257)),(some (.builtin "ValueError.__new__")),(some (.bool true))]⟩
noncomputable def b80:Obj:=⟨(.type "super"),none,(.fields #[(.ref 79),(.ref 79),(.ref 79)]),#[]⟩
noncomputable def b81:Obj:=⟨(.type "builtin_function_or_method"),none,(.fields #[(.builtin "object.__init_subclass__"),(.ref 79)]),#[]⟩
noncomputable def b84:Obj:=⟨(.type "dict"),none,(.dict #[(E P "__module__" 281 (.str "edgetally.errors" 194)),(E P "__qualname__" 283 (.str "TooWide" 282)),(E P "__firstlineno__" 285 (.int 18 284)),(eR P "__init__" 293 95),(eR P "__static_attributes__" 295 96)] 5),#[]⟩
noncomputable def b86:Obj:=nO [(.int 20 0),(.int 4 0),(.ref 94)]
noncomputable def b87:Obj:=cC "TooWide" "TooWide" 276 18 0 0 0 0 85 false 181 86 .none .none .none .none 279 18 280
noncomputable def b88:Obj:=⟨(.type "frame"),none,.plain,#[(some (.ref 87)),(some (.ref 3)),(some (.ref 84)),none,(some (.str "edgetally.errors" 194)),none,(some (.ref 0))]⟩
noncomputable def b91:Obj:=tO [(.str "self" 289),(.str "wide" 290)]
noncomputable def b93:Obj:=fB "__init__" "TooWide.__init__" (am (top 5) 0)
noncomputable def b94:Obj:=cC "__init__" "TooWide.__init__" 286 20 2 0 0 3 89 true 181 90 .none (.ref 91) (.ref 92) (.ref 93) 291 20 292
noncomputable def b95:Obj:=fO (FN "__init__" "TooWide.__init__" (am (top 5) 0) .none .none .none (.str "edgetally.errors" 194) none (.ref 94) .none)
noncomputable def b96:Obj:=tO [(.str "wide" 294)]
noncomputable def b97:Obj:=⟨(.type "dict"),none,(.dict #[(E P "__module__" 281 (.str "edgetally.errors" 194)),(E P "__firstlineno__" 285 (.int 18 284)),(eR P "__init__" 293 95),(eR P "__static_attributes__" 295 96),(E P "__doc__" 296 .none)] 2),#[]⟩
noncomputable def b98:Obj:=⟨(.type "type"),none,(.cls ⟨"TooWide",[(.ref 38)],[(.ref 98),(.ref 38),(.type "ValueError"),(.type "Exception"),(.type "BaseException"),(.type "object")],97,"TooWide",true,[],[],false,none,false⟩),#[(some (.ref 82)),none,(some (.str "TooWide" 274)),(some (.str "TooWide" 282)),(some (.builtin "ValueError.__new__")),(some (.bool true))]⟩
noncomputable def b99:Obj:=⟨(.type "super"),none,(.fields #[(.ref 98),(.ref 98),(.ref 98)]),#[]⟩
noncomputable def b100:Obj:=⟨(.type "builtin_function_or_method"),none,(.fields #[(.builtin "object.__init_subclass__"),(.ref 98)]),#[]⟩
noncomputable def b103:Obj:=⟨(.type "dict"),none,(.dict #[(E P "__module__" 306 (.str "edgetally.errors" 194)),(E P "__qualname__" 308 (.str "Barred" 307)),(E P "__firstlineno__" 310 (.int 23 309)),(eR P "__init__" 319 114),(eR P "__static_attributes__" 322 115)] 5),#[]⟩
noncomputable def b105:Obj:=nO [(.int 25 0),(.int 4 0),(.ref 113)]
noncomputable def b106:Obj:=cC "Barred" "Barred" 301 23 0 0 0 0 104 false 181 105 .none .none .none .none 304 23 305
noncomputable def b107:Obj:=⟨(.type "frame"),none,.plain,#[(some (.ref 106)),(some (.ref 3)),(some (.ref 103)),none,(some (.str "edgetally.errors" 194)),none,(some (.ref 0))]⟩
noncomputable def b110:Obj:=tO [(.str "self" 314),(.str "over" 315),(.str "into" 316)]
noncomputable def b112:Obj:=fB "__init__" "Barred.__init__" (am (top 6) 0)
noncomputable def b113:Obj:=cC "__init__" "Barred.__init__" 311 25 3 0 0 3 108 true 181 109 .none (.ref 110) (.ref 111) (.ref 112) 317 25 318
noncomputable def b114:Obj:=fO (FN "__init__" "Barred.__init__" (am (top 6) 0) .none .none .none (.str "edgetally.errors" 194) none (.ref 113) .none)
noncomputable def b115:Obj:=tO [(.str "into" 320),(.str "over" 321)]
noncomputable def b116:Obj:=⟨(.type "dict"),none,(.dict #[(E P "__module__" 306 (.str "edgetally.errors" 194)),(E P "__firstlineno__" 310 (.int 23 309)),(eR P "__init__" 319 114),(eR P "__static_attributes__" 322 115),(E P "__doc__" 323 .none)] 2),#[]⟩
noncomputable def b117:Obj:=⟨(.type "type"),none,(.cls ⟨"Barred",[(.ref 38)],[(.ref 117),(.ref 38),(.type "ValueError"),(.type "Exception"),(.type "BaseException"),(.type "object")],116,"Barred",true,[],[],false,none,false⟩),#[(some (.ref 101)),none,(some (.str "Barred" 299)),(some (.str "Barred" 307)),(some (.builtin "ValueError.__new__")),(some (.bool true))]⟩
noncomputable def b118:Obj:=⟨(.type "super"),none,(.fields #[(.ref 117),(.ref 117),(.ref 117)]),#[]⟩
noncomputable def b119:Obj:=⟨(.type "builtin_function_or_method"),none,(.fields #[(.builtin "object.__init_subclass__"),(.ref 117)]),#[]⟩
noncomputable def b122:Obj:=⟨(.type "dict"),none,(.dict #[(E P "__module__" 333 (.str "edgetally.errors" 194)),(E P "__qualname__" 335 (.str "BadNumber" 334)),(E P "__firstlineno__" 337 (.int 29 336)),(eR P "__init__" 346 134),(eR P "__static_attributes__" 347 135)] 5),#[]⟩
noncomputable def b124:Obj:=nO [(.int 31 0),(.int 4 0),(.ref 133)]
noncomputable def b125:Obj:=cC "BadNumber" "BadNumber" 328 29 0 0 0 0 123 false 181 124 .none .none .none .none 331 29 332
noncomputable def b126:Obj:=⟨(.type "frame"),none,.plain,#[(some (.ref 125)),(some (.ref 3)),(some (.ref 122)),none,(some (.str "edgetally.errors" 194)),none,(some (.ref 0))]⟩
noncomputable def KZ:Obj:=tO [(.str "this number is out of its bounds" 338)]
noncomputable def b130:Obj:=tO [(.str "self" 342),(.str "why" 343)]
noncomputable def b132:Obj:=fB "__init__" "BadNumber.__init__" (am (top 7) 0)
noncomputable def KY:Obj:=cC "__init__" "BadNumber.__init__" 339 31 2 0 0 3 128 true 181 129 .none (.ref 130) (.ref 131) (.ref 132) 344 31 345
noncomputable def KW:Obj:=fO (FN "__init__" "BadNumber.__init__" (am (top 7) 0) (.ref 127) .none .none (.str "edgetally.errors" 194) none (.ref 133) .none)
noncomputable def KU:Obj:=⟨(.type "dict"),none,(.dict #[(E P "__module__" 333 (.str "edgetally.errors" 194)),(E P "__firstlineno__" 337 (.int 29 336)),(eR P "__init__" 346 134),(eR P "__static_attributes__" 347 135),(E P "__doc__" 348 .none)] 2),#[]⟩
noncomputable def KS:Obj:=⟨(.type "type"),none,(.cls ⟨"BadNumber",[(.ref 38)],[(.ref 137),(.ref 38),(.type "ValueError"),(.type "Exception"),(.type "BaseException"),(.type "object")],136,"BadNumber",true,[],[],false,none,false⟩),#[(some (.ref 120)),none,(some (.str "BadNumber" 326)),(some (.str "BadNumber" 334)),(some (.builtin "ValueError.__new__")),(some (.bool true))]⟩
noncomputable def b138:Obj:=⟨(.type "super"),none,(.fields #[(.ref 137),(.ref 137),(.ref 137)]),#[]⟩
noncomputable def b139:Obj:=⟨(.type "builtin_function_or_method"),none,(.fields #[(.builtin "object.__init_subclass__"),(.ref 137)]),#[]⟩
noncomputable def KR:Obj:=tO [(.int 0 359),(.int 40 353)]
noncomputable def KQ:Obj:=⟨(.type "dict"),none,(.dict #[(eR P "pair" 361 140)] 1),#[]⟩
noncomputable def b144:Obj:=fB "free" "free" (top 13)
noncomputable def KP:Obj:=cF "free" 362 38 2 1 142 181 365
noncomputable def KO:Obj:=fO (FN "free" "free" (top 13) .none (.ref 141) .none (.str "edgetally.bounds" 351) none (.ref 145) .none)
noncomputable def b149:Obj:=fB "check_sums" "check_sums" (top 14)
noncomputable def KN:Obj:=cF "check_sums" 368 40 2 0 147 181 371
noncomputable def KM:Obj:=fM "edgetally.bounds" 351 "check_sums" 14 150
noncomputable def b154:Obj:=tO [(.str "pair" 377),(.str "low" 378),(.str "high" 379)]
noncomputable def b156:Obj:=fB "check_pair" "check_pair" (top 15)
noncomputable def KK:Obj:=cG "check_pair" 374 51 1 0 152 181 380
noncomputable def KJ:Obj:=fM "edgetally.bounds" 351 "check_pair" 15 157
noncomputable def b161:Obj:=fB "settled_bounds" "settled_bounds" (top 16)
noncomputable def KI:Obj:=cF "settled_bounds" 383 55 3 0 159 181 386
noncomputable def KG:Obj:=fM "edgetally.bounds" 351 "settled_bounds" 16 162
noncomputable def b166:Obj:=tO [(.str "number" 394),(.str "product" 395),(.str "factor" 396)]
noncomputable def b168:Obj:=fB "factorial" "factorial" (top 18)
noncomputable def KF:Obj:=cG "factorial" 391 65 1 0 164 181 397
noncomputable def KE:Obj:=fM "edgetally.counts" 389 "factorial" 18 169
noncomputable def b173:Obj:=tO [(.str "parts" 403),(.str "part" 404),(.str "told" 405)]
noncomputable def b175:Obj:=fB "ways" "ways" (top 19)
noncomputable def KD:Obj:=cG "ways" 400 70 1 0 171 181 406
noncomputable def KC:Obj:=fM "edgetally.counts" 389 "ways" 19 176
noncomputable def b180:Obj:=fB "fillings" "fillings" (top 20)
noncomputable def KA:Obj:=cF "fillings" 409 78 3 0 178 181 412
noncomputable def Kz:Obj:=fM "edgetally.counts" 389 "fillings" 20 181
noncomputable def b185:Obj:=fB "need_of" "need_of" (top 22)
noncomputable def Ky:Obj:=cF "need_of" 417 88 2 0 183 181 420
noncomputable def Kx:Obj:=fM "edgetally.fits" 415 "need_of" 22 186
noncomputable def b190:Obj:=fB "room_inside" "room_inside" (top 23)
noncomputable def Kw:Obj:=cF "room_inside" 423 90 4 0 188 181 426
noncomputable def Kv:Obj:=fM "edgetally.fits" 415 "room_inside" 23 191
noncomputable def b195:Obj:=fB "room_beside" "room_beside" (top 24)
noncomputable def Ku:Obj:=cF "room_beside" 429 93 3 0 193 181 432
noncomputable def Kt:Obj:=fM "edgetally.fits" 415 "room_beside" 24 196
noncomputable def b200:Obj:=fB "room_of" "room_of" (top 25)
noncomputable def Ks:Obj:=cF "room_of" 435 95 4 0 198 181 438
noncomputable def Kr:Obj:=fM "edgetally.fits" 415 "room_of" 25 201
noncomputable def b205:Obj:=fB "narrowest" "narrowest" (top 26)
noncomputable def Kq:Obj:=cF "narrowest" 441 97 3 0 203 181 444
noncomputable def Kp:Obj:=fM "edgetally.fits" 415 "narrowest" 26 206
noncomputable def b210:Obj:=fB "choices" "choices" (top 27)
noncomputable def Ko:Obj:=cF "choices" 447 99 1 0 208 181 450
noncomputable def Kn:Obj:=fM "edgetally.fits" 415 "choices" 27 211
noncomputable def b215:Obj:=tO [(.str "rowsums" 456),(.str "columnsums" 457),(.str "bounds" 458),(.str "over" 459),(.str "into" 460)]
noncomputable def b217:Obj:=fB "check_fit" "check_fit" (top 28)
noncomputable def Km:Obj:=cG "check_fit" 453 104 3 0 213 181 461
noncomputable def Kl:Obj:=fM "edgetally.fits" 415 "check_fit" 28 218
noncomputable def b222:Obj:=tO [(.str "rowsums" 471),(.str "wide" 472),(.str "many" 473)]
noncomputable def b224:Obj:=fB "check_wide" "check_wide" (top 31)
noncomputable def Kk:Obj:=cG "check_wide" 468 111 1 0 220 181 474
noncomputable def Kj:Obj:=fM "edgetally.net" 464 "check_wide" 31 225
noncomputable def b229:Obj:=tO [(.str "rowsums" 480),(.str "columnsums" 481),(.str "bounds" 482),(.str "settled" 483)]
noncomputable def b231:Obj:=fB "settled_for_net" "settled_for_net" (top 32)
noncomputable def Ki:Obj:=cG "settled_for_net" 477 117 3 0 227 181 484
noncomputable def Kh:Obj:=fM "edgetally.net" 464 "settled_for_net" 32 232
noncomputable def b236:Obj:=fB "column_fillings" "column_fillings" (top 33)
noncomputable def Kg:Obj:=cF "column_fillings" 487 122 4 0 234 181 490
noncomputable def Kf:Obj:=fM "edgetally.net" 464 "column_fillings" 33 237
noncomputable def b241:Obj:=fB "rests_behind" "rests_behind" (top 34)
noncomputable def Ke:Obj:=cF "rests_behind" 493 124 2 0 239 181 496
noncomputable def Kd:Obj:=fM "edgetally.net" 464 "rests_behind" 34 242
noncomputable def b246:Obj:=fB "nodes_by_level" "nodes_by_level" (top 35)
noncomputable def Kc:Obj:=cF "nodes_by_level" 499 126 3 0 244 181 502
noncomputable def Kb:Obj:=fM "edgetally.net" 464 "nodes_by_level" 35 247
noncomputable def b251:Obj:=tO [(.str "rests" 508),(.str "filled" 509),(.str "behind" 510),(.str "tables" 511),(.str "dealings" 512),(.str "counts" 513),(.str "tables_behind" 514),(.str "dealings_behind" 515)]
noncomputable def b253:Obj:=fB "node_counts" "node_counts" (top 36)
noncomputable def Ka:Obj:=cG "node_counts" 505 134 3 0 249 181 516
noncomputable def J9:Obj:=fM "edgetally.net" 464 "node_counts" 36 254
noncomputable def b258:Obj:=fB "counted_nodes" "counted_nodes" (top 37)
noncomputable def J8:Obj:=cF "counted_nodes" 519 142 3 0 256 181 522
noncomputable def J7:Obj:=fM "edgetally.net" 464 "counted_nodes" 37 259
noncomputable def b263:Obj:=⟨(.type "dict"),none,(.dict #[(E P "__module__" 532 (.str "edgetally.net" 464)),(E P "__qualname__" 534 (.str "Net" 533)),(E P "__firstlineno__" 536 (.int 152 535)),(eR P "__init__" 548 275),(eR P "__eq__" 556 282),(eR P "__len__" 563 289),(eR P "rowsums" 570 296),(eR P "columnsums" 577 303),(eR P "bounds" 583 308),(eR P "counts_at" 592 315),(eR P "tables" 599 322),(eR P "dealings" 606 329),(eR P "steps" 615 336),(eR P "paper" 622 343),(eR P "__static_attributes__" 627 344)] 15),#[]⟩
noncomputable def b265:Obj:=nO [(.int 154 0),(.int 4 0),(.ref 274),(.int 162 0),(.int 4 0),(.ref 281),(.int 165 0),(.int 4 0),(.ref 288),(.int 168 0),(.int 4 0),(.ref 295),(.int 171 0),(.int 4 0),(.ref 302),(.int 174 0),(.int 4 0),(.ref 307),(.int 177 0),(.int 4 0),(.ref 314),(.int 180 0),(.int 4 0),(.ref 321),(.int 183 0),(.int 4 0),(.ref 328),(.int 186 0),(.int 4 0),(.ref 335),(.int 189 0),(.int 4 0),(.ref 342)]
noncomputable def b266:Obj:=cC "Net" "Net" 527 152 0 0 0 0 264 false 181 265 .none .none .none .none 530 152 531
noncomputable def b267:Obj:=⟨(.type "frame"),none,.plain,#[(some (.ref 266)),(some (.ref 3)),(some (.ref 263)),none,(some (.str "edgetally.net" 464)),none,(some (.ref 0))]⟩
noncomputable def J6:Obj:=⟨(.type "dict"),none,(.dict #[(E P "bounds" 537 .none)] 1),#[]⟩
noncomputable def b271:Obj:=tO [(.str "self" 541),(.str "rowsums" 542),(.str "columnsums" 543),(.str "bounds" 544),(.str "settled" 545)]
noncomputable def b273:Obj:=fB "__init__" "Net.__init__" (am (top 38) 0)
noncomputable def J5:Obj:=cC "__init__" "Net.__init__" 538 154 3 0 1 3 269 true 181 270 .none (.ref 271) (.ref 272) (.ref 273) 546 154 547
noncomputable def J4:Obj:=fO (FN "__init__" "Net.__init__" (am (top 38) 0) .none (.ref 268) .none (.str "edgetally.net" 464) none (.ref 274) .none)
noncomputable def b278:Obj:=tO [(.str "self" 552),(.str "other" 553)]
noncomputable def b280:Obj:=fB "__eq__" "Net.__eq__" (am (top 38) 1)
noncomputable def b281:Obj:=cC "__eq__" "Net.__eq__" 549 162 2 0 0 3 276 true 181 277 .none (.ref 278) (.ref 279) (.ref 280) 554 162 555
noncomputable def b282:Obj:=fO (FN "__eq__" "Net.__eq__" (am (top 38) 1) .none .none .none (.str "edgetally.net" 464) none (.ref 281) .none)
noncomputable def b285:Obj:=tO [(.str "self" 560)]
noncomputable def b287:Obj:=fB "__len__" "Net.__len__" (am (top 38) 2)
noncomputable def b288:Obj:=cC "__len__" "Net.__len__" 557 165 1 0 0 3 283 true 181 284 .none (.ref 285) (.ref 286) (.ref 287) 561 165 562
noncomputable def b289:Obj:=fO (FN "__len__" "Net.__len__" (am (top 38) 2) .none .none .none (.str "edgetally.net" 464) none (.ref 288) .none)
noncomputable def b292:Obj:=tO [(.str "self" 567)]
noncomputable def b294:Obj:=fB "rowsums" "Net.rowsums" (am (top 38) 3)
noncomputable def b295:Obj:=cC "rowsums" "Net.rowsums" 564 168 1 0 0 3 290 true 181 291 .none (.ref 292) (.ref 293) (.ref 294) 568 168 569
noncomputable def b296:Obj:=fO (FN "rowsums" "Net.rowsums" (am (top 38) 3) .none .none .none (.str "edgetally.net" 464) none (.ref 295) .none)
noncomputable def b299:Obj:=tO [(.str "self" 574)]
noncomputable def b301:Obj:=fB "columnsums" "Net.columnsums" (am (top 38) 4)
noncomputable def b302:Obj:=cC "columnsums" "Net.columnsums" 571 171 1 0 0 3 297 true 181 298 .none (.ref 299) (.ref 300) (.ref 301) 575 171 576
noncomputable def b303:Obj:=fO (FN "columnsums" "Net.columnsums" (am (top 38) 4) .none .none .none (.str "edgetally.net" 464) none (.ref 302) .none)
noncomputable def b306:Obj:=fB "bounds" "Net.bounds" (am (top 38) 5)
noncomputable def b307:Obj:=cC "bounds" "Net.bounds" 578 174 1 0 0 3 304 true 181 305 .none .none .none (.ref 306) 581 174 582
noncomputable def b308:Obj:=fO (FN "bounds" "Net.bounds" (am (top 38) 5) .none .none .none (.str "edgetally.net" 464) none (.ref 307) .none)
noncomputable def b311:Obj:=tO [(.str "self" 587),(.str "level" 588),(.str "rests" 589)]
noncomputable def b313:Obj:=fB "counts_at" "Net.counts_at" (am (top 38) 6)
noncomputable def J3:Obj:=cC "counts_at" "Net.counts_at" 584 177 3 0 0 3 309 true 181 310 .none (.ref 311) (.ref 312) (.ref 313) 590 177 591
noncomputable def J2:Obj:=fO (FN "counts_at" "Net.counts_at" (am (top 38) 6) .none .none .none (.str "edgetally.net" 464) none (.ref 314) .none)
noncomputable def b318:Obj:=tO [(.str "self" 596)]
noncomputable def b320:Obj:=fB "tables" "Net.tables" (am (top 38) 7)
noncomputable def J1:Obj:=cC "tables" "Net.tables" 593 180 1 0 0 3 316 true 181 317 .none (.ref 318) (.ref 319) (.ref 320) 597 180 598
noncomputable def J0:Obj:=fO (FN "tables" "Net.tables" (am (top 38) 7) .none .none .none (.str "edgetally.net" 464) none (.ref 321) .none)
noncomputable def b325:Obj:=tO [(.str "self" 603)]
noncomputable def b327:Obj:=fB "dealings" "Net.dealings" (am (top 38) 8)
noncomputable def JZ:Obj:=cC "dealings" "Net.dealings" 600 183 1 0 0 3 323 true 181 324 .none (.ref 325) (.ref 326) (.ref 327) 604 183 605
noncomputable def JY:Obj:=fO (FN "dealings" "Net.dealings" (am (top 38) 8) .none .none .none (.str "edgetally.net" 464) none (.ref 328) .none)
noncomputable def b332:Obj:=tO [(.str "self" 610),(.str "level" 611),(.str "rests" 612)]
noncomputable def b334:Obj:=fB "steps" "Net.steps" (am (top 38) 9)
noncomputable def b335:Obj:=cC "steps" "Net.steps" 607 186 3 0 0 3 330 true 181 331 .none (.ref 332) (.ref 333) (.ref 334) 613 186 614
noncomputable def b336:Obj:=fO (FN "steps" "Net.steps" (am (top 38) 9) .none .none .none (.str "edgetally.net" 464) none (.ref 335) .none)
noncomputable def b339:Obj:=tO [(.str "self" 619)]
noncomputable def b341:Obj:=fB "paper" "Net.paper" (am (top 38) 10)
noncomputable def b342:Obj:=cC "paper" "Net.paper" 616 189 1 0 0 3 337 true 181 338 .none (.ref 339) (.ref 340) (.ref 341) 620 189 621
noncomputable def b343:Obj:=fO (FN "paper" "Net.paper" (am (top 38) 10) .none .none .none (.str "edgetally.net" 464) none (.ref 342) .none)
noncomputable def b344:Obj:=tO [(.str "column_list" 623),(.str "counted" 624),(.str "pairs" 625),(.str "row_list" 626)]
noncomputable def JX:Obj:=⟨(.type "dict"),none,(.dict #[(E P "__module__" 532 (.str "edgetally.net" 464)),(E P "__firstlineno__" 536 (.int 152 535)),(eR P "__init__" 548 275),(eR P "__eq__" 556 282),(eR P "__len__" 563 289),(eR P "rowsums" 570 296),(eR P "columnsums" 577 303),(eR P "bounds" 583 308),(eR P "counts_at" 592 315),(eR P "tables" 599 322),(eR P "dealings" 606 329),(eR P "steps" 615 336),(eR P "paper" 622 343),(eR P "__static_attributes__" 627 344),(eR P "__dict__" 629 347),(eR P "__weakref__" 631 348),(E P "__doc__" 632 .none),(E P "__hash__" 633 .none)] 5),#[]⟩
noncomputable def JW:Obj:=⟨(.type "type"),none,(.cls ⟨"Net",[(.type "object")],[(.ref 346),(.type "object")],345,"Net",true,[],[],false,none,false⟩),#[none,none,(some (.str "Net" 525)),(some (.str "Net" 533)),(some (.builtin "object.__new__")),(some (.bool true))]⟩
noncomputable def b347:Obj:=⟨(.type "getset_descriptor"),none,(.fields #[(.str "__dict__" 628),(.ref 346),(.builtin "function.__dict__"),(.builtin "function.__dict__#set")]),#[]⟩
noncomputable def b348:Obj:=⟨(.type "getset_descriptor"),none,(.fields #[(.str "__weakref__" 630),(.ref 346),(.builtin "ExceptionGroup.__weakref__"),.none]),#[]⟩
noncomputable def b349:Obj:=⟨(.type "super"),none,(.fields #[(.ref 346),(.ref 346),(.ref 346)]),#[]⟩
noncomputable def b350:Obj:=⟨(.type "builtin_function_or_method"),none,(.fields #[(.builtin "object.__init_subclass__"),(.ref 346)]),#[]⟩
noncomputable def b353:Obj:=fB "_law_bag" "_law_bag" (top 40)
noncomputable def JV:Obj:=cF "_law_bag" 638 192 1 0 351 181 641
noncomputable def JU:Obj:=fL "_law_bag" "_law_bag" 40 354
noncomputable def b358:Obj:=tO [(.str "_law_bag_here" 647),(.str "_law_lot" 648),(.str "_law_cells" 649),(.str "_law_at" 650),(.str "_law_cell" 651)]
noncomputable def b360:Obj:=fB "_law_pull" "_law_pull" (top 41)
noncomputable def JT:Obj:=cG "_law_pull" 644 194 2 0 356 181 652
noncomputable def JS:Obj:=fL "_law_pull" "_law_pull" 41 361
noncomputable def b365:Obj:=fB "_law_same" "_law_same" (top 42)
noncomputable def JR:Obj:=cF "_law_same" 655 204 2 0 363 181 658
noncomputable def JQ:Obj:=fL "_law_same" "_law_same" 42 366
noncomputable def b370:Obj:=fB "_law_grid" "_law_grid" (top 43)
noncomputable def JP:Obj:=cF "_law_grid" 661 216 4 0 368 181 664
noncomputable def JO:Obj:=fL "_law_grid" "_law_grid" 43 371
noncomputable def b375:Obj:=tO [(.str "_law_bag_here" 670),(.str "_law_grid_here" 671),(.str "_law_lot" 672),(.str "_law_first" 673)]
noncomputable def b377:Obj:=fB "_law_wide" "_law_wide" (top 44)
noncomputable def JN:Obj:=cG "_law_wide" 667 223 1 0 373 181 674
noncomputable def JM:Obj:=fL "_law_wide" "_law_wide" 44 378
noncomputable def b382:Obj:=tO [(.str "_law_bag_here" 680),(.str "_law_way" 681),(.str "_law_block" 682),(.str "_law_columns" 683)]
noncomputable def b384:Obj:=fB "_law_large" "_law_large" (top 45)
noncomputable def JL:Obj:=cG "_law_large" 677 229 1 0 380 181 684
noncomputable def JK:Obj:=fL "_law_large" "_law_large" 45 385
noncomputable def b389:Obj:=fB "_law_turned" "_law_turned" (top 46)
noncomputable def JJ:Obj:=cF "_law_turned" 687 240 1 0 387 181 690
noncomputable def JI:Obj:=fL "_law_turned" "_law_turned" 46 390
noncomputable def b394:Obj:=fB "_law_rowsums" "_law_rowsums" (top 47)
noncomputable def JH:Obj:=cF "_law_rowsums" 693 242 1 0 392 181 696
noncomputable def JG:Obj:=fL "_law_rowsums" "_law_rowsums" 47 395
noncomputable def b399:Obj:=fB "_law_columnsums" "_law_columnsums" (top 48)
noncomputable def JF:Obj:=cF "_law_columnsums" 699 244 1 0 397 181 702
noncomputable def JE:Obj:=fL "_law_columnsums" "_law_columnsums" 48 400
noncomputable def b404:Obj:=tO [(.str "_law_lot" 708),(.str "_law_found" 709),(.str "_law_k" 710)]
noncomputable def b406:Obj:=fB "_law_factorial" "_law_factorial" (top 49)
noncomputable def JD:Obj:=cG "_law_factorial" 705 246 1 0 402 181 711
noncomputable def JC:Obj:=fL "_law_factorial" "_law_factorial" 49 407
noncomputable def b411:Obj:=tO [(.str "_law_parts" 717),(.str "_law_under" 718),(.str "_law_part" 719)]
noncomputable def b413:Obj:=fB "_law_ways" "_law_ways" (top 50)
noncomputable def JB:Obj:=cG "_law_ways" 714 251 1 0 409 181 720
noncomputable def JA:Obj:=fL "_law_ways" "_law_ways" 50 414
noncomputable def b418:Obj:=tO [(.str "_law_script" 726),(.str "_law_bag_here" 727),(.str "_law_grid_here" 728),(.str "_law_rowsums_here" 729),(.str "_law_columnsums_here" 730),(.str "_law_due" 731),(.str "_law_net" 732),(.str "_law_other" 733)]
noncomputable def b420:Obj:=fB "law" "law" (top 51)
noncomputable def Jz:Obj:=cG "law" 723 256 1 0 416 181 734
noncomputable def Jy:Obj:=fL "law" "law" 51 421
noncomputable def h0_3:Obj:=⟨(.type "dict"),none,(.dict (((mL P).take 9).set 0 (E P "__name__" 165 (.str "__main__" 164))).toArray 9),#[]⟩
noncomputable def L7:Obj:=nO []
noncomputable def h1_3:Obj:=⟨(.type "dict"),none,(.dict (((mL P).take 9).set 0 (E P "__name__" 165 (.str "__main__" 164))).toArray 9),#[]⟩
noncomputable def LX:Obj:=nO [(.int 1 0),(.int 0 0),(.ref 20),(.int 5 0),(.int 0 0),(.ref 27),(.int 10 0),(.int 0 0),(.ref 47),(.int 14 0),(.int 0 0),(.ref 67),(.int 18 0),(.int 0 0),(.ref 87)]
noncomputable def k1_3:Obj:=⟨(.type "dict"),none,(.dict (((mL P).take 14).set 0 (E P "__name__" 165 (.str "edgetally.errors" 194))).toArray 14),#[]⟩
noncomputable def LW:Obj:=⟨(.type "type"),none,(.cls ⟨"EdgeError",[(.type "ValueError")],[(.ref 38),(.type "ValueError"),(.type "Exception"),(.type "BaseException"),(.type "object")],37,"EdgeError",true,[],[(.ref 59),(.ref 79),(.ref 98)],false,none,false⟩),#[(some (.ref 22)),none,(some (.str "EdgeError" 196)),(some (.str "EdgeError" 204)),(some (.builtin "ValueError.__new__")),(some (.bool true))]⟩
noncomputable def LV:Obj:=nO [(.int 1 0),(.int 0 0),(.ref 20),(.int 5 0),(.int 0 0),(.ref 27),(.int 10 0),(.int 0 0),(.ref 47),(.int 14 0),(.int 0 0),(.ref 67),(.int 18 0),(.int 0 0),(.ref 87),(.int 23 0),(.int 0 0),(.ref 106),(.int 29 0),(.int 0 0),(.ref 125),(.int 38 0),(.int 0 0),(.ref 145),(.int 40 0),(.int 0 0),(.ref 150),(.int 51 0),(.int 0 0),(.ref 157),(.int 55 0),(.int 0 0),(.ref 162),(.int 65 0),(.int 0 0),(.ref 169),(.int 70 0),(.int 0 0),(.ref 176),(.int 78 0),(.int 0 0),(.ref 181),(.int 88 0),(.int 0 0),(.ref 186),(.int 90 0),(.int 0 0),(.ref 191),(.int 93 0),(.int 0 0),(.ref 196),(.int 95 0),(.int 0 0),(.ref 201),(.int 97 0),(.int 0 0),(.ref 206),(.int 99 0),(.int 0 0),(.ref 211),(.int 104 0),(.int 0 0),(.ref 218)]
noncomputable def k2_3:Obj:=⟨(.type "dict"),none,(.dict (((mL P).take 35).set 0 (E P "__name__" 165 (.str "edgetally.net" 464))).toArray 35),#[]⟩
noncomputable def LU:Obj:=nO [(.int 1 0),(.int 0 0),(.ref 20),(.int 5 0),(.int 0 0),(.ref 27),(.int 10 0),(.int 0 0),(.ref 47),(.int 14 0),(.int 0 0),(.ref 67),(.int 18 0),(.int 0 0),(.ref 87),(.int 23 0),(.int 0 0),(.ref 106),(.int 29 0),(.int 0 0),(.ref 125),(.int 38 0),(.int 0 0),(.ref 145),(.int 40 0),(.int 0 0),(.ref 150),(.int 51 0),(.int 0 0),(.ref 157),(.int 55 0),(.int 0 0),(.ref 162),(.int 65 0),(.int 0 0),(.ref 169),(.int 70 0),(.int 0 0),(.ref 176),(.int 78 0),(.int 0 0),(.ref 181),(.int 88 0),(.int 0 0),(.ref 186),(.int 90 0),(.int 0 0),(.ref 191),(.int 93 0),(.int 0 0),(.ref 196),(.int 95 0),(.int 0 0),(.ref 201),(.int 97 0),(.int 0 0),(.ref 206),(.int 99 0),(.int 0 0),(.ref 211),(.int 104 0),(.int 0 0),(.ref 218),(.int 111 0),(.int 0 0),(.ref 225),(.int 117 0),(.int 0 0),(.ref 232),(.int 122 0),(.int 0 0),(.ref 237),(.int 124 0),(.int 0 0),(.ref 242),(.int 126 0),(.int 0 0),(.ref 247),(.int 134 0),(.int 0 0),(.ref 254),(.int 142 0),(.int 0 0),(.ref 259),(.int 152 0),(.int 0 0),(.ref 266),(.int 192 0),(.int 0 0),(.ref 354),(.int 194 0),(.int 0 0),(.ref 361),(.int 204 0),(.int 0 0),(.ref 366),(.int 216 0),(.int 0 0),(.ref 371),(.int 223 0),(.int 0 0),(.ref 378),(.int 229 0),(.int 0 0),(.ref 385),(.int 240 0),(.int 0 0),(.ref 390),(.int 242 0),(.int 0 0),(.ref 395)]
noncomputable def k3_3:Obj:=⟨(.type "dict"),none,(.dict ((mL P).take 51).toArray 51),#[]⟩
noncomputable def kL:List Obj:=[b0 P,b1 P,b2,b3 P,b4,b5,b6,b7,b8,b9,b10,b7,b12,b13,b14,b7,b8,b17,b7,b19,b20,b21,b22,b23,b24 P,b7,b26,b27,b28,b7,b8,b31,b7,b33,b34,b35,b36,b37 P,b38,b39,b40,b41,b42,b23,b44 P,b7,b46,b47,b48,b49,b7,b8,b52,b7,b54,b55,b56,b7,b58 P,b59,b60,b61,b42,b23,b64 P,b7,b66,b67,b68,b69,b7,b8,b72,b7,b74,b75,b76,b7,b78 P,b79,b80,b81,b42,b23,b84 P,b7,b86,b87,b88,b7,b8,b91,b7,b93,b94,b95,b96,b97 P,b98,b99,b100,b42,b23,b103 P,b7,b105,b106,b107,b7,b8,b110,b7,b112,b113,b114,b115,b116 P,b117,b118,b119,b42,b23,b122 P,b7,b124,b125,b126,KZ,b7,b8,b130,b7,b132,KY,KW,b7,KU P,KS,b138,b139,KR,KQ P,b7,b8,b144,KP,KO,b7,b8,b149,KN,KM,b7,b8,b154,b7,b156,KK,KJ,b7,b8,b161,KI,KG,b7,b8,b166,b7,b168,KF,KE,b7,b8,b173,b7,b175,KD,KC,b7,b8,b180,KA,Kz,b7,b8,b185,Ky,Kx,b7,b8,b190,Kw,Kv,b7,b8,b195,Ku,Kt,b7,b8,b200,Ks,Kr,b7,b8,b205,Kq,Kp,b7,b8,b210,Ko,Kn,b7,b8,b215,b7,b217,Km,Kl,b7,b8,b222,b7,b224,Kk,Kj,b7,b8,b229,b7,b231,Ki,Kh,b7,b8,b236,Kg,Kf,b7,b8,b241,Ke,Kd,b7,b8,b246,Kc,Kb,b7,b8,b251,b7,b253,Ka,J9,b7,b8,b258,J8,J7,b7,b23,b263 P,b7,b265,b266,b267,J6 P,b7,b8,b271,b7,b273,J5,J4,b7,b8,b278,b7,b280,b281,b282,b7,b8,b285,b7,b287,b288,b289,b7,b8,b292,b7,b294,b295,b296,b7,b8,b299,b7,b301,b302,b303,b7,b8,b306,b307,b308,b7,b8,b311,b7,b313,J3,J2,b7,b8,b318,b7,b320,J1,J0,b7,b8,b325,b7,b327,JZ,JY,b7,b8,b332,b7,b334,b335,b336,b7,b8,b339,b7,b341,b342,b343,b344,JX P,JW,b347,b348,b349,b350,b7,b8,b353,JV,JU,b7,b8,b358,b7,b360,JT,JS,b7,b8,b365,JR,JQ,b7,b8,b370,JP,JO,b7,b8,b375,b7,b377,JN,JM,b7,b8,b382,b7,b384,JL,JK,b7,b8,b389,JJ,JI,b7,b8,b394,JH,JG,b7,b8,b399,JF,JE,b7,b8,b404,b7,b406,JD,JC,b7,b8,b411,b7,b413,JB,JA,b7,b8,b418,b7,b420,Jz,Jy]
noncomputable def h0H:Heap:=⟨⟨((kL P).take 11).set 3 (h0_3 P)⟩,{}⟩
noncomputable def h1H:Heap:=⟨⟨(((kL P).take 15).set 3 (h1_3 P)).set 12 (L7)⟩,{}⟩
noncomputable def k1H:Heap:=⟨⟨((((kL P).take 101).set 3 (k1_3 P)).set 12 (LX)).set 38 (LW)⟩,{}⟩
noncomputable def k2H:Heap:=⟨⟨(((kL P).take 220).set 3 (k2_3 P)).set 12 (LV)⟩,{}⟩
noncomputable def k3H:Heap:=⟨⟨(((kL P).take 397).set 3 (k3_3 P)).set 12 (LU)⟩,{}⟩
noncomputable def k4H:Heap:=⟨⟨kL P⟩,{}⟩
end
noncomputable def KH:R9->Frag:=λP=>
[(2,b2),(3,b3 P),(34,b34),(35,b35),(37,b37 P),(38,b38),(49,b49),(55,b55),(56,b56),(58,b58 P),(59,b59),(69,b69),(75,b75),(76,b76),(78,b78 P),(79,b79),(127,KZ),(133,KY),(134,KW),(136,KU P),(137,KS),(140,KR),(141,KQ P),(145,KP),(146,KO),(150,KN),(151,KM),(157,KK),(158,KJ),(162,KI),(163,KG),(169,KF),(170,KE),(176,KD),(177,KC),(181,KA),(182,Kz),(186,Ky),(187,Kx),(191,Kw),(192,Kv),(196,Ku),(197,Kt),(201,Ks),(202,Kr),(206,Kq),(207,Kp),(211,Ko),(212,Kn),(218,Km),(219,Kl),(225,Kk),(226,Kj),(232,Ki),(233,Kh),(237,Kg),(238,Kf),(242,Ke),(243,Kd),(247,Kc),(248,Kb),(254,Ka),(255,J9),(259,J8),(260,J7),(268,J6 P),(274,J5),(275,J4),(314,J3),(315,J2),(321,J1),(322,J0),(328,JZ),(329,JY),(345,JX P),(346,JW),(354,JV),(355,JU),(361,JT),(362,JS),(366,JR),(367,JQ),(371,JP),(372,JO),(378,JN),(379,JM),(385,JL),(386,JK),(390,JJ),(391,JI),(395,JH),(396,JG),(400,JF),(401,JE),(407,JD),(408,JC),(414,JB),(415,JA),(421,Jz),(422,Jy)]
noncomputable def aH:List Addr:=[2,3,34,35,37,38,49,55,56,58,59,69,75,76,78,79,127,133,134,136,137,140,141,145,146,150,151,157,158,162,163,169,170,176,177,181,182,186,187,191,192,196,197,201,202,206,207,211,212,218,219,225,226,232,233,237,238,242,243,247,248,254,255,259,260,268,274,275,314,315,321,322,328,329,345,346,354,355,361,362,366,367,371,372,378,379,385,386,390,391,395,396,400,401,407,408,414,415,421,422]
theorem eH:∀P,aH=(KH P).map (·.1):=λ_=>by kernel_rfl
noncomputable def qH:Program:={PySem.Challenge.pw_edgetally_k16_whole_dealings_closed with main:={PySem.Challenge.pw_edgetally_k16_whole_dealings_closed.main with body:=[top 0,top 2,top 3,top 4,top 5,top 6,top 7,top 9,top 10,top 11,top 12,top 14,top 15,top 16,top 18,top 19,top 20,top 22,top 23,top 24,top 25,top 26,top 27,top 28,top 30,top 31,top 32,top 33,top 34,top 35,top 36,top 37,top 38,top 40,top 41,top 42,top 43,top 44,top 45,top 46,top 47,top 48,top 49,top 50,top 51]}}
noncomputable abbrev lvH:List (Str×PySem.W.WData):=[("FREE",PySem.W.WData.tuple [Tj 0,Tj 40])]
noncomputable abbrev loH:List Str:=["BadSums","BadBounds","BadNumber","FREE","free","Net"]
noncomputable abbrev hkH:=PySem.W.kHook KH aH eH
noncomputable def xtH(s:Ml):Bool:=PySem.W.xlAt qH lvH s&&PySem.W.recOk (PySem.W.RowW.records (Oi (Ox MW))) s
noncomputable abbrev pH:Program:=Ts (Oi (Ox MW))
noncomputable def bdH:List Stmt:=PySem.W.behindTheImports pH
noncomputable def evH:Env:={scope:=pH.main.scope,locals:=mainNs,globals:=mainNs,cells:=[],code:=(.ref 13),frame:=(some 14)}
noncomputable def cH:Code:= .body bdH evH
noncomputable abbrev tpH:List Frame:=[PySem.W.topFrame ⟨0,0,0,0⟩]
theorem opH(w:MY):(PySem.W.fencedOpening N5 pH w 6284).map (λs=>(s.heap,s.gens,s.drawn,s.toks))=some (h0H w.params,#[],{},181):=by kernel_rfl
theorem szH(w:MY):((h0H w.params).isNs Oe&&(#[]:Array GenState).size==0,(h0H w.params).objs.size,(h0H w.params).nsMap Oe "__annotations__")=(true,11,(some (.ref 6))):=by kernel_rfl
theorem r1H(w:MY)(os:RO):PySem.W.topGo N5 pH w 11 (some (.ref 6)) 12 ⟨h0H w.params,#[],{},181,os⟩ (Vh pH)=some (⟨h1H w.params,#[],{},187,os⟩,⟨denote N5 (.body bdH evH),cH,⟨0,0,0,0⟩,tpH⟩):=by kernel_rfl
theorem r2H(w:MY)(os:RO):Qs N5 pH w 11 (some (.ref 6)) 1 1 ⟨h1H w.params,#[],{},187,os⟩ (PySem.W.blockOf bdH evH cH ⟨0,0,0,0⟩ tpH)=some (.next,⟨h1H w.params,#[],{},187,os⟩,cH,⟨0,0,0,0⟩):=by kernel_rfl
theorem c1H(w:MY)(os:RO):Qs N5 pH w 11 (some (.ref 6)) 1 995 ⟨h1H w.params,#[],{},187,os⟩ (Q4 (bdH.take 6) evH cH ⟨0,0,0,0⟩ tpH)=some (.next,⟨k1H w.params,#[],{},299,os⟩,cH,⟨18,0,22,24⟩):=by kernel_rfl
theorem c2H(w:MY)(os:RO):Qs N5 pH w 11 (some (.ref 6)) 1 972 ⟨k1H w.params,#[],{},299,os⟩ (Q4 ((bdH.drop 6).take 25) evH cH ⟨18,0,22,24⟩ tpH)=some (.next,⟨k2H w.params,#[],{},468,os⟩,cH,⟨110,0,110,4⟩):=by kernel_rfl
theorem c3H(w:MY)(os:RO):Qs N5 pH w 11 (some (.ref 6)) 1 991 ⟨k2H w.params,#[],{},468,os⟩ (Q4 (((bdH.drop 6).drop 25).take 17) evH cH ⟨110,0,110,4⟩ tpH)=some (.next,⟨k3H w.params,#[],{},699,os⟩,cH,⟨242,0,243,57⟩):=by kernel_rfl
theorem c4H(w:MY)(os:RO):Qs N5 pH w 11 (some (.ref 6)) 1 125 ⟨k3H w.params,#[],{},699,os⟩ (Q4 ((((bdH.drop 6).drop 25).drop 17).take 4) evH cH ⟨242,0,243,57⟩ tpH)=some (.next,⟨k4H w.params,#[],{},737,os⟩,cH,⟨256,0,266,107⟩):=by kernel_rfl
theorem e0H:((((bdH.drop 6).drop 25).drop 17).drop 4)=[]:=by kernel_rfl
theorem r9H(w:MY)(os:RO):Vx N5 pH w 11 (some (.ref 6)) 2 ⟨k4H w.params,#[],{},737,os⟩ ⟨PySem.W.doneF .next,cH,⟨256,0,266,107⟩,tpH⟩=some ⟨k4H w.params,#[],{},737,os⟩:=by kernel_rfl
theorem rnH(w:MY)(os:RO):Vx N5 pH w 11 (some (.ref 6)) (12+(1+(995+(972+(991+(125+2)))))) ⟨h0H w.params,#[],{},181,os⟩ (Vh pH)=some ⟨k4H w.params,#[],{},737,os⟩:=PySem.W.go_top (r1H w os) (PySem.W.piece_block (r2H w os) (j8 6 (c1H w os) (j8 25 (c2H w os) (j8 17 (c3H w os) (j8 4 (c4H w os) (BR e0H (r9H w os)))))))
theorem hlH:PySem.W.LeftO pH qH loH xtH (PySem.W.Hook.obs hkH) (PySem.W.Hook.val hkH) 6284:=PySem.W.LeftO.of_pieces (H₀:=h0H) (H₁:=k4H) opH szH rnH (by decide +kernel) λw=>by kernel_rfl
theorem wsH:PySem.W.OpenLaw.wellSaid MW=true:=by decide +kernel
theorem okH:(PySem.W.chainsOk qH&&PySem.W.opensWell (Ts (Oi (Ox MW)))&&(PySem.W.frees (Oi (Ox MW))&&(PySem.W.RowW.within (Oi (Ox MW))).isEmpty))=true:=by decide +kernel
noncomputable abbrev adH:Ad:={Aa:=38,Ab:=35,Ac:=FN "__init__" "EdgeError.__init__" (am (top 2) 0) .none .none .none (.str "edgetally.errors" 194) none (.ref 34) .none,Ae:=59,Af:=56,Ag:=FN "__init__" "BadSums.__init__" (am (top 3) 0) (.ref 49) .none .none (.str "edgetally.errors" 194) none (.ref 55) .none,Ah:=79,Ai:=76,Aj:=FN "__init__" "BadBounds.__init__" (am (top 4) 0) (.ref 69) .none .none (.str "edgetally.errors" 194) none (.ref 75) .none,Ak:=137,Al:=134,Am:=FN "__init__" "BadNumber.__init__" (am (top 7) 0) (.ref 127) .none .none (.str "edgetally.errors" 194) none (.ref 133) .none,An:=346,Ao:=146,Aq:=FN "free" "free" (top 13) .none (.ref 141) .none (.str "edgetally.bounds" 351) none (.ref 145) .none,Ar:=151,As:=FN "check_sums" "check_sums" (top 14) .none .none .none (.str "edgetally.bounds" 351) none (.ref 150) .none,At:=158,Au:=FN "check_pair" "check_pair" (top 15) .none .none .none (.str "edgetally.bounds" 351) none (.ref 157) .none,Av:=163,Aw:=FN "settled_bounds" "settled_bounds" (top 16) .none .none .none (.str "edgetally.bounds" 351) none (.ref 162) .none,Ax:=170,Ay:=FN "factorial" "factorial" (top 18) .none .none .none (.str "edgetally.counts" 389) none (.ref 169) .none,Az:=177,A0:=FN "ways" "ways" (top 19) .none .none .none (.str "edgetally.counts" 389) none (.ref 176) .none,A1:=182,A2:=FN "fillings" "fillings" (top 20) .none .none .none (.str "edgetally.counts" 389) none (.ref 181) .none,A3:=187,A4:=FN "need_of" "need_of" (top 22) .none .none .none (.str "edgetally.fits" 415) none (.ref 186) .none,A5:=192,A6:=FN "room_inside" "room_inside" (top 23) .none .none .none (.str "edgetally.fits" 415) none (.ref 191) .none,A7:=197,A8:=FN "room_beside" "room_beside" (top 24) .none .none .none (.str "edgetally.fits" 415) none (.ref 196) .none,A9:=202,Ba:=FN "room_of" "room_of" (top 25) .none .none .none (.str "edgetally.fits" 415) none (.ref 201) .none,Bb:=207,Bc:=FN "narrowest" "narrowest" (top 26) .none .none .none (.str "edgetally.fits" 415) none (.ref 206) .none,Bd:=212,Be:=FN "choices" "choices" (top 27) .none .none .none (.str "edgetally.fits" 415) none (.ref 211) .none,Bf:=219,Bh:=FN "check_fit" "check_fit" (top 28) .none .none .none (.str "edgetally.fits" 415) none (.ref 218) .none,Bi:=226,Bj:=FN "check_wide" "check_wide" (top 31) .none .none .none (.str "edgetally.net" 464) none (.ref 225) .none,Bk:=233,Bl:=FN "settled_for_net" "settled_for_net" (top 32) .none .none .none (.str "edgetally.net" 464) none (.ref 232) .none,Bm:=238,Bn:=FN "column_fillings" "column_fillings" (top 33) .none .none .none (.str "edgetally.net" 464) none (.ref 237) .none,Bo:=243,Bp:=FN "rests_behind" "rests_behind" (top 34) .none .none .none (.str "edgetally.net" 464) none (.ref 242) .none,Bq:=248,Br:=FN "nodes_by_level" "nodes_by_level" (top 35) .none .none .none (.str "edgetally.net" 464) none (.ref 247) .none,Bs:=255,Bt:=FN "node_counts" "node_counts" (top 36) .none .none .none (.str "edgetally.net" 464) none (.ref 254) .none,Bu:=260,Bv:=FN "counted_nodes" "counted_nodes" (top 37) .none .none .none (.str "edgetally.net" 464) none (.ref 259) .none,Bw:=355,Bx:=FN "_law_bag" "_law_bag" (top 40) .none .none .none (.str "law_edgetally_k16_whole_dealings_closed" 636) none (.ref 354) .none,By:=362,Bz:=FN "_law_pull" "_law_pull" (top 41) .none .none .none (.str "law_edgetally_k16_whole_dealings_closed" 636) none (.ref 361) .none,B0:=367,B3:=FN "_law_same" "_law_same" (top 42) .none .none .none (.str "law_edgetally_k16_whole_dealings_closed" 636) none (.ref 366) .none,B4:=372,B5:=FN "_law_grid" "_law_grid" (top 43) .none .none .none (.str "law_edgetally_k16_whole_dealings_closed" 636) none (.ref 371) .none,B7:=379,B8:=FN "_law_wide" "_law_wide" (top 44) .none .none .none (.str "law_edgetally_k16_whole_dealings_closed" 636) none (.ref 378) .none,Ca:=386,Cb:=FN "_law_large" "_law_large" (top 45) .none .none .none (.str "law_edgetally_k16_whole_dealings_closed" 636) none (.ref 385) .none,Cc:=391,Cd:=FN "_law_turned" "_law_turned" (top 46) .none .none .none (.str "law_edgetally_k16_whole_dealings_closed" 636) none (.ref 390) .none,Cf:=396,Cg:=FN "_law_rowsums" "_law_rowsums" (top 47) .none .none .none (.str "law_edgetally_k16_whole_dealings_closed" 636) none (.ref 395) .none,Ch:=401,Ci:=FN "_law_columnsums" "_law_columnsums" (top 48) .none .none .none (.str "law_edgetally_k16_whole_dealings_closed" 636) none (.ref 400) .none,Cj:=408,Ck:=FN "_law_factorial" "_law_factorial" (top 49) .none .none .none (.str "law_edgetally_k16_whole_dealings_closed" 636) none (.ref 407) .none,Cl:=415,Cm:=FN "_law_ways" "_law_ways" (top 50) .none .none .none (.str "law_edgetally_k16_whole_dealings_closed" 636) none (.ref 414) .none,Cn:=275,Co:=FN "__init__" "Net.__init__" (am (top 38) 0) .none (.ref 268) .none (.str "edgetally.net" 464) none (.ref 274) .none,Cp:=329,Cq:=FN "dealings" "Net.dealings" (am (top 38) 8) .none .none .none (.str "edgetally.net" 464) none (.ref 328) .none,Cr:=315,Cs:=FN "counts_at" "Net.counts_at" (am (top 38) 6) .none .none .none (.str "edgetally.net" 464) none (.ref 314) .none,Ct:=322,Cu:=FN "tables" "Net.tables" (am (top 38) 7) .none .none .none (.str "edgetally.net" 464) none (.ref 321) .none,Cv:=422,Cw:=FN "law" "law" (top 51) .none .none .none (.str "law_edgetally_k16_whole_dealings_closed" 636) none (.ref 421) .none}
section
variable{P:R9}{h:Heap}{mg:Str->Option Mh}
theorem fH{x q:Str}{s:Stmt}{f:Addr}{a kV b d cd ct:Mh}{e:Option Addr}(l:(KH P).lookup f=some (fO (FN x q s a kV b d e cd ct)):=by kernel_rfl)(c:Qr (KH P) cd q=true:=by kernel_rfl)(k:RA (KH P) (.ref f)=true:=by kernel_rfl):FunD (KH P) x q s f (FN x q s a kV b d e cd ct):=GZ l c k
theorem mO(X:(KH P).In h)(G:h.Ns Oe mg){n:Str}{v:Mh}(e:PySem.W.nsIn (KH P) Oe n=some (some v):=by kernel_rfl):mg n=some v:=mg_of X G e
theorem mN(X:(KH P).In h)(G:h.Ns Oe mg){n:Str}(e:PySem.W.nsIn (KH P) Oe n=some none:=by kernel_rfl):mg n=none:=PySem.W.mg_none_of X G e
theorem nH(X:(KH P).In h)(G:h.Ns Oe mg):Fns (KH P) mg adH where
 Cy:=mN X G
 Cz:=mN X G
 C0:=mN X G
 C2:=mN X G
 C3:=mN X G
 C4:=mN X G
 C5:=mN X G
 C6:=mN X G
 C7:=mN X G
 C8:=mN X G
 C9:=mN X G
 Da:=mN X G
 Db:=mN X G
 Dd:=mN X G
 Df:=mN X G
 Dg:=mN X G
 Dh:=mN X G
 Di:=mN X G
 Dj:=oR (u:=(.int 40 353)) (mO X G) lE
 Dl:=oR (u:=(.int 6 357)) (mO X G) lE
 Dm:=oR (u:=(.int 4 355)) (mO X G) lE
 Do:=oR (u:=(.int 500 466)) (mO X G) lE
 Dp:=fH
 Dq:=mO X G
 Dr:=zq (us:=[(.ref 140)]) 2 rfl (λs us b a=>by obtain⟨c,d,rfl⟩:=lU2 a;exact UX b λS=>by kernel_rfl) (vD (EH (p:=140) (q1:=(.type "tuple")) (q2:=none) (q3:=#[(.int 0 359),(.int 40 353)]) (q4:=0) (q5:=#[]) (by kernel_rfl) rfl (by decide) (by repeat (first|exact trivial|refine⟨rfl,?_⟩))) zm)
 Dt:=fH
 Du:=mO X G
 Dv:= .all (bA2 λ_ _=>rfl)
 Dw:=fH
 Dx:=mO X G
 Dy:= .all (bA1 λ_=>rfl)
 Dz:=fH
 D0:=mO X G
 D3:= .all (bA3 λ_ _ _=>rfl)
 D4:=fH
 D5:=mO X G
 D6:= .all (bA1 λ_=>rfl)
 D7:=fH
 D8:=mO X G
 D9:= .all (bA1 λ_=>rfl)
 Ea:=fH
 Eb:=mO X G
 Ec:= .all (bA3 λ_ _ _=>rfl)
 Ed:=fH
 Ee:=mO X G
 Ef:= .all (bA2 λ_ _=>rfl)
 Eg:=fH
 Eh:=mO X G
 Ei:= .all (bA4 λ_ _ _ _=>rfl)
 Ej:=fH
 Ek:=mO X G
 El:= .all (bA3 λ_ _ _=>rfl)
 Em:=fH
 En:=mO X G
 Eo:= .all (bA4 λ_ _ _ _=>rfl)
 Ep:=fH
 Er:=mO X G
 Es:= .all (bA3 λ_ _ _=>rfl)
 Et:=fH
 Eu:=mO X G
 Ev:= .all (bA1 λ_=>rfl)
 Ew:=fH
 Ex:=mO X G
 Ey:= .all (bA3 λ_ _ _=>rfl)
 Ez:=fH
 E2:=mO X G
 E3:= .all (bA1 λ_=>rfl)
 E4:=fH
 E5:=mO X G
 E6:= .all (bA3 λ_ _ _=>rfl)
 E7:=fH
 E8:=mO X G
 E9:= .all (bA4 λ_ _ _ _=>rfl)
 Fa:=fH
 Fb:=mO X G
 Fc:= .all (bA2 λ_ _=>rfl)
 Fd:=fH
 Fe:=mO X G
 Ff:= .all (bA3 λ_ _ _=>rfl)
 Fg:=fH
 Fh:=mO X G
 Fi:= .all (bA3 λ_ _ _=>rfl)
 Fj:=fH
 Fk:=mO X G
 Fl:= .all (bA3 λ_ _ _=>rfl)
 Fm:=fH
 Fn:=mO X G
 Fo:= .all (bA1 λ_=>rfl)
 Fp:=fH
 Fq:=mO X G
 Fs:= .all (bA2 λ_ _=>rfl)
 Ft:=fH
 Fu:=mO X G
 Fw:= .all (bA2 λ_ _=>rfl)
 Fy:=fH
 Fz:=mO X G
 F4:= .all (bA4 λ_ _ _ _=>rfl)
 F5:=fH
 F6:=mO X G
 F7:= .all (bA1 λ_=>rfl)
 F8:=fH
 F9:=mO X G
 Ga:= .all (bA1 λ_=>rfl)
 Gb:=fH
 Gc:=mO X G
 Gd:= .all (bA1 λ_=>rfl)
 Ge:=fH
 Gf:=mO X G
 Gg:= .all (bA1 λ_=>rfl)
 Gi:=fH
 Gj:=mO X G
 Gk:= .all (bA1 λ_=>rfl)
 Gm:=fH
 Gn:=mO X G
 Go:= .all (bA1 λ_=>rfl)
 Gp:=fH
 Gq:=mO X G
 Gr:= .all (bA1 λ_=>rfl)
 Gs:=fH
 Gu:=⟨by kernel_rfl,by kernel_rfl,by kernel_rfl,by kernel_rfl⟩
 Gv:=zq (us:=[.none]) 3 rfl (λs us b a=>by obtain⟨c,d,e,rfl⟩:=lU3 a;exact UX b λS=>by kernel_rfl) (vD EI zm)
 Gx:=LT (sv:=[.kw 0]) (.kw .nil) rfl (by decide) λs us i b f g=>by obtain⟨c,d,e,rfl⟩:=lU3 f;obtain⟨j,rfl⟩:=lU1 g;exact .of_eq rfl
 Gy:=fH
 Gz:=⟨by kernel_rfl,by kernel_rfl,by kernel_rfl⟩
 G0:= .all (bA1 λ_=>rfl)
 G1:=fH
 G2:=⟨by kernel_rfl,by kernel_rfl,by kernel_rfl⟩
 G3:= .all (bA3 λ_ _ _=>rfl)
 G4:=fH
 G5:=⟨by kernel_rfl,by kernel_rfl,by kernel_rfl⟩
 G6:= .all (bA1 λ_=>rfl)
 G7:=⟨by kernel_rfl,by kernel_rfl,by kernel_rfl,by kernel_rfl⟩
 G8:=mO X G
 G9:=show Om (KH P) _ _=_ by kernel_rfl
 Ha:=show Om (KH P) _ _=_ by kernel_rfl
 Hb:=show Om (KH P) _ _=_ by kernel_rfl
 Hc:=show Om (KH P) _ _=_ by kernel_rfl
 Hd:=fH
 He:= .all (bA3 λ_ _ _=>rfl)
 Hf:=mO X G
 Hg:=fH
 Hh:=λs us b a=>by rw[M2]at a;obtain⟨_,_,rfl⟩:=lU2 a;exact RF (T:=49) rfl (b _ _ (show(KH P).lookup 49=some (tO [(.str "these sums are no table's" 236)]) by kernel_rfl)) rfl rfl rfl
 Hi:=mO X G
 Hj:=⟨vU (N:=58) (nm:="BadSums") (q:="BadSums") (bs:=[(.ref 38)]) (bm:=[(.ref 38),(.type "ValueError"),(.type "Exception"),(.type "BaseException"),(.type "object")]) (hdct:=true) (sn:=[]) (sub:=[]) (ab:=false) (col:=none) (dd:=none) (k0:=(some (.ref 42))) (k1:=none) (k2:=(some (.str "BadSums" 224))) (k3:=(some (.str "BadSums" 232))) (k5:=(some (.bool true))) (cd:=⟨"BadSums",[(.ref 38)],[(.ref 59),(.ref 38),(.type "ValueError"),(.type "Exception"),(.type "BaseException"),(.type "object")],58,"BadSums",true,[],[],false,none,false⟩) (by kernel_rfl) (by kernel_rfl) (by kernel_rfl) (by kernel_rfl),by kernel_rfl,by kernel_rfl,by kernel_rfl⟩
 Hk:=by kernel_rfl
 Hl:=fH
 Hm:=λs us b a=>by rw[M2]at a;obtain⟨_,_,rfl⟩:=lU2 a;exact RF (T:=69) rfl (b _ _ (show(KH P).lookup 69=some (tO [(.str "these bounds are no table's" 261)]) by kernel_rfl)) rfl rfl rfl
 Hn:=mO X G
 Ho:=⟨vU (N:=78) (nm:="BadBounds") (q:="BadBounds") (bs:=[(.ref 38)]) (bm:=[(.ref 38),(.type "ValueError"),(.type "Exception"),(.type "BaseException"),(.type "object")]) (hdct:=true) (sn:=[]) (sub:=[]) (ab:=false) (col:=none) (dd:=none) (k0:=(some (.ref 62))) (k1:=none) (k2:=(some (.str "BadBounds" 249))) (k3:=(some (.str "BadBounds" 257))) (k5:=(some (.bool true))) (cd:=⟨"BadBounds",[(.ref 38)],[(.ref 79),(.ref 38),(.type "ValueError"),(.type "Exception"),(.type "BaseException"),(.type "object")],78,"BadBounds",true,[],[],false,none,false⟩) (by kernel_rfl) (by kernel_rfl) (by kernel_rfl) (by kernel_rfl),by kernel_rfl,by kernel_rfl,by kernel_rfl⟩
 Hq:=by kernel_rfl
 Hr:=fH
 Ht:=λs us b a=>by rw[M2]at a;obtain⟨_,_,rfl⟩:=lU2 a;exact RF (T:=127) rfl (b _ _ (show(KH P).lookup 127=some (tO [(.str "this number is out of its bounds" 338)]) by kernel_rfl)) rfl rfl rfl
 Hu:=mO X G
 Hv:=⟨vU (N:=136) (nm:="BadNumber") (q:="BadNumber") (bs:=[(.ref 38)]) (bm:=[(.ref 38),(.type "ValueError"),(.type "Exception"),(.type "BaseException"),(.type "object")]) (hdct:=true) (sn:=[]) (sub:=[]) (ab:=false) (col:=none) (dd:=none) (k0:=(some (.ref 120))) (k1:=none) (k2:=(some (.str "BadNumber" 326))) (k3:=(some (.str "BadNumber" 334))) (k5:=(some (.bool true))) (cd:=⟨"BadNumber",[(.ref 38)],[(.ref 137),(.ref 38),(.type "ValueError"),(.type "Exception"),(.type "BaseException"),(.type "object")],136,"BadNumber",true,[],[],false,none,false⟩) (by kernel_rfl) (by kernel_rfl) (by kernel_rfl) (by kernel_rfl),by kernel_rfl,by kernel_rfl,by kernel_rfl⟩
 Hw:=by kernel_rfl
 Hx:=⟨by kernel_rfl,by kernel_rfl,by kernel_rfl,by kernel_rfl⟩
end
theorem wlkH:PySem.W.WalkO qH loH (PySem.W.XL qH lvH) (PySem.W.Hook.says hkH) (Oi (Ox MW)) (Option.get (PySem.W.defOf qH "law") rfl).1 [] (λf vs=>UY f vs):=
 L2.walk_of (n:=63) (k:=9) (x:="_law_script") (CX:=λw=>CXE _ w) (sp:=λw=>DA (KH w.params)) rfl (by decide) rfl ⟨rfl,by decide,by decide,rfl⟩ (λw h Y=>PySem.W.kIn_of Y) (λw mg i h c G b=>by
  have e:=b.symm.trans (mg_of c G (v:= .ref 422) (by kernel_rfl))
  cases e
  exact⟨FN "law" "law" (top 51) .none .none .none (.str "law_edgetally_k16_whole_dealings_closed" 636) none (.ref 421) .none,λs v=> .of_eq rfl,λbase _ _=>IT _ _ _ (a:=adH) (fH (by kernel_rfl) (by kernel_rfl) (by kernel_rfl)) (nH c G) λβ ok=>BD (K:=KH w.params) (a:=adH)  β ok⟩) (λ_ _ a ns d _ g=>⟨a,ns,rfl,g,d,λ_=>rfl⟩) λ_ _ _ _ _ h=>by obtain⟨x,C,j,_,fl⟩:=h;obtain⟨_,_,z⟩:=fl.wish;all_goals exact z
end Law
open PySem PySem.W PyProof.Rows
set_option maxHeartbeats 0 in
theorem PySem.Challenge.cw_edgetally_k16_whole_dealings_closed_holds : PySem.Challenge.rw_edgetally_k16_whole_dealings_closed.Holds := by
 w_on
 refine holds_law Law.wsH λsaid=>?_
 refine holds_open (q:=Law.qH) (loose:=Law.loH) (Xt:=Law.xtH) (XP:=XL Law.qH Law.lvH) (Yf:=Hook.obs Law.hkH) (Ya:=Hook.val Law.hkH) (YP:=Hook.says Law.hkH) (N:=6284) Law.hlH (Hook.of Law.hkH) (Hook.keeps Law.hkH) (λs e=>xl_of s (Uz.mp e).1) XL.keeps (by rfl) (by rfl) (by rfl) (λs e=>recFacts_of (Uz.mp e).2) (by rfl) said Law.okH ⟨rfl,rfl,rfl,rfl,rfl,by decide +kernel⟩ ?hw ?hc
 case hw=>w_witness2
 exact Law.wlkH
